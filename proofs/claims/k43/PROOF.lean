import PyProof.Rows.All
import Wide.All
import OpenK.AllK
import Wide.FinOn
import Lean
import PyProof.EqAt
import PyProof.EqKinds
import PyProof.TupleCall
import PyProof.MeetsSeq
import PyProof.NeKinds
import PyProof.TupleOfSeq
import PyProof.ListRange
import PyProof.TupleOfGen
import PyProof.ZipIter
import KE.KRevIter
import PyProof.StrWalks
import PyProof.StrBlock2
import PyProof.MeetsStr
import PyProof.StrCalls2
import PyProof.StrLawsIn
import KE.KIntText
import PyProof.StrLawsTight
import PyProof.StrLawsChain
import PyProof.StrLawsAffix
import PyProof.Rows.StrItems
import PyProof.Rows.ReprOcc
import KE.KDictSum
import PyProof.Rows.SeqMore
import PySem.Challenge.RW_dipkin_k43_a_watch_tells
set_option Elab.async false
set_option linter.all false
set_option maxRecDepth 100000

namespace L2
open PySem PySem.Spec PyProof.Rows


abbrev Key := Sum Int Str
def keyIs : Key → Value → Bool
  | .inl k, v => Value.isInt k v
  | .inr x, v => Value.isStrOf x v
def keyH (w : World) : Key → Int
  | .inl k => hashInt k
  | .inr x => hashStr w x
theorem keyIs_shape : ∀ {k : Key} {v : Value}, keyIs k v = true → (∃ i t, k = Sum.inl i ∧ v = Value.int i t) ∨ (∃ x t, k = Sum.inr x ∧ v = Value.str x t)
  | .inl i, v, h => by
    obtain ⟨t, e⟩ := Value.isInt_shape (k := i) (v := v) h
    exact .inl ⟨i, t, rfl, e⟩
  | .inr x, v, h => by
    obtain ⟨t, e⟩ := Value.isStrOf_shape (x := x) (v := v) h
    exact .inr ⟨x, t, rfl, e⟩
theorem key_ll (a b : Int) : decide ((Sum.inl a : Key) = Sum.inl b) = (a == b) := by
  by_cases e : a = b
  · subst e; simp
  · have h : ¬ (Sum.inl a : Key) = Sum.inl b := fun q => e (Sum.inl.inj q)
    rw [decide_eq_false h]
    exact (beq_eq_false_iff_ne.mpr e).symm
theorem key_rr (a b : Str) : decide ((Sum.inr a : Key) = Sum.inr b) = decide (a = b) := by
  by_cases e : a = b
  · subst e; simp
  · have h : ¬ (Sum.inr a : Key) = Sum.inr b := fun q => e (Sum.inr.inj q)
    rw [decide_eq_false h, decide_eq_false e]
theorem key_lr (a : Int) (b : Str) : decide ((Sum.inl a : Key) = Sum.inr b) = false := decide_eq_false (fun q => nomatch q)
theorem key_rl (a : Str) (b : Int) : decide ((Sum.inr a : Key) = Sum.inl b) = false := decide_eq_false (fun q => nomatch q)

def mixKind (prog : Program) (w : World) : PySem.KeyKind prog w Key where
  is := keyIs
  hash := keyH w
  inj := fun v a b ha hb => by
    rcases keyIs_shape ha with ⟨i, t, rfl, rfl⟩ | ⟨x, t, rfl, rfl⟩
    · rcases keyIs_shape hb with ⟨j, u, rfl, e⟩ | ⟨y, u, rfl, e⟩
      · injection e with e1 _; rw [e1]
      · exact nomatch e
    · rcases keyIs_shape hb with ⟨j, u, rfl, e⟩ | ⟨y, u, rfl, e⟩
      · exact nomatch e
      · injection e with e1 _; rw [e1]
  byValue := fun k v h => by
    rcases keyIs_shape h with ⟨i, t, rfl, rfl⟩ | ⟨x, t, rfl, rfl⟩ <;> rfl
  pyHash := fun hv h => by
    rcases keyIs_shape hv with ⟨i, t, rfl, rfl⟩ | ⟨x, t, rfl, rfl⟩
    · exact wpAny_pyHash_int h
    · exact wpAny_pyHash_str h
  eqBool := fun hu hv h => by
    rcases keyIs_shape hu with ⟨i, t, rfl, rfl⟩ | ⟨x, t, rfl, rfl⟩
    · rcases keyIs_shape hv with ⟨j, u, rfl, rfl⟩ | ⟨y, u, rfl, rfl⟩
      · rw [key_ll] at h; exact wpAny_eqBool_int h
      · rw [key_lr] at h; exact SeqAt.EqAt.int_str i t y u _ _ _ _ h
    · rcases keyIs_shape hv with ⟨j, u, rfl, rfl⟩ | ⟨y, u, rfl, rfl⟩
      · rw [key_rl] at h; exact SeqAt.EqAt.str_int x t j u _ _ _ _ h
      · rw [key_rr] at h; exact wpAny_eqBool_str h
  «strs» := fun k x t v h => by
    rcases keyIs_shape h with ⟨i, u, rfl, e⟩ | ⟨y, u, rfl, e⟩
    · exact nomatch e
    · injection e with e1 _
      subst e1
      cases v <;> rfl

end L2

namespace L2
open PySem PySem.Spec PyProof.Rows


inductive V where
  | non | bl (b : Bool) | int (i : Int) | str (x : Str) | byt (b : Array UInt8) | flt (b : UInt64) | ref (a : Addr) | ty (n : String)
  deriving DecidableEq

def RelV : V → Value → Prop
  | .non, u => u = Value.none
  | .bl b, u => u = Value.bool b
  | .int i, u => ∃ t, u = Value.int i t
  | .str x, u => ∃ t, u = Value.str x t
  | .byt b, u => ∃ t, u = Value.bytes b t
  | .flt b, u => ∃ t, u = Value.float b t
  | .ref a, u => u = Value.ref a
  | .ty n, u => u = Value.type n

abbrev Vals : List V → List Value → Prop := Paired RelV
theorem Vals.length {xs : List V} {us : List Value} (r : Vals xs us) : xs.length = us.length := Paired.length r
theorem Vals.get : ∀ {xs : List V} {us : List Value} {i : Nat} {x : V}, Vals xs us → xs[i]? = some x → ∃ u, us[i]? = some u ∧ RelV x u
  | _, _, _, _, .nil, e => by simp at e
  | _, _, 0, _, .cons r _, e => by simp at e; subst e; exact ⟨_, rfl, r⟩
  | _, _, i + 1, x, .cons _ t, e => by
    obtain ⟨u, h1, h2⟩ := Vals.get (i := i) (x := x) t (by simpa using e)
    exact ⟨u, by simpa using h1, h2⟩
theorem Vals.set {x : V} {u : Value} (r : RelV x u) : ∀ {xs : List V} {us : List Value} (i : Nat), Vals xs us → Vals (xs.set i x) (us.set i u)
  | _, _, _, .nil => .nil
  | _, _, 0, .cons _ t => .cons r t
  | _, _, i + 1, .cons q t => .cons q (Vals.set r i t)
theorem Vals.append : ∀ {xs ys : List V} {us ws : List Value}, Vals xs us → Vals ys ws → Vals (xs ++ ys) (us ++ ws)
  | _, _, _, _, .nil, s => s
  | _, _, _, _, .cons r t, s => .cons r (Vals.append t s)
theorem Vals.take : ∀ {xs : List V} {us : List Value} (n : Nat), Vals xs us → Vals (xs.take n) (us.take n)
  | _, _, 0, _ => .nil
  | _, _, _ + 1, .nil => .nil
  | _, _, n + 1, .cons r t => .cons r (Vals.take n t)
theorem Vals.drop : ∀ {xs : List V} {us : List Value} (n : Nat), Vals xs us → Vals (xs.drop n) (us.drop n)
  | _, _, 0, r => r
  | _, _, _ + 1, .nil => .nil
  | _, _, n + 1, .cons _ t => Vals.drop n t
theorem Vals.none_of : ∀ {xs : List V} {us : List Value} {i : Nat}, Vals xs us → xs[i]? = none → us[i]? = none := fun {xs us i} r e => by
  have h1 := r.length
  have h2 : xs.length ≤ i := List.getElem?_eq_none_iff.mp e
  exact List.getElem?_eq_none_iff.mpr (by omega)

def RelO : Option V → Option Value → Prop
  | some v, some u => RelV v u
  | none, none => True
  | _, _ => False
def KV {κ : Type} : List (κ × V) → List (κ × Value) → Prop := Paired fun (p : κ × V) (q : κ × Value) => p.1 = q.1 ∧ RelV p.2 q.2


def kV : Key → V
  | .inl i => .int i
  | .inr x => .str x


inductive HO where
  
  | lst (xs : List V)
  
  | tup (xs : List V)
  
  | dK (kvs : List (Key × V)) | dT (kvs : List (List Key × V))
  
  | set (S : Int → Bool) (n : Nat)
  
  | ins (C dx : Addr) (fs : List (Str × V))
  
  | own (x : Addr)
  
  | xd (fs : List (Str × V))
  
  | met (f x : Addr)
  
  | rng (lo hi : Int)
  
  | frz (o : Obj) (u : HO)
  
  | tbl (ps : Array Value)
  
  | ext (φ : Heap → Prop)

abbrev Hp := Addr → Option HO
def upd (H : Hp) (a : Addr) (o : HO) : Hp := fun b => if b = a then some o else H b
theorem upd_same {H : Hp} {a : Addr} {o : HO} : upd H a o a = some o := by unfold upd; rw [if_pos rfl]
theorem upd_ne {H : Hp} {a b : Addr} {o : HO} (h : b ≠ a) : upd H a o b = H b := by unfold upd; rw [if_neg h]
theorem ne_of_none {H : Hp} {a b : Addr} {o : HO} (h : H a = some o) (h' : H b = none) : a ≠ b := by
  intro e; subst e; rw [h] at h'; cases h'

section
variable (P : Program) (w : World)
def ObjOk (H : Hp) (h : Heap) (a : Addr) : HO → Prop
  | .lst xs => xs.length ≤ sizeLine ∧ ∃ (its : List Value) (n : Nat), Vals xs its ∧ h.get? a = some { cls := .type "list", data := .seq its.toArray n }
  | .tup xs => xs.length ≤ sizeLine ∧ ∃ its : List Value, Vals xs its ∧ IsTup h a its.toArray
  | .dK kvs => kvs.length ≤ sizeLine ∧ (a == sysModules) = false ∧ ∃ vs, KV kvs vs ∧ h.DictOf (mixKind P w) a vs
  | .dT kvs => kvs.length ≤ sizeLine ∧ (a == sysModules) = false ∧ ∃ xs : List (List Key × Addr × Value),
      Paired (fun (p : List Key × V) (q : List Key × Addr × Value) => p.1 = q.1 ∧ H q.2.1 = some (.tup (p.1.map kV)) ∧ RelV p.2 q.2.2) kvs xs ∧
      ∃ o es ep, h.get? a = some o ∧ o.ExactDict ∧ o.data = .dict es ep ∧ es.toList = xs.map (entryOfKey (tupleKind (mixKind P w))) ∧ (xs.map (·.1)).Nodup
  | .set S n => h.SetOf (intKind P w) a S n
  | .ins C dx fs => H dx = some (.own a) ∧ fs.length ≤ 1000 ∧ dx ≠ a ∧ h.get? a = some (PySem.W.instObj C dx) ∧
      ∃ mA, h.Ns1 dx mA ∧ (∀ f, RelO (fs.lookup f) (mA f)) ∧ PySem.Within mA (fs.map (·.1))
  | .own _ => ∃ o, h.get? a = some o
  | .xd fs => ∃ mA, h.Ns1 a mA ∧ ∀ f, RelO (fs.lookup f) (mA f)
  | .rng lo hi => ∃ t u v, h.get? a = some { cls := .type "range", data := .fields #[.int lo t, .int hi u, .int 1 v] }
  | .frz o u => h.get? a = some o ∧ ObjOk H h a u
  | .tbl ps => h.get? a = some { cls := .none, data := .fields ps }
  | .met f x => h.get? a = some (PySem.W.methodObj (.ref f) (.ref x))
  | .ext φ => φ h ∧ (∃ o, h.get? a = some o) ∧ ∀ h1 h2 : Heap, φ h1 → (∀ o, h1.get? a = some o → h2.get? a = some o) → φ h2

def HOk (H : Hp) (h : Heap) : Prop := ∀ a o, H a = some o → ObjOk P w H h a o
end

section
variable {P : Program} {w : World} {H H' : Hp} {h h' : Heap} {a : Addr} {o : HO}
theorem ObjOk.lt (x : ObjOk P w H h a o) : a < h.objs.size := by
  cases o with
  | lst xs => obtain ⟨_, _, _, _, e⟩ := x; exact Heap.lt_size e
  | tup xs => obtain ⟨_, _, _, p⟩ := x; exact p.lt
  | dK kvs => obtain ⟨_, _, _, _, o, _, _, e, _⟩ := x; exact Heap.lt_size e
  | dT kvs => obtain ⟨_, _, _, _, o, _, _, e, _⟩ := x; exact Heap.lt_size e
  | set S n => obtain ⟨o, _, _, _, e, _⟩ := x; exact Heap.lt_size e
  | ins C dx fs => obtain ⟨_, _, _, e, _⟩ := x; exact Heap.lt_size e
  | own y => obtain ⟨_, e⟩ := x; exact Heap.lt_size e
  | xd fs => obtain ⟨_, ⟨_, _, _, e, _⟩, _⟩ := x; exact Heap.lt_size e
  | rng lo hi => obtain ⟨_, _, _, e⟩ := x; exact Heap.lt_size e
  | frz ob u => obtain ⟨e, _⟩ := x; exact Heap.lt_size e
  | tbl ps => exact Heap.lt_size (show h.get? a = some _ from x)
  | met f y => exact Heap.lt_size (show h.get? a = some _ from x)
  | ext φ => obtain ⟨_, ⟨_, e⟩, _⟩ := x; exact Heap.lt_size e
theorem Paired.mapP {α β : Type} {F G : α → β → Prop} : ∀ {l₁ : List α} {l₂ : List β}, Paired F l₁ l₂ → (∀ a b, F a b → G a b) → Paired G l₁ l₂
  | _, _, .nil, _ => .nil
  | _, _, .cons r t, f => .cons (f _ _ r) (Paired.mapP t f)
theorem ObjOk.stay (x : ObjOk P w H h a o) (k : ∀ b u, (b = a ∨ H b = some (.own a)) → h.get? b = some u → h'.get? b = some u)
    (ho : ∀ b, H b = some (.own a) → H' b = some (.own a)) (ht : ∀ b xs, H b = some (.tup xs) → H' b = some (.tup xs)) : ObjOk P w H' h' a o := by
  induction o with
  | lst xs => obtain ⟨z, its, n, r, e⟩ := x; exact ⟨z, its, n, r, k _ _ (.inl rfl) e⟩
  | tup xs => obtain ⟨z, its, r, ob, e, c⟩ := x; exact ⟨z, its, r, ob, k _ _ (.inl rfl) e, c⟩
  | dK kvs => obtain ⟨z, y, vs, r, ob, es, ep, e, c⟩ := x; exact ⟨z, y, vs, r, ob, es, ep, k _ _ (.inl rfl) e, c⟩
  | dT kvs =>
    obtain ⟨z, y, xs, r, ob, es, ep, e, c⟩ := x
    exact ⟨z, y, xs, Paired.mapP r fun p q z => ⟨z.1, ht _ _ z.2.1, z.2.2⟩, ob, es, ep, k _ _ (.inl rfl) e, c⟩
  | set S n => obtain ⟨ob, es, ep, t, e, c⟩ := x; exact ⟨ob, es, ep, t, k _ _ (.inl rfl) e, c⟩
  | ins C dx fs =>
    obtain ⟨d, z, ne, e, mA, ⟨od, es, ep, e2, c⟩, r⟩ := x
    exact ⟨ho _ d, z, ne, k _ _ (.inl rfl) e, mA, ⟨od, es, ep, k _ _ (.inr d) e2, c⟩, r⟩
  | own y => obtain ⟨ob, e⟩ := x; exact ⟨ob, k _ _ (.inl rfl) e⟩
  | xd fs => obtain ⟨mA, ⟨od, es, ep, e, c⟩, r⟩ := x; exact ⟨mA, ⟨od, es, ep, k _ _ (.inl rfl) e, c⟩, r⟩
  | rng lo hi => obtain ⟨t, u, v, e⟩ := x; exact ⟨t, u, v, k _ _ (.inl rfl) e⟩
  | frz ob u ih => obtain ⟨e, q⟩ := x; exact ⟨k _ _ (.inl rfl) e, ih q⟩
  | tbl ps =>
    have e : h.get? a = some { cls := .none, data := .fields ps } := x
    show h'.get? a = some { cls := .none, data := .fields ps }
    exact k a _ (.inl rfl) e
  | met f y =>
    have e : h.get? a = some (PySem.W.methodObj (.ref f) (.ref y)) := x
    show h'.get? a = some (PySem.W.methodObj (.ref f) (.ref y))
    exact k a _ (.inl rfl) e
  | ext φ => obtain ⟨p, ⟨o, e⟩, st⟩ := x; exact ⟨st _ _ p fun o q => k _ _ (.inl rfl) q, ⟨o, k _ _ (.inl rfl) e⟩, st⟩
theorem HOk.lt (x : HOk P w H h) (e : H a = some o) : a < h.objs.size := (x a o e).lt
theorem HOk.fresh (x : HOk P w H h) (e : h.objs.size ≤ a) : H a = none := by
  cases q : H a with
  | none => rfl
  | some u => exact absurd (Nat.lt_of_lt_of_le (x.lt q) e) (Nat.lt_irrefl _)

theorem HOk.kept (x : HOk P w H h) (k : ∀ b u, h.get? b = some u → h'.get? b = some u) : HOk P w H h' := fun a o e =>
  (x a o e).stay (fun b u _ q => k b u q) (fun _ q => q) fun _ _ q => q

theorem HOk.laid (x : HOk P w H h) (k : ∀ b u, h.get? b = some u → h'.get? b = some u) (hp : h.objs.size ≤ a) (new : ObjOk P w (upd H a o) h' a o) : HOk P w (upd H a o) h' := fun b u e => by
  have hn := x.fresh hp
  by_cases hb : b = a
  · subst hb; rw [upd_same] at e; cases e; exact new
  · rw [upd_ne hb] at e
    exact (x b u e).stay (fun c v _ q => k c v q) (fun c q => by rw [upd_ne (ne_of_none q hn)]; exact q) fun c xs q => by rw [upd_ne (ne_of_none q hn)]; exact q
end


def Rd (H : Hp) (a : Addr) (u : HO) : Prop := H a = some u ∨ ∃ o, H a = some (.frz o u)
theorem Rd.of {H : Hp} {a : Addr} {u : HO} (h : H a = some u) : Rd H a u := .inl h
theorem Rd.ok {P : Program} {w : World} {H : Hp} {h : Heap} {a : Addr} {u : HO} (r : Rd H a u) (x : HOk P w H h) : ObjOk P w H h a u := by
  rcases r with r | ⟨o, r⟩
  · exact x a u r
  · obtain ⟨_, q⟩ := x a _ r
    exact q

def Mut : Option HO → Prop
  | some (.lst _) => True
  | some (.dK _) => True
  | some (.dT _) => True
  | some (.set _ _) => True
  | some (.ins _ _ _) => True
  | some (.ext _) => True
  | _ => False
section
variable {P : Program} {w : World} {H : Hp} {h h' : Heap} {x e : Addr} {o' : HO}

theorem HOk.write (ok : HOk P w H h) (mu : Mut (H x)) (he : e = x ∨ H e = some (.own x)) (k : ∀ b u, b ≠ e → h.get? b = some u → h'.get? b = some u) (heo : ∃ u, h'.get? e = some u)
    (new : ObjOk P w (upd H x o') h' x o') : HOk P w (upd H x o') h' := fun b u q => by
  have nown : ∀ c y, H c = some (.own y) → c ≠ x := fun c y r z => by subst z; rw [r] at mu; exact mu
  have ntup : ∀ c xs, H c = some (.tup xs) → c ≠ x := fun c xs r z => by subst z; rw [r] at mu; exact mu
  by_cases hb : b = x
  · subst hb; rw [upd_same] at q; cases q; exact new
  · rw [upd_ne hb] at q
    by_cases hbe : b = e
    · have q' : H b = some (.own x) := by
        rcases he with z | z
        · exact absurd (hbe.trans z) hb
        · rw [hbe]; exact z
      rw [q] at q'; cases q'
      obtain ⟨v, hv⟩ := heo
      exact ⟨v, by rw [hbe]; exact hv⟩
    · refine (ok b u q).stay (fun c v hc r => k c v ?_ r) (fun c r => by rw [upd_ne (nown c b r)]; exact r) fun c xs r => by rw [upd_ne (ntup c xs r)]; exact r
      rcases hc with rfl | hc
      · exact hbe
      · rintro rfl
        rcases he with z | z
        · exact nown c b hc z
        · rw [hc] at z; cases z; exact hb rfl
end


structure Un (fs ex : List Addr) (H H' : Hp) (h h' : Heap) : Prop where
  keep : ∀ b o, h.get? b = some o → H b = none → b ∉ fs → b ∉ ex → h'.get? b = some o
  slot : ∀ b o, h.get? b = some o → H b = none → b ∈ fs → b ∉ ex → ∃ sl, h'.get? b = some { o with slots := sl }
  free : ∀ b o, h.get? b = some o → H b = none → b ∉ ex → H' b = none
  there : ∀ b o, h.get? b = some o → b ∉ ex → ∃ o', h'.get? b = some o'
  tups : ∀ b xs, H b = some (.tup xs) → H' b = some (.tup xs)
  frzs : ∀ b o u, H b = some (.frz o u) → H' b = some (.frz o u)
  tbls : ∀ b ps, H b = some (.tbl ps) → ∃ more, H' b = some (.tbl (ps ++ more))
section
variable {fs fs' ex ex' : List Addr} {H H1 H2 : Hp} {h h1 h2 h' : Heap} {a x e : Addr} {o : HO}
theorem Un.any (u : Un fs ex H H1 h h1) {b : Addr} {ob : Obj} (q : h.get? b = some ob) (n : H b = none) (hx : b ∉ ex) : ∃ sl, h1.get? b = some { ob with slots := sl } := by
  by_cases hb : b ∈ fs
  · exact u.slot b ob q n hb hx
  · exact ⟨ob.slots, u.keep b ob q n hb hx⟩
theorem Un.trans (a : Un fs ex H H1 h h1) (b : Un fs ex H1 H2 h1 h2) : Un fs ex H H2 h h2 where
  keep := fun c ob q n hc hx => b.keep c ob (a.keep c ob q n hc hx) (a.free c ob q n hx) hc hx
  slot := fun c ob q n hc hx => by
    obtain ⟨sl, e1⟩ := a.slot c ob q n hc hx
    obtain ⟨sl', e2⟩ := b.slot c _ e1 (a.free c ob q n hx) hc hx
    exact ⟨sl', e2⟩
  free := fun c ob q n hx => by
    obtain ⟨o', e1⟩ := a.there c ob q hx
    exact b.free c o' e1 (a.free c ob q n hx) hx
  there := fun c ob q hx => by
    obtain ⟨o', e1⟩ := a.there c ob q hx
    exact b.there c o' e1 hx
  tups := fun c xs q => b.tups c xs (a.tups c xs q)
  frzs := fun c ob xs q => b.frzs c ob xs (a.frzs c ob xs q)
  tbls := fun c ps q => by
    obtain ⟨m1, e1⟩ := a.tbls c ps q
    obtain ⟨m2, e2⟩ := b.tbls c _ e1
    exact ⟨m1 ++ m2, by rw [e2, Array.append_assoc]⟩
theorem Un.kept (k : ∀ b u, h.get? b = some u → h'.get? b = some u) : Un fs ex H H h h' :=
  ⟨fun b ob q _ _ _ => k b ob q, fun b ob q _ _ _ => ⟨ob.slots, k b ob q⟩, fun _ _ _ n _ => n, fun b ob q _ => ⟨ob, k b ob q⟩, fun _ _ q => q, fun _ _ _ q => q, fun _ ps q => ⟨#[], by rw [q]; simp⟩⟩
theorem Un.refl : Un fs ex H H h h := Un.kept fun _ _ q => q
theorem Un.laid (k : ∀ b u, h.get? b = some u → h'.get? b = some u) (hp : h.objs.size ≤ a) (hn : H a = none) : Un fs ex H (upd H a o) h h' where
  keep := fun b u q _ _ _ => k b u q
  slot := fun b u q _ _ _ => ⟨u.slots, k b u q⟩
  free := fun b u q n _ => by rw [upd_ne (Nat.ne_of_lt (Nat.lt_of_lt_of_le (Heap.lt_size q) hp))]; exact n
  there := fun b u q _ => ⟨u, k b u q⟩
  tups := fun b xs q => by rw [upd_ne (ne_of_none q hn)]; exact q
  frzs := fun b u xs q => by rw [upd_ne (ne_of_none q hn)]; exact q
  tbls := fun b ps q => ⟨#[], by rw [upd_ne (ne_of_none q hn), q]; simp⟩
theorem Un.write (mu : Mut (H x)) (he : e = x ∨ H e = some (.own x)) (k : ∀ b u, b ≠ e → h.get? b = some u → h'.get? b = some u) (heo : ∃ u, h'.get? e = some u) : Un fs ex H (upd H x o) h h' := by
  have hx : ∀ b, H b = none → b ≠ x := fun b n z => by subst z; rw [n] at mu; exact mu
  have hb : ∀ b, H b = none → b ≠ e := fun b n z => by
    subst z
    rcases he with r | r
    · exact hx b n r
    · rw [n] at r; cases r
  have hm : ∀ b u, H b = some u → ¬ Mut (some u) → b ≠ x := fun b u q nm z => by subst z; rw [q] at mu; exact nm mu
  refine ⟨fun b u q n _ _ => k b u (hb b n) q, fun b u q n _ _ => ⟨u.slots, k b u (hb b n) q⟩, fun b u q n _ => by rw [upd_ne (hx b n)]; exact n, fun b u q _ => ?_,
    fun b xs q => by rw [upd_ne (hm b _ q fun z => z)]; exact q, fun b u xs q => by rw [upd_ne (hm b _ q fun z => z)]; exact q, fun b ps q => ⟨#[], by rw [upd_ne (hm b _ q fun z => z), q]; simp⟩⟩
  by_cases hbe : b = e
  · subst hbe; exact heo
  · exact ⟨u, k b u hbe q⟩
theorem Un.mono (u : Un fs ex H H1 h h1) (hs : ∀ b ∈ fs, b ∈ fs') (hx : ∀ b ∈ ex, b ∈ ex') : Un fs' ex' H H1 h h1 :=
  ⟨fun b ob q n hb he => u.keep b ob q n (fun z => hb (hs b z)) fun z => he (hx b z), fun _ _ q n _ he => u.any q n fun z => he (hx _ z), fun b ob q n he => u.free b ob q n fun z => he (hx b z), fun b ob q he => u.there b ob q fun z => he (hx b z), u.tups, u.frzs, u.tbls⟩
end


def trk (h : Heap) (H : Hp) : List Addr := (List.range h.objs.size).filter fun a => (H a).isSome
def hidT (h : Heap) (H : Hp) : Heap := PySem.W.hideAll h (trk h H)
theorem hidT_size (h : Heap) (H : Hp) : (hidT h H).objs.size = h.objs.size := PySem.W.hideAll_size _ _
theorem hidT_get {h : Heap} {H : Hp} {b : Addr} {o : Obj} (e : h.get? b = some o) (n : H b = none) : (hidT h H).get? b = some o :=
  PySem.W.hideAll_get _ e fun hm => by
    have q : (H b).isSome = true := (List.mem_filter.mp hm).2
    rw [n] at q; simp at q
theorem of_hidT {h : Heap} {H : Hp} {b : Addr} {o : Obj} (e : (hidT h H).get? b = some o) : h.get? b = some o ∧ H b = none := by
  have e' : h.get? b = some o := PySem.W.of_hideAll (trk h H) e
  refine ⟨e', ?_⟩
  cases q : H b with
  | none => rfl
  | some x =>
    have hm : b ∈ trk h H := List.mem_filter.mpr ⟨List.mem_range.mpr (Heap.lt_size e'), by simp [q]⟩
    have z : (hidT h H).get? b = none := PySem.W.hideAll_none (trk h H) hm
    rw [z] at e; cases e


def allNews (g h : Heap) (L : Addr) : List (Addr × Obj) := (List.range h.objs.size).filterMap fun a => if a = L ∨ (g.get? a).isSome = true then none else (h.get? a).map fun o => (a, o)
def rest (g h : Heap) (L d : Addr) : List (Addr × Obj) := (allNews g h L).filter fun p => decide (p.1 ≠ d)
end L2

namespace L2
open PySem PySem.Spec PyProof.Rows


structure Mod (K : PySem.W.Frag) (mg : Str → Option Value) (base : Heap) : Prop where
  kin : K.In base
  glob : base.Ns mainGlobals mg
  blt : ∃ mb, base.Ns builtinsNs mb ∧ ∀ x : Str, x ≠ "__name__" → mb x = bootBuiltins x
  nolimit : base.NoLimit


structure Cx where
  prog : Program
  w : World
  K : PySem.W.Frag
  mg : Str → Option Value
  base : Heap
  A : Around
  N : List Str
  s₀ : Shared
  H₀ : Hp
  env : Env
  outer : List Env
  stack : List Env
  ex : List Addr
  fn : Str → Bool
  calm : Bool
  pn : List (Addr × Obj)
  xe : Value → Shared → Prop

def frs (l : List Env) : List Addr := l.filterMap (·.frame)
abbrev Cx.fs (X : Cx) : List Addr := frs X.outer

def Vis (sc : Scope) (x : Str) : Prop := sc.names.lookup x = some .local ∨ sc.names.lookup x = some .cell ∨ sc.names.lookup x = some .free
def Loc (sc : Scope) (x : Str) : Prop := sc.names.lookup x = some .local ∨ sc.names.lookup x = some .cell
def Look (env : Env) (h : Heap) (m : Str → Option Value) (x : Str) (u : Value) : Prop :=
  (env.kindOf x = some .local ∧ m x = some u) ∨ ((env.kindOf x = some .cell ∨ env.kindOf x = some .free) ∧ ∃ c, env.cells.lookup x = some c ∧ h.IsCell c (some u))

structure Cx.Ok (X : Cx) : Prop where
  mod : Mod X.K X.mg X.base
  kind : X.env.scope.kind = .function
  glob : X.env.globals = mainGlobals
  blt : X.env.builtins = builtinsNs
  above : X.s₀.heap.objs.size ≤ X.env.locals
  inj : ∀ x y c, X.env.cells.lookup x = some c → X.env.cells.lookup y = some c → x = y
  has : ∀ x, (X.env.kindOf x = some .cell ∨ X.env.kindOf x = some .free) → ∃ c, X.env.cells.lookup x = some c
  cab : ∀ x c, X.fn x = true → X.env.cells.lookup x = some c → X.s₀.heap.objs.size ≤ c
  hd : X.calm = true → X.A.handled = none
  frames : X.A.frames = some X.stack
  stk : X.stack = X.outer ∨ (X.stack = X.env :: X.outer ∧ X.env.frame = some X.env.locals)
  exf : ∀ b ∈ X.ex, b ≠ X.env.locals ∧ ∀ x c, X.env.cells.lookup x = some c → c ≠ b
  bs : ∀ b o, X.base.get? b = some o → X.s₀.heap.get? b = some o ∧ X.H₀ b = none
  bsz : X.base.objs.size ≤ X.s₀.heap.objs.size
  noex : ∀ b o, X.base.get? b = some o → b ∉ X.ex
  exfs : ∀ b ∈ X.ex, b ∉ X.fs
  funs : X.s₀.heap.FunFrames X.base X.outer
  frf : ∀ b ∈ X.fs, X.H₀ b = none

structure Inv (X : Cx) (pins : List (Addr × Obj)) (σ : List (Option V)) (H : Hp) (s : Shared) : Prop where
  ok : X.Ok
  os : s.os = X.s₀.os
  bare : AllBare s.gens
  base : Un X.fs X.ex X.H₀ H X.s₀.heap s.heap
  loc : ∃ m, s.heap.Ns X.env.locals m ∧ ∀ (i : Nat) (x : Str) (v : V), X.N[i]? = some x → σ[i]? = some (some v) → Vis X.env.scope x → ∃ u, RelV v u ∧ Look X.env s.heap m x u
  cell : ∀ x c, X.env.cells.lookup x = some c → ∃ v, s.heap.IsCell c v
  free : H X.env.locals = none
  freeC : ∀ x c, X.env.cells.lookup x = some c → H c = none
  pin : ∀ p ∈ X.pn ++ pins, s.heap.get? p.1 = some p.2 ∧ H p.1 = none ∧ p.1 ≠ X.env.locals ∧ p.1 ∉ X.fs ∧ ∀ v, p.2.data ≠ .cell v
  hok : HOk X.prog X.w H s.heap
  len : σ.length = X.N.length

section
variable {X : Cx} {pins : List (Addr × Obj)} {σ : List (Option V)} {H H' : Hp} {s : Shared} {h' : Heap}

theorem Cx.Ok.nofr (ok : X.Ok) {b : Addr} {o : Obj} (e : X.base.get? b = some o) : b ∉ X.fs := fun hb => by
  have := (ok.funs.mem hb).1
  rw [e] at this; cases this
theorem Inv.bs (I : Inv X pins σ H s) : ∀ b o, X.base.get? b = some o → s.heap.get? b = some o ∧ H b = none := fun b o e =>
  ⟨I.base.keep b o (I.ok.bs b o e).1 (I.ok.bs b o e).2 (I.ok.nofr e) (I.ok.noex b o e), I.base.free b o (I.ok.bs b o e).1 (I.ok.bs b o e).2 (I.ok.noex b o e)⟩
theorem Inv.bk (I : Inv X pins σ H s) : ∀ b o, X.base.get? b = some o → s.heap.get? b = some o := fun b o e => (I.bs b o e).1
theorem Inv.mod (I : Inv X pins σ H s) : Mod X.K X.mg X.base := I.ok.mod
theorem Inv.kIn (I : Inv X pins σ H s) : X.K.In s.heap := I.ok.mod.kin.keeps I.bk
theorem Inv.nolimit (I : Inv X pins σ H s) : s.heap.NoLimit := I.ok.mod.nolimit.keeps I.bk

theorem Inv.fr (I : Inv X pins σ H s) : ∃ m, Fr X.base X.env.locals s.heap m :=
  let ⟨m, hn, _⟩ := I.loc
  ⟨m, hn, I.bk, Nat.le_trans I.ok.bsz I.ok.above⟩
theorem Inv.lt (I : Inv X pins σ H s) : X.env.locals < s.heap.objs.size := let ⟨_, hn, _⟩ := I.loc; hn.lt
theorem Inv.sz (I : Inv X pins σ H s) : X.s₀.heap.objs.size ≤ s.heap.objs.size := Nat.le_trans I.ok.above (Nat.le_of_lt I.lt)
theorem Inv.nofs (I : Inv X pins σ H s) {a : Addr} (h : s.heap.objs.size ≤ a) : a ∉ X.fs := fun hb => by
  obtain ⟨_, o, ho, _⟩ := I.ok.funs.mem hb
  exact absurd (Nat.lt_of_lt_of_le (Heap.lt_size ho) (Nat.le_trans I.sz h)) (Nat.lt_irrefl _)
theorem Inv.cne (I : Inv X pins σ H s) : ∀ x c, X.env.cells.lookup x = some c → c ≠ X.env.locals := fun x c e z => by
  obtain ⟨v, o, ho, hd⟩ := I.cell x c e
  obtain ⟨m, ⟨o', es, ep, ho', hd', _⟩, _⟩ := I.loc
  rw [z, ho'] at ho; cases ho; rw [hd'] at hd; cases hd
theorem Inv.funs (I : Inv X pins σ H s) : s.heap.FunFrames X.base X.outer := by
  have all : ∀ (l : List Env), (∀ b ∈ frs l, b ∈ X.fs) → X.s₀.heap.FunFrames X.base l → s.heap.FunFrames X.base l := by
    intro l
    induction l with
    | nil => intro _ _; trivial
    | cons env r ih =>
      intro hs hl
      obtain ⟨hk, ⟨L, o, hf, hn, ho, hd⟩, hr⟩ := hl
      have hL : L ∈ X.fs := hs L (by unfold frs; rw [List.filterMap_cons, hf]; exact List.mem_cons_self)
      obtain ⟨sl, e⟩ := I.base.slot L o ho (I.ok.frf L hL) hL fun z => I.ok.exfs L z hL
      exact ⟨hk, ⟨L, _, hf, hn, e, hd⟩, ih (fun b hb => hs b (by unfold frs; rw [List.filterMap_cons, hf]; exact List.mem_cons_of_mem _ hb)) hr⟩
  exact all X.outer (fun _ hb => hb) I.ok.funs


theorem Inv.stack (I : Inv X pins σ H s) : s.heap.FunFrames X.base X.stack := by
  rcases I.ok.stk with e | ⟨e, hf⟩
  · rw [e]; exact I.funs
  · rw [e]
    obtain ⟨m, hn, _⟩ := I.loc
    refine .cons (by rw [I.ok.kind]; decide) hf hn ?_ I.funs
    exact Heap.get?_none_of_le (Nat.le_trans I.ok.bsz I.ok.above)
theorem Inv.stkSub (I : Inv X pins σ H s) : ∀ b ∈ frs X.stack, b ∈ X.env.locals :: X.fs := fun b hb => by
  rcases I.ok.stk with e | ⟨e, hf⟩
  · rw [e] at hb; exact List.mem_cons_of_mem _ hb
  · rw [e] at hb
    unfold frs at hb
    rw [List.filterMap_cons, hf] at hb
    exact hb
theorem Inv.stkFree (I : Inv X pins σ H s) : ∀ b ∈ frs X.stack, H b = none := fun b hb => by
  rcases List.mem_cons.mp (I.stkSub b hb) with e | hb
  · rw [e]; exact I.free
  · obtain ⟨_, o, ho, _⟩ := I.ok.funs.mem hb
    exact I.base.free b o ho (I.ok.frf b hb) fun z => I.ok.exfs b z hb


theorem Inv.step {g' : Array GenState} {t' : Nat} {d' : Drawn} {ch : List Addr} (I : Inv X pins σ H s)
    (hch : ∀ b ∈ ch, (b ∈ X.ex ∨ X.s₀.heap.objs.size ≤ b) ∧ b ≠ X.env.locals ∧ (∀ x c, X.env.cells.lookup x = some c → c ≠ b) ∧ ∀ p ∈ X.pn ++ pins, p.1 ≠ b)
    (keep : ∀ b o, b ≠ X.env.locals → b ∉ X.fs → b ∉ ch → s.heap.get? b = some o → H b = none → h'.get? b = some o)
    (slot : ∀ b o, b ≠ X.env.locals → b ∈ X.fs → b ∉ ch → s.heap.get? b = some o → H b = none → ∃ sl, h'.get? b = some { o with slots := sl }) (free : ∀ b o, b ∉ ch → s.heap.get? b = some o → H b = none → H' b = none)
    (there : ∀ b o, b ∉ ch → s.heap.get? b = some o → ∃ o', h'.get? b = some o')
    (tups : ∀ b xs, H b = some (.tup xs) → H' b = some (.tup xs)) (frzs : ∀ b o u, H b = some (.frz o u) → H' b = some (.frz o u)) (tbls : ∀ b ps, H b = some (.tbl ps) → ∃ more, H' b = some (.tbl (ps ++ more)))
    (ns : ∀ m, s.heap.Ns X.env.locals m → h'.Ns X.env.locals m) (hok : HOk X.prog X.w H' h') (hg : AllBare g') :
    Inv X pins σ H' { s with heap := h', gens := g', drawn := d', toks := t' } := by
  have neL : ∀ b o, X.s₀.heap.get? b = some o → b ≠ X.env.locals := fun b o e => Nat.ne_of_lt (Nat.lt_of_lt_of_le (Heap.lt_size e) I.ok.above)
  have neC : ∀ b o, X.s₀.heap.get? b = some o → b ∉ X.ex → b ∉ ch := fun b o e hx hb => by
    rcases (hch b hb).1 with z | z
    · exact hx z
    · exact absurd (Nat.lt_of_lt_of_le (Heap.lt_size e) z) (Nat.lt_irrefl _)
  have cellK : ∀ x c, X.env.cells.lookup x = some c → ∀ v, s.heap.IsCell c v → h'.IsCell c v := fun x c e v ⟨o, ho, hd⟩ => by
    have nch : c ∉ ch := fun z => (hch c z).2.2.1 x c e rfl
    by_cases hc : c ∈ X.fs
    · obtain ⟨sl, q⟩ := slot c o (I.cne x c e) hc nch ho (I.freeC x c e)
      exact ⟨_, q, hd⟩
    · exact ⟨o, keep c o (I.cne x c e) hc nch ho (I.freeC x c e), hd⟩
  refine ⟨I.ok, I.os, hg, ⟨fun b o e n hb hx => ?_, fun b o e n hb hx => ?_, fun b o e n hx => ?_, fun b o e hx => ?_, fun b xs e => tups b xs (I.base.tups b xs e), fun b o xs e => frzs b o xs (I.base.frzs b o xs e), fun b ps e => ?_⟩, ?_, fun x c e => ?_, ?_, fun x c e => ?_, fun p hp => ?_, hok, I.len⟩
  · exact keep b o (neL b o e) hb (neC b o e hx) (I.base.keep b o e n hb hx) (I.base.free b o e n hx)
  · obtain ⟨sl, e1⟩ := I.base.slot b o e n hb hx
    obtain ⟨sl', e2⟩ := slot b _ (neL b o e) hb (neC b o e hx) e1 (I.base.free b o e n hx)
    exact ⟨sl', e2⟩
  · obtain ⟨o', e1⟩ := I.base.there b o e hx
    exact free b o' (neC b o e hx) e1 (I.base.free b o e n hx)
  · obtain ⟨o', e1⟩ := I.base.there b o e hx
    exact there b o' (neC b o e hx) e1
  · obtain ⟨m1, e1⟩ := I.base.tbls b ps e
    obtain ⟨m2, e2⟩ := tbls b _ e1
    exact ⟨m1 ++ m2, by rw [e2, Array.append_assoc]⟩
  · obtain ⟨m, hn, hl⟩ := I.loc
    refine ⟨m, ns m hn, fun i x v e1 e2 e3 => ?_⟩
    obtain ⟨u, r, l⟩ := hl i x v e1 e2 e3
    refine ⟨u, r, ?_⟩
    rcases l with l | ⟨k, c, e, z⟩
    · exact .inl l
    · exact .inr ⟨k, c, e, cellK x c e _ z⟩
  · obtain ⟨v, z⟩ := I.cell x c e
    exact ⟨v, cellK x c e v z⟩
  · obtain ⟨m, ⟨o, _, _, ho, _⟩, _⟩ := I.loc
    exact free _ o (fun z => (hch _ z).2.1 rfl) ho I.free
  · obtain ⟨v, o, ho, hd⟩ := I.cell x c e
    exact free c o (fun z => (hch c z).2.2.1 x c e rfl) ho (I.freeC x c e)
  · obtain ⟨e, n, ne, nf, d⟩ := I.pin p hp
    have nch : p.1 ∉ ch := fun z => (hch p.1 z).2.2.2 p hp rfl
    exact ⟨keep p.1 p.2 ne nf nch e n, free p.1 p.2 nch e n, ne, nf, d⟩

theorem Inv.un {t' : Nat} (I : Inv X pins σ H s) (u : Un X.fs [] H H' s.heap h') (hok : HOk X.prog X.w H' h') : Inv X pins σ H' { s with heap := h', toks := t' } := by
  obtain ⟨m, ⟨o, es, ep, ho, r⟩, _⟩ := id I.loc
  obtain ⟨sl, hL⟩ := u.any ho I.free (by simp)
  exact I.step (g' := s.gens) (d' := s.drawn) (ch := []) (fun _ z => nomatch z) (fun b o _ hb _ e n => u.keep b o e n hb (by simp)) (fun b o _ hb _ e n => u.slot b o e n hb (by simp)) (fun b o _ e n => u.free b o e n (by simp)) (fun b o _ e => u.there b o e (by simp)) u.tups u.frzs u.tbls (fun m' hm => by
    obtain ⟨o', es', ep', ho', r'⟩ := hm
    rw [ho] at ho'; cases ho'
    exact ⟨_, es', ep', hL, r'⟩) hok I.bare

theorem Inv.call {g' : Array GenState} {t' : Nat} {d' : Drawn} {ch : List Addr} (I : Inv X pins σ H s) (u : Un (frs X.stack) ch H H' s.heap h') (hok : HOk X.prog X.w H' h') (hg : AllBare g')
    (hch : ∀ b ∈ ch, (b ∈ X.ex ∨ X.s₀.heap.objs.size ≤ b) ∧ b ≠ X.env.locals ∧ (∀ x c, X.env.cells.lookup x = some c → c ≠ b) ∧ ∀ p ∈ X.pn ++ pins, p.1 ≠ b) :
    Inv X pins σ H' { s with heap := h', gens := g', drawn := d', toks := t' } := by
  obtain ⟨m, ⟨o, es, ep, ho, r⟩, _⟩ := id I.loc
  obtain ⟨sl, hL⟩ := u.any ho I.free fun z => (hch _ z).2.1 rfl
  exact I.step (ch := ch) hch (fun b o hL hb hc e n => u.keep b o e n (fun z => (List.mem_cons.mp (I.stkSub b z)).elim hL hb) hc) (fun b o _ _ hc e n => u.any e n hc) (fun b o hc e n => u.free b o e n hc) (fun b o hc e => u.there b o e hc) u.tups u.frzs u.tbls (fun m' hm => by
    obtain ⟨o', es', ep', ho', r'⟩ := hm
    rw [ho] at ho'; cases ho'
    exact ⟨_, es', ep', hL, r'⟩) hok hg

theorem Inv.turned {t' : Nat} {it : Addr} (I : Inv X pins σ H s) (k : ∀ b o, b ≠ it → s.heap.get? b = some o → h'.get? b = some o) (hn : H it = none) (hL : it ≠ X.env.locals)
    (h1 : it ∈ X.ex ∨ X.s₀.heap.objs.size ≤ it) (h2 : ∀ x c, X.env.cells.lookup x = some c → c ≠ it) (h3 : ∀ p ∈ X.pn ++ pins, p.1 ≠ it) : Inv X pins σ H { s with heap := h', toks := t' } := by
  have nit : ∀ b u, H b = some u → b ≠ it := fun b u e z => by rw [z, hn] at e; cases e
  refine I.step (g' := s.gens) (d' := s.drawn) (ch := [it]) (fun b hb => ?_) (fun b o _ _ hc e _ => k b o (fun z => hc (by simp [z])) e) (fun b o _ _ hc e _ => ⟨o.slots, k b o (fun z => hc (by simp [z])) e⟩) (fun _ _ _ _ n => n)
    (fun b o hc e => ⟨o, k b o (fun z => hc (by simp [z])) e⟩) (fun _ _ e => e) (fun _ _ _ e => e) (fun b ps e => ⟨#[], by rw [e]; simp⟩) (fun m hm => ?_) (fun b u e => ?_) I.bare
  · have e : b = it := by simpa using hb
    subst e
    exact ⟨h1, hL, h2, h3⟩
  · obtain ⟨o, es, ep, ho, r⟩ := hm
    exact ⟨o, es, ep, k _ o (Ne.symm hL) ho, r⟩
  · refine (I.hok b u e).stay (fun c v hc q => k c v ?_ q) (fun _ q => q) fun _ _ q => q
    rcases hc with z | z
    · rw [z]; exact nit b u e
    · exact nit c _ z
theorem Inv.tok (I : Inv X pins σ H s) (t : Nat) : Inv X pins σ H { s with toks := t } := I.un (h' := s.heap) (t' := t) Un.refl I.hok

theorem Inv.kept {t' : Nat} (I : Inv X pins σ H s) (k : ∀ b u, s.heap.get? b = some u → h'.get? b = some u) : Inv X pins σ H { s with heap := h', toks := t' } := I.un (Un.kept k) (I.hok.kept k)

theorem Inv.laid {a : Addr} {o : HO} {t' : Nat} (I : Inv X pins σ H s) (k : ∀ b u, s.heap.get? b = some u → h'.get? b = some u) (hp : s.heap.objs.size ≤ a) (new : ObjOk X.prog X.w (upd H a o) h' a o) :
    Inv X pins σ (upd H a o) { s with heap := h', toks := t' } := I.un (Un.laid k hp (I.hok.fresh hp)) (I.hok.laid k hp new)

theorem Inv.write {x e : Addr} {o : HO} {t' : Nat} (I : Inv X pins σ H s) (mu : Mut (H x)) (he : e = x ∨ H e = some (.own x)) (k : ∀ b u, b ≠ e → s.heap.get? b = some u → h'.get? b = some u) (heo : ∃ u, h'.get? e = some u)
    (new : ObjOk X.prog X.w (upd H x o) h' x o) : Inv X pins σ (upd H x o) { s with heap := h', toks := t' } := I.un (Un.write mu he k heo) (I.hok.write mu he k heo new)

theorem Inv.weak {σ' : List (Option V)} (I : Inv X pins σ H s) (hl : σ'.length = σ.length) (w : ∀ (i : Nat) v, σ'[i]? = some (some v) → σ[i]? = some (some v)) : Inv X pins σ' H s :=
  ⟨I.ok, I.os, I.bare, I.base, let ⟨m, hn, hl'⟩ := I.loc; ⟨m, hn, fun i x v e1 e2 e3 => hl' i x v e1 (w i v e2) e3⟩, I.cell, I.free, I.freeC, I.pin, I.hok, hl.trans I.len⟩
theorem Inv.pins_of {pins' : List (Addr × Obj)} (I : Inv X pins σ H s) (h : ∀ p ∈ pins', s.heap.get? p.1 = some p.2 ∧ H p.1 = none ∧ p.1 ≠ X.env.locals ∧ p.1 ∉ X.fs ∧ ∀ v, p.2.data ≠ .cell v) : Inv X pins' σ H s :=
  ⟨I.ok, I.os, I.bare, I.base, I.loc, I.cell, I.free, I.freeC, fun p hp => (List.mem_append.mp hp).elim (fun z => I.pin p (List.mem_append_left _ z)) (h p), I.hok, I.len⟩

theorem nodup_ix {N : List Str} (hN : N.Nodup) {i j : Nat} {x : Str} (a : N[i]? = some x) (b : N[j]? = some x) : i = j := by
  obtain ⟨h1, e1⟩ := List.getElem?_eq_some_iff.mp a
  obtain ⟨h2, e2⟩ := List.getElem?_eq_some_iff.mp b
  exact (List.getElem_inj hN).mp (e1.trans e2.symm)


theorem store_ok2 {M : Model} {A : Around} {E : Value → Shared → Prop} {i : Nat} {x : Str} {v : V} {u : Value} {Q : Unit → Shared → Prop} (I : Inv X pins σ H s) (hN : X.N.Nodup) (hi : X.N[i]? = some x) (hx : Loc X.env.scope x) (r : RelV v u)
    (h : ∀ s', Inv X pins (σ.set i (some v)) H s' → (∃ a, Heap.SameBut a s.heap s'.heap ∧ (a = X.env.locals ∨ X.env.cells.lookup x = some a)) → Q () s') (hf : X.fn x = true ∨ X.env.scope.names.lookup x = some .local := by first | exact .inl rfl | exact .inr rfl | assumption) : wpAny M A (storeName X.env x u) Q E s := by
  obtain ⟨m, hn, hl⟩ := id I.loc
  have hcls : (X.env.scope.kind == .class || (X.env.scope.kind == .module && X.env.locals != X.env.globals)) = false := by rw [I.ok.kind]; rfl
  have hiσ : i < σ.length := by rw [I.len]; exact (List.getElem?_eq_some_iff.mp hi).1
  have cne := I.cne
  have tracked : ∀ {a : Addr} {h' : Heap}, (∃ o, s.heap.get? a = some o ∧ H a = none) → Heap.SameBut a s.heap h' → HOk X.prog X.w H h' := fun {a h'} ha hs b ob e => by
    obtain ⟨_, _, hfree⟩ := ha
    refine (I.hok b ob e).stay (fun c w' hc q => (hs.2 c ?_).trans q) (fun _ q => q) fun _ _ q => q
    rintro rfl
    rcases hc with rfl | hc
    · rw [hfree] at e; cases e
    · rw [hfree] at hc; cases hc
  rcases hx with hk | hk
  · refine wpAny_storeName_local hk hn (fun h' hn' hs => ?_) hcls
    obtain ⟨oL, _, _, hoL, _⟩ := id hn
    refine h _ ⟨I.ok, I.os, I.bare, ⟨fun b o e n hb hx => ?_, fun b o e n hb hx => ?_, I.base.free, fun b o e hx => ?_, I.base.tups, I.base.frzs, I.base.tbls⟩, ⟨_, hn', fun j y v' e1 e2 e3 => ?_⟩, fun y c e => ?_, I.free, I.freeC, fun p hp => ?_, tracked ⟨oL, hoL, I.free⟩ hs, by simpa using I.len⟩ ⟨_, hs, .inl rfl⟩
    · exact (hs.2 b (Nat.ne_of_lt (Nat.lt_of_lt_of_le (Heap.lt_size e) I.ok.above))).trans (I.base.keep b o e n hb hx)
    · obtain ⟨sl, e1⟩ := I.base.slot b o e n hb hx
      exact ⟨sl, (hs.2 b (Nat.ne_of_lt (Nat.lt_of_lt_of_le (Heap.lt_size e) I.ok.above))).trans e1⟩
    · obtain ⟨o', e1⟩ := I.base.there b o e hx
      exact ⟨o', (hs.2 b (Nat.ne_of_lt (Nat.lt_of_lt_of_le (Heap.lt_size e) I.ok.above))).trans e1⟩
    · by_cases hj : j = i
      · subst hj
        rw [hi] at e1; cases e1
        rw [List.getElem?_set_self hiσ] at e2
        cases e2
        exact ⟨u, r, .inl ⟨hk, by simp⟩⟩
      · rw [List.getElem?_set_ne (Ne.symm hj)] at e2
        obtain ⟨u', r', q⟩ := hl j y v' e1 e2 e3
        refine ⟨u', r', ?_⟩
        rcases q with ⟨k, e⟩ | ⟨k, c, e, z⟩
        · refine .inl ⟨k, ?_⟩
          have : y ≠ x := fun e => hj (nodup_ix hN e1 (e ▸ hi))
          simp [this, e]
        · exact .inr ⟨k, c, e, z.sameBut hs (cne y c e)⟩
    · obtain ⟨w', z⟩ := I.cell y c e
      exact ⟨w', z.sameBut hs (cne y c e)⟩
    · obtain ⟨e, n, ne, nf, d⟩ := I.pin p hp
      exact ⟨(hs.2 p.1 ne).trans e, n, ne, nf, d⟩
  · have hfn : X.fn x = true := by
      rcases hf with z | z
      · exact z
      · rw [z] at hk; cases hk
    obtain ⟨c, hc⟩ := I.ok.has x (.inl hk)
    obtain ⟨w', z⟩ := I.cell x c hc
    refine wpAny_storeName_cell I.ok.kind hk hc z (fun h' hc' hs => ?_)
    obtain ⟨oc, hoc, hocd⟩ := id z
    refine h { s with heap := h' } ⟨I.ok, I.os, I.bare, ⟨fun b o e n hb hx => ?_, fun b o e n hb hx => ?_, I.base.free, fun b o e hx => ?_, I.base.tups, I.base.frzs, I.base.tbls⟩, ⟨m, hn.sameBut hs (Ne.symm (cne x c hc)), fun j y v' e1 e2 e3 => ?_⟩, fun y c' e => ?_, I.free, I.freeC, fun p hp => ?_, tracked ⟨oc, hoc, I.freeC x c hc⟩ hs, by simpa using I.len⟩ ⟨c, hs, .inr hc⟩
    · exact (hs.2 b (Nat.ne_of_lt (Nat.lt_of_lt_of_le (Heap.lt_size e) (I.ok.cab x c hfn hc)))).trans (I.base.keep b o e n hb hx)
    · obtain ⟨sl, e1⟩ := I.base.slot b o e n hb hx
      exact ⟨sl, (hs.2 b (Nat.ne_of_lt (Nat.lt_of_lt_of_le (Heap.lt_size e) (I.ok.cab x c hfn hc)))).trans e1⟩
    · obtain ⟨o', e1⟩ := I.base.there b o e hx
      exact ⟨o', (hs.2 b (Nat.ne_of_lt (Nat.lt_of_lt_of_le (Heap.lt_size e) (I.ok.cab x c hfn hc)))).trans e1⟩
    · by_cases hj : j = i
      · subst hj
        rw [hi] at e1; cases e1
        rw [List.getElem?_set_self hiσ] at e2
        cases e2
        exact ⟨u, r, .inr ⟨.inl hk, c, hc, hc'⟩⟩
      · rw [List.getElem?_set_ne (Ne.symm hj)] at e2
        obtain ⟨u', r', q⟩ := hl j y v' e1 e2 e3
        refine ⟨u', r', ?_⟩
        rcases q with q | ⟨k, c', e, z'⟩
        · exact .inl q
        · refine .inr ⟨k, c', e, z'.sameBut hs ?_⟩
          rintro rfl
          exact hj (nodup_ix hN e1 (I.ok.inj _ _ _ e hc ▸ hi))
    · by_cases hcc : c' = c
      · subst hcc; exact ⟨_, hc'⟩
      · obtain ⟨w2, z2⟩ := I.cell y c' e
        exact ⟨w2, z2.sameBut hs hcc⟩
    · obtain ⟨e, n, ne, nf, d⟩ := I.pin p hp
      refine ⟨(hs.2 p.1 ?_).trans e, n, ne, nf, d⟩
      intro q
      rw [q, hoc] at e
      have q' : oc = p.2 := Option.some.inj e
      exact d w' (by rw [← q']; exact hocd)
theorem store_ok {M : Model} {A : Around} {E : Value → Shared → Prop} {i : Nat} {x : Str} {v : V} {u : Value} {Q : Unit → Shared → Prop} (I : Inv X pins σ H s) (hN : X.N.Nodup) (hi : X.N[i]? = some x) (hx : Loc X.env.scope x) (r : RelV v u)
    (h : ∀ s', Inv X pins (σ.set i (some v)) H s' → Q () s') (hf : X.fn x = true ∨ X.env.scope.names.lookup x = some .local := by first | exact .inl rfl | exact .inr rfl | assumption) : wpAny M A (storeName X.env x u) Q E s :=
  store_ok2 I hN hi hx r (fun s' I' _ => h s' I') hf

theorem Inv.call' {s' : Shared} {ch : List Addr} (I : Inv X pins σ H s) (ho : s'.os = s.os) (u : Un (frs X.stack) ch H H' s.heap s'.heap) (hok : HOk X.prog X.w H' s'.heap) (hg : AllBare s'.gens)
    (hch : ∀ b ∈ ch, (b ∈ X.ex ∨ X.s₀.heap.objs.size ≤ b) ∧ b ≠ X.env.locals ∧ (∀ x c, X.env.cells.lookup x = some c → c ≠ b) ∧ ∀ p ∈ X.pn ++ pins, p.1 ≠ b) : Inv X pins σ H' s' := by
  obtain ⟨h', g', d', t', o'⟩ := s'
  have e : o' = s.os := ho
  subst e
  exact I.call (g' := g') (t' := t') (d' := d') u hok hg hch
end



abbrev XK := Value → Option Addr → Hp → Prop
abbrev St := List (Option V)
abbrev VK := V → Hp → Prop

abbrev TE := St → Hp → VK → Prop
abbrev TT := St → Hp → (Bool → Hp → Prop) → Prop
abbrev TA := St → Hp → (List V → Hp → Prop) → Prop

structure Ends where
  nx : St → Hp → Prop
  rt : VK
  bk : St → Hp → Prop := fun _ _ => False
  ct : St → Hp → Prop := fun _ _ => False
abbrev TS := Ends → St → Hp → Prop

def EP (X : Cx) (pins : List (Addr × Obj)) (σ : St) (Q : VK) (u : Value) (s' : Shared) : Prop := ∃ v H', Inv X pins σ H' s' ∧ RelV v u ∧ Q v H'
def TP (X : Cx) (pins : List (Addr × Obj)) (σ : St) (Q : Bool → Hp → Prop) (b : Bool) (s' : Shared) : Prop := ∃ H', Inv X pins σ H' s' ∧ Q b H'
def AP (X : Cx) (pins : List (Addr × Obj)) (σ : St) (Q : List V → Hp → Prop) (us : List Value) (s' : Shared) : Prop := ∃ vs H', Inv X pins σ H' s' ∧ Vals vs us ∧ Q vs H'
def SP (X : Cx) (pins : List (Addr × Obj)) (D : Ends) (f : Flow) (s' : Shared) : Prop :=
  match f with
  | .next => ∃ σ' H', Inv X pins σ' H' s' ∧ D.nx σ' H'
  | .brk => ∃ σ' H', Inv X pins σ' H' s' ∧ D.bk σ' H'
  | .cont => ∃ σ' H', Inv X pins σ' H' s' ∧ D.ct σ' H'
  | .ret u => ∃ v σ' H', Inv X pins σ' H' s' ∧ RelV v u ∧ D.rt v H'

def PE (X : Cx) (e : Expr) (t : TE) : Prop :=
  ∀ (pins : List (Addr × Obj)) (s : Shared) (σ : St) (H : Hp) (Q : VK), Inv X pins σ H s → t σ H Q → wpAny (model X.prog X.w) X.A (eval e X.env) (EP X pins σ Q) X.xe s
def PT (X : Cx) (e : Expr) (t : TT) : Prop :=
  ∀ (pins : List (Addr × Obj)) (s : Shared) (σ : St) (H : Hp) (Q : Bool → Hp → Prop), Inv X pins σ H s → t σ H Q → wpAny (model X.prog X.w) X.A (isTrue e X.env (eval e X.env)) (TP X pins σ Q) X.xe s

def PW (X : Cx) (e : Expr) (t : TT) : Prop :=
  ∀ (whole : Sem Value) (pins : List (Addr × Obj)) (s : Shared) (σ : St) (H : Hp) (Q : Bool → Hp → Prop), Inv X pins σ H s → t σ H Q → wpAny (model X.prog X.w) X.A (isTrue e X.env whole) (TP X pins σ Q) X.xe s
theorem PW.pt {X : Cx} {e : Expr} {t : TT} (h : PW X e t) : PT X e t := h _

def PA (X : Cx) (es : List Expr) (t : TA) : Prop :=
  ∀ (pos : Pos) (pins : List (Addr × Obj)) (s : Shared) (σ : St) (H : Hp) (Q : List V → Hp → Prop), Inv X pins σ H s → t σ H Q → wpAny (model X.prog X.w) X.A (spliced (backTo pos (starEach es X.env))) (AP X pins σ Q) X.xe s
def PS (X : Cx) (st : Stmt) (t : TS) : Prop :=
  ∀ (pins : List (Addr × Obj)) (s : Shared) (σ : St) (H : Hp) (D : Ends), Inv X pins σ H s → t D σ H → wpAny (model X.prog X.w) X.A (exec st X.env) (SP X pins D) X.xe s
def PSs (X : Cx) (st : List Stmt) (t : TS) : Prop :=
  ∀ (pins : List (Addr × Obj)) (s : Shared) (σ : St) (H : Hp) (D : Ends), Inv X pins σ H s → t D σ H → wpAny (model X.prog X.w) X.A (execs st X.env) (SP X pins D) X.xe s

theorem thn {α : Type} {t : Sem α} {Q Q' : α → Shared → Prop} {M : Model} {A : Around} {E : Value → Shared → Prop} {s : Shared} (h : wpAny M A t Q E s) (hQ : ∀ a s, Q a s → Q' a s) : wpAny M A t Q' E s := wpAny_mono h hQ fun _ _ x => x
end L2

namespace L2
open PySem PySem.Spec PyProof.Rows
section
variable {X : Cx}


def tVar (i : Nat) : TE := fun σ H Q => ∃ v, σ[i]? = some (some v) ∧ Q v H
def tC (v : V) : TE := fun _ H Q => Q v H
theorem pe_var {i : Nat} {x : Str} {pos : Pos} (hN : X.N[i]? = some x) (hv : Vis X.env.scope x) (hd : (x == ("__debug__" : Str)) = false := by decide) (hcd : (x == ("__classdict__" : Str)) = false := by decide) : PE X (.Name x pos) (tVar i) := by
  intro pins s σ H Q I h
  obtain ⟨v, e, h⟩ := h
  obtain ⟨m, hn, hl⟩ := I.loc
  obtain ⟨u, r, l⟩ := hl i x v hN e hv
  have fin : EP X pins σ Q u s := ⟨v, H, I, r, h⟩
  rcases l with ⟨hk, hm⟩ | ⟨hk, c, hc, hcell⟩
  · exact wpAny_Name (wpAny_loadName_local I.ok.kind hk hn hm fin) hd
  · rcases hk with hk | hk
    · exact wpAny_Name (wpAny_loadName_cell I.ok.kind hk hc hcell fin) hd
    · exact wpAny_Name (wpAny_loadName_free I.ok.kind hk hc hcell fin hcd) hd
theorem pe_int {i j pos} : PE X (.Constant (.int i) j pos) (tC (.int i)) := fun _ _ _ H _ I h => wpAny_Constant_int ⟨.int i, H, I.tok _, ⟨_, rfl⟩, h⟩
theorem pe_bl {b j pos} : PE X (.Constant (.bool b) j pos) (tC (.bl b)) := fun _ _ _ H _ I h => Constant_bool ⟨.bl b, H, I, rfl, h⟩
theorem pe_str {x j pos} : PE X (.Constant (.str x) j pos) (tC (.str x)) := fun _ _ _ H _ I h => Calls.Constant_str ⟨.str x, H, I.tok _, ⟨_, rfl⟩, h⟩


def Gl (X : Cx) (x : Str) : Prop := X.env.kindOf x = some .globalImplicit
theorem ld_glob {E : Value → Shared → Prop} {pins : List (Addr × Obj)} {s : Shared} {σ : St} {H : Hp} {x : Str} {u : Value} {pos : Pos} {Q : Value → Shared → Prop} (I : Inv X pins σ H s) (hg : Gl X x) (hm : X.mg x = some u) (h : Q u s)
    (hd : (x == ("__debug__" : Str)) = false := by decide) : wpAny (model X.prog X.w) X.A (eval (.Name x pos) X.env) Q E s :=
  Calls.Name_function_global I.ok.kind hg (Calls.loadGlobal_global (by rw [I.ok.glob]; exact I.mod.glob.keeps I.bk) hm h) hd
theorem ld_blt {E : Value → Shared → Prop} {pins : List (Addr × Obj)} {s : Shared} {σ : St} {H : Hp} {x : Str} {u : Value} {pos : Pos} {Q : Value → Shared → Prop} (I : Inv X pins σ H s) (hg : Gl X x) (hm : X.mg x = none) (hv : bootBuiltins x = some u) (h : Q u s)
    (hn : x ≠ "__name__" := by decide) (hd : (x == ("__debug__" : Str)) = false := by decide) : wpAny (model X.prog X.w) X.A (eval (.Name x pos) X.env) Q E s := by
  obtain ⟨mb, h1, h2⟩ := I.mod.blt
  exact Calls.Name_function_global I.ok.kind hg (Calls.loadGlobal_builtin (by rw [I.ok.glob]; exact I.mod.glob.keeps I.bk) hm (by rw [I.ok.blt]; exact h1.keeps I.bk) ((h2 x hn).trans hv) h) hd

theorem pe_glob {x : Str} {v : V} {u : Value} {pos : Pos} (hg : Gl X x) (hm : X.mg x = some u) (r : RelV v u) (hd : (x == ("__debug__" : Str)) = false := by decide) : PE X (.Name x pos) (tC v) :=
  fun _ _ _ H _ I h => ld_glob I hg hm ⟨v, H, I, r, h⟩ hd
theorem pe_bltn {x : Str} {v : V} {u : Value} {pos : Pos} (hg : Gl X x) (hm : X.mg x = none) (hv : bootBuiltins x = some u) (r : RelV v u) (hn : x ≠ "__name__" := by decide) (hd : (x == ("__debug__" : Str)) = false := by decide) : PE X (.Name x pos) (tC v) :=
  fun _ _ _ H _ I h => ld_blt I hg hm hv ⟨v, H, I, r, h⟩ hn hd



variable {a b : Expr} {ta tb : TE} {pos : Pos}
def tB (t : TE) : TT := fun σ H Q => t σ H fun x H1 => ∃ c, x = .bl c ∧ Q c H1
theorem pt_val {e : Expr} {t : TE} (h : PE X e t) (he : ∀ whole, isTrue e X.env whole = (do let v ← whole; standAt e.pos; holding [v] (truthy v)) := by intro _; rfl) : PT X e (tB t) := by
  intro pins s σ H Q I hw
  refine isTrue_plain (thn (h pins s σ H _ I hw) fun v s1 ⟨x, H1, I1, r1, q1⟩ => ?_) (he _)
  obtain ⟨d, rfl, q⟩ := q1
  cases r1
  exact wpAny_truthy_bool ⟨H1, I1, q⟩


variable {tA tB' : TT} {rest : List Expr}
def tAnd (t u : TT) : TT := fun σ H Q => t σ H fun c H1 => if c = true then u σ H1 Q else Q false H1
def tOr (t u : TT) : TT := fun σ H Q => t σ H fun c H1 => if c = true then Q true H1 else u σ H1 Q
def tNot (t : TT) : TT := fun σ H Q => t σ H fun c H1 => Q (!c) H1
theorem pw_and1 (ha : PT X a tA) : PW X (.BoolOp .And [a] pos) tA := by
  intro wh pins s σ H Q I h
  refine isTrue_and (thn (ha pins s σ H Q I h) fun c s1 e => ?_)
  cases c with
  | true => exact isTrue_and_nil e
  | false => exact e
theorem pw_or1 (ha : PT X a tA) : PW X (.BoolOp .Or [a] pos) tA := by
  intro wh pins s σ H Q I h
  refine isTrue_or (thn (ha pins s σ H Q I h) fun c s1 e => ?_)
  cases c with
  | false => exact isTrue_or_nil e
  | true => exact e
theorem pw_and (ha : PT X a tA) (hb : PW X (.BoolOp .And (b :: rest) pos) tB') : PW X (.BoolOp .And (a :: b :: rest) pos) (tAnd tA tB') := by
  intro wh pins s σ H Q I h
  refine isTrue_and (thn (ha pins s σ H _ I h) fun c s1 ⟨H1, I1, q1⟩ => ?_)
  cases c with
  | true => exact hb wh pins s1 σ H1 Q I1 q1
  | false => exact ⟨H1, I1, q1⟩
theorem pw_or (ha : PT X a tA) (hb : PW X (.BoolOp .Or (b :: rest) pos) tB') : PW X (.BoolOp .Or (a :: b :: rest) pos) (tOr tA tB') := by
  intro wh pins s σ H Q I h
  refine isTrue_or (thn (ha pins s σ H _ I h) fun c s1 ⟨H1, I1, q1⟩ => ?_)
  cases c with
  | true => exact ⟨H1, I1, q1⟩
  | false => exact hb wh pins s1 σ H1 Q I1 q1
theorem pt_not (ha : PT X a tA) : PT X (.UnaryOp .Not a pos) (tNot tA) := by
  intro pins s σ H Q I h
  exact isTrue_not (ha pins s σ H (fun c H1 => Q (!c) H1) I h)

def tAndV (ta tb : TE) : TE := fun σ H Q => ta σ H fun x H1 => ∃ c, x = .bl c ∧ if c = true then tb σ H1 Q else Q (.bl false) H1
def tOrV (ta tb : TE) : TE := fun σ H Q => ta σ H fun x H1 => ∃ c, x = .bl c ∧ if c = true then Q (.bl true) H1 else tb σ H1 Q
def tNotV (ta : TE) : TE := fun σ H Q => ta σ H fun x H1 => ∃ c, x = .bl c ∧ Q (.bl (!c)) H1
theorem pe_one {op} {t : TE} (h : PE X a t) : PE X (.BoolOp op [a] pos) t := fun pins s σ H Q I hw => BoolOp_one (h pins s σ H Q I hw)
theorem pe_and (ha : PE X a ta) (hb : PE X (.BoolOp .And (b :: rest) pos) tb) : PE X (.BoolOp .And (a :: b :: rest) pos) (tAndV ta tb) := by
  intro pins s σ H Q I h
  refine BoolOp_and (thn (ha pins s σ H _ I h) fun v s1 ⟨x, H1, I1, r1, q1⟩ => ?_)
  obtain ⟨c, rfl, q1⟩ := q1
  cases r1
  refine wpAny_truthy_bool ?_
  cases c with
  | true => exact hb pins s1 σ H1 Q I1 q1
  | false => exact ⟨.bl false, H1, I1, rfl, q1⟩
theorem pe_not (ha : PE X a ta) : PE X (.UnaryOp .Not a pos) (tNotV ta) := by
  intro pins s σ H Q I h
  refine UnaryOp_ (thn (ha pins s σ H _ I h) fun v s1 ⟨x, H1, I1, r1, q1⟩ => ?_)
  obtain ⟨c, rfl, q1⟩ := q1
  cases r1
  exact not_of (wpAny_truthy_bool ⟨.bl (!c), H1, I1, rfl, q1⟩)

def tIf (t : TT) (ta tb : TE) : TE := fun σ H Q => t σ H fun c H1 => if c = true then ta σ H1 Q else tb σ H1 Q
theorem pe_ifExp {c : Expr} (hc : PT X c tA) (ha : PE X a ta) (hb : PE X b tb) : PE X (.IfExp c a b pos) (tIf tA ta tb) := by
  intro pins s σ H Q I h
  refine wpAny_IfExp (thn (hc pins s σ H _ I h) fun d s1 ⟨H1, I1, q1⟩ => ?_)
  cases d with
  | true => exact ha pins s1 σ H1 Q I1 q1
  | false => exact hb pins s1 σ H1 Q I1 q1
end
end L2

namespace L2
open PySem PySem.Spec PyProof.Rows


def SqL (K : PySem.W.Frag) (H : Hp) (a : Addr) (xs : List V) : Prop :=
  Rd H a (.lst xs) ∨
    ∃ (o : Obj) (its : Array Value) (n : Nat), K.lookup a = some o ∧ o.cls = .type "list" ∧ o.dict = none ∧ o.data = .seq its n ∧ its.size ≤ sizeLine ∧ Vals xs its.toList
def SqT (K : PySem.W.Frag) (H : Hp) (a : Addr) (xs : List V) : Prop :=
  Rd H a (.tup xs) ∨
    ∃ (o : Obj) (its : Array Value) (n : Nat), K.lookup a = some o ∧ o.cls = .type "tuple" ∧ o.data = .seq its n ∧ its.size ≤ sizeLine ∧ Vals xs its.toList
def absV : Value → Option V
  | .none => some .non
  | .bool b => some (.bl b)
  | .int i _ => some (.int i)
  | .str x _ => some (.str x)
  | .bytes b _ => some (.byt b)
  | .float b _ => some (.flt b)
  | .ref a => some (.ref a)
  | .type n => some (.ty n)
  | _ => none
theorem RelV.abs {x : V} {u : Value} (r : RelV x u) : absV u = some x := by
  cases x with
  | non => cases r; rfl
  | bl _ => cases r; rfl
  | int _ => obtain ⟨t, rfl⟩ := r; rfl
  | str _ => obtain ⟨t, rfl⟩ := r; rfl
  | byt _ => obtain ⟨t, rfl⟩ := r; rfl
  | flt _ => obtain ⟨t, rfl⟩ := r; rfl
  | ref _ => cases r; rfl
  | ty _ => cases r; rfl
theorem RelV.inj {x y : V} {u : Value} (r : RelV x u) (q : RelV y u) : x = y := Option.some.inj (r.abs.symm.trans q.abs)
theorem Vals.inj : ∀ {xs ys : List V} {us : List Value}, Vals xs us → Vals ys us → xs = ys
  | _, _, _, .nil, .nil => rfl
  | _, _, _, .cons r t, .cons r' t' => by rw [r.inj r', Vals.inj t t']
section
variable {X : Cx} {pins : List (Addr × Obj)} {σ : St} {H : Hp} {s : Shared} {a : Addr} {xs ys : List V}
theorem SqL.of {K : PySem.W.Frag} (h : H a = some (.lst xs)) : SqL K H a xs := .inl (.inl h)
theorem SqT.of {K : PySem.W.Frag} (h : H a = some (.tup xs)) : SqT K H a xs := .inl (.inl h)
theorem Inv.list (I : Inv X pins σ H s) (h : SqL X.K H a xs) : ∃ its : List Value, Vals xs its ∧ PlainL s.heap a its.toArray ∧ xs.length ≤ sizeLine := by
  rcases h with h | ⟨o, its, n, hk, hc, hd, hs, hz, r⟩
  · obtain ⟨z, its, n, r, e⟩ := h.ok I.hok
    exact ⟨its, r, ⟨_, n, e, rfl, rfl, rfl⟩, z⟩
  · refine ⟨its.toList, r, ⟨o, n, I.kIn a o hk, hc, hd, by simpa using hs⟩, ?_⟩
    have e := r.length
    simp only [Array.length_toList] at e
    omega
theorem Inv.tuple (I : Inv X pins σ H s) (h : SqT X.K H a xs) : ∃ its : List Value, Vals xs its ∧ IsTup s.heap a its.toArray ∧ xs.length ≤ sizeLine := by
  rcases h with h | ⟨o, its, n, hk, hc, hs, hz, r⟩
  · obtain ⟨z, its, r, p⟩ := h.ok I.hok
    exact ⟨its, r, p, z⟩
  · refine ⟨its.toList, r, ⟨o, I.kIn a o hk, hc, n, by simpa using hs⟩, ?_⟩
    have e := r.length
    simp only [Array.length_toList] at e
    omega
theorem Inv.list_inj (I : Inv X pins σ H s) (h : SqL X.K H a xs) (h' : SqL X.K H a ys) : xs = ys := by
  obtain ⟨its, r, ⟨o, n, e, _, _, d⟩, _⟩ := I.list h
  obtain ⟨its', r', ⟨o', n', e', _, _, d'⟩, _⟩ := I.list h'
  rw [e] at e'; cases e'
  rw [d] at d'
  injection d' with d1 _
  have : its = its' := by simpa using congrArg Array.toList d1
  subst this
  exact r.inj r'
theorem Inv.tuple_inj (I : Inv X pins σ H s) (h : SqT X.K H a xs) (h' : SqT X.K H a ys) : xs = ys := by
  obtain ⟨its, r, ⟨o, e, _, n, d⟩, _⟩ := I.tuple h
  obtain ⟨its', r', ⟨o', e', _, n', d'⟩, _⟩ := I.tuple h'
  rw [e] at e'; cases e'
  rw [d] at d'
  injection d' with d1 _
  have : its = its' := by simpa using congrArg Array.toList d1
  subst this
  exact r.inj r'
end


abbrev Cx.wish (X : Cx) (E : Value → Shared → Prop) : Cx := { X with xe := E }

abbrev Cx.nox (X : Cx) : Cx := X.wish fun _ _ => False
theorem Cx.Ok.wish {X : Cx} (ok : X.Ok) (E : Value → Shared → Prop) : (X.wish E).Ok :=
  ⟨ok.mod, ok.kind, ok.glob, ok.blt, ok.above, ok.inj, ok.has, ok.cab, ok.hd, ok.frames, ok.stk, ok.exf, ok.bs, ok.bsz, ok.noex, ok.exfs, ok.funs, ok.frf⟩
theorem Cx.Ok.unwish {X : Cx} {E : Value → Shared → Prop} (ok : (X.wish E).Ok) : X.Ok :=
  ⟨ok.mod, ok.kind, ok.glob, ok.blt, ok.above, ok.inj, ok.has, ok.cab, ok.hd, ok.frames, ok.stk, ok.exf, ok.bs, ok.bsz, ok.noex, ok.exfs, ok.funs, ok.frf⟩
section
variable {X : Cx} {pins : List (Addr × Obj)} {σ : St} {H : Hp} {s : Shared} {E : Value → Shared → Prop}
theorem Inv.wish (I : Inv X pins σ H s) (E : Value → Shared → Prop) : Inv (X.wish E) pins σ H s := ⟨I.ok.wish E, I.os, I.bare, I.base, I.loc, I.cell, I.free, I.freeC, I.pin, I.hok, I.len⟩
theorem Inv.unwish (I : Inv (X.wish E) pins σ H s) : Inv X pins σ H s := ⟨I.ok.unwish, I.os, I.bare, I.base, I.loc, I.cell, I.free, I.freeC, I.pin, I.hok, I.len⟩
theorem SP.unwish {D : Ends} {f : Flow} {s' : Shared} (h : SP (X.wish E) pins D f s') : SP X pins D f s' := by
  cases f with
  | next => obtain ⟨σ', H', I, q⟩ := h; exact ⟨σ', H', I.unwish, q⟩
  | brk => obtain ⟨σ', H', I, q⟩ := h; exact ⟨σ', H', I.unwish, q⟩
  | cont => obtain ⟨σ', H', I, q⟩ := h; exact ⟨σ', H', I.unwish, q⟩
  | ret u => obtain ⟨v, σ', H', I, r, q⟩ := h; exact ⟨v, σ', H', I.unwish, r, q⟩
theorem PE.nox {e : Expr} {t : TE} (h : PE X.nox e t) : PE X e t := fun pins s σ H Q I hw =>
  wpAny_mono (h pins s σ H Q (I.wish _) hw) (fun _ _ ⟨v, H', I', r, q⟩ => ⟨v, H', I'.unwish, r, q⟩) fun _ _ z => False.elim z
theorem PT.nox {e : Expr} {t : TT} (h : PT X.nox e t) : PT X e t := fun pins s σ H Q I hw =>
  wpAny_mono (h pins s σ H Q (I.wish _) hw) (fun _ _ ⟨H', I', q⟩ => ⟨H', I'.unwish, q⟩) fun _ _ z => False.elim z
theorem PSs.nox {st : List Stmt} {t : TS} (h : PSs X.nox st t) : PSs X st t := fun pins s σ H D I hw =>
  wpAny_mono (h pins s σ H D (I.wish _) hw) (fun _ _ q => q.unwish) fun _ _ z => False.elim z
end


section
variable {X : Cx} {st : Stmt} {rest : List Stmt} {t u : TS} {e : Expr} {te : TE} {pos : Pos}
def tNext : TS := fun D σ H => D.nx σ H
def tSeq (t u : TS) : TS := fun D σ H => t { D with nx := u D } σ H
theorem pss_nil : PSs X [] tNext := fun _ _ σ H _ I h => wpAny_execs_nil ⟨σ, H, I, h⟩
theorem pss_cons (h1 : PS X st t) (h2 : PSs X rest u) : PSs X (st :: rest) (tSeq t u) := by
  intro pins s σ H D I h
  refine wpAny_execs_cons (thn (h1 pins s σ H { D with nx := u D } I h) fun f s1 q => ?_)
  cases f with
  | next =>
    obtain ⟨σ', H', I', q⟩ := q
    exact h2 pins s1 σ' H' D I' q
  | ret v => exact q
  | brk => exact q
  | cont => exact q
theorem pss_one (h1 : PS X st t) : PSs X [st] t := by
  intro pins s σ H D I h
  refine wpAny_execs_cons (thn (h1 pins s σ H D I h) fun f s1 q => ?_)
  cases f with
  | next => exact wpAny_execs_nil q
  | ret v => exact q
  | brk => exact q
  | cont => exact q
theorem Inv.quiet {pins : List (Addr × Obj)} {σ : St} {H : Hp} {s : Shared} (I : Inv X pins σ H s) : interactive X.env = false := by simp [interactive, I.ok.kind]

def tDrop (te : TE) : TS := fun D σ H => te σ H fun _ H1 => D.nx σ H1
theorem ps_expr (he : PE X e te) (hs : swapsWith e none pos.line X.env = pure false := by rfl) : PS X (.Expr e pos) (tDrop te) := by
  intro pins s σ H D I h
  exact wpAny_Expr_any (thn (he pins s σ H _ I h) fun v s1 ⟨x, H1, I1, r1, q1⟩ => ⟨σ, H1, I1, q1⟩) I.quiet hs
def tRet (te : TE) : TS := fun D σ H => te σ H D.rt
theorem ps_ret (he : PE X e te) : PS X (.Return (some e) pos) (tRet te) := by
  intro pins s σ H D I h
  exact wpAny_Return_some (thn (he pins s σ H _ I h) fun v s1 ⟨x, H1, I1, r1, q1⟩ => ⟨x, σ, H1, I1, r1, q1⟩)
def tIfS (c : TT) (t u : TS) : TS := fun D σ H => c σ H fun b H1 => if b = true then t D σ H1 else u D σ H1
theorem ps_if {c : Expr} {a b : List Stmt} {tc : TT} (hc : PT X c tc) (ha : PSs X a t) (hb : PSs X b u) : PS X (.If c a b pos) (tIfS tc t u) := by
  intro pins s σ H D I h
  refine wpAny_If (thn (hc pins s σ H _ I h) fun d s1 ⟨H1, I1, q1⟩ => ?_)
  cases d with
  | true => exact ha pins s1 σ H1 D I1 q1
  | false => exact hb pins s1 σ H1 D I1 q1

end


abbrev TG := V → St → Hp → (St → Hp → Prop) → Prop
abbrev TGs := List V → St → Hp → (St → Hp → Prop) → Prop
def PG (X : Cx) (target : Expr) (t : TG) : Prop :=
  ∀ (pins : List (Addr × Obj)) (s : Shared) (σ : St) (H : Hp) (v : V) (u : Value) (Q : St → Hp → Prop), Inv X pins σ H s → RelV v u → t v σ H Q →
    wpAny (model X.prog X.w) X.A (assign target X.env u) (fun _ s' => ∃ σ' H', Inv X pins σ' H' s' ∧ Q σ' H') X.xe s

def PGs (X : Cx) (ts : List Expr) (t : TGs) : Prop :=
  ∀ (pins : List (Addr × Obj)) (s : Shared) (σ : St) (H : Hp) (vs : List V) (us : List Value) (Q : St → Hp → Prop), Inv X pins σ H s → Vals vs us → t vs σ H Q →
    wpAny (model X.prog X.w) X.A (assignInOrder ((assignEach ts X.env).map (·.2)) us) (fun _ s' => ∃ σ' H', Inv X pins σ' H' s' ∧ Q σ' H') X.xe s

abbrev TSet := V → V → V → Hp → (Hp → Prop) → Prop
def PSet (X : Cx) (t : TSet) : Prop :=
  ∀ (pins : List (Addr × Obj)) (s : Shared) (σ : St) (H : Hp) (o i v : V) (ov iv u : Value) (Q : Hp → Prop), Inv X pins σ H s → RelV o ov → RelV i iv → RelV v u → t o i v H Q →
    wpAny (model X.prog X.w) X.A (setItem ov iv u) (fun _ s' => ∃ H', Inv X pins σ H' s' ∧ Q H') X.xe s

abbrev TIp := V → V → Hp → VK → Prop
def PIp (X : Cx) (op : Operator) (t : TIp) : Prop :=
  ∀ (pins : List (Addr × Obj)) (s : Shared) (σ : St) (H : Hp) (x y : V) (v u : Value) (Q : VK), Inv X pins σ H s → RelV x v → RelV y u → t x y H Q →
    wpAny (model X.prog X.w) X.A (inplaceOp op v u) (EP X pins σ Q) X.xe s
section
variable {X : Cx} {pos : Pos}
def gName (i : Nat) : TG := fun v σ H Q => Q (σ.set i (some v)) H
theorem pg_name {i : Nat} {x : Str} (hN : X.N.Nodup) (hi : X.N[i]? = some x) (hx : Loc X.env.scope x) (hf : X.fn x = true ∨ X.env.scope.names.lookup x = some .local := by first | exact .inl rfl | exact .inr rfl | assumption) : PG X (.Name x pos) (gName i) := by
  intro pins s σ H v u Q I r h
  exact wpAny_assign_Name (store_ok I hN hi hx r (fun s' I' => ⟨_, H, I', h⟩) hf)
def gNil : TGs := fun vs σ H Q => vs = [] ∧ Q σ H
def gCons (t : TG) (u : TGs) : TGs := fun vs σ H Q => ∃ v r, vs = v :: r ∧ t v σ H fun σ' H' => u r σ' H' Q
theorem pgs_nil : PGs X [] gNil := by
  intro pins s σ H vs us Q I r h
  obtain ⟨e, h⟩ := h
  subst e
  cases r
  exact assignInOrder_nil ⟨σ, H, I, h⟩
theorem pgs_cons {e : Expr} {es : List Expr} {t : TG} {u : TGs} (h1 : PG X e t) (h2 : PGs X es u)
    (hs : (assignEach (e :: es) X.env).map (·.2) = assign e X.env :: (assignEach es X.env).map (·.2) := by rfl) : PGs X (e :: es) (gCons t u) := by
  intro pins s σ H vs us Q I r h
  obtain ⟨v, vr, e1, h⟩ := h
  subst e1
  cases r with
  | cons r rr =>
    rw [hs]
    refine assignInOrder_cons (thn (h1 pins s σ H _ _ _ I r h) fun _ s1 ⟨σ1, H1, I1, q1⟩ => ?_)
    exact h2 pins s1 σ1 H1 _ _ Q I1 rr q1

def gTup (K : PySem.W.Frag) (n : Nat) (t : TGs) : TG := fun v σ H Q => ∃ a xs, v = .ref a ∧ SqT K H a xs ∧ xs.length = n ∧ t xs σ H Q
theorem pg_tup {es : List Expr} {k : Nat} {t : TGs} {n : Nat} (hc : X.calm = true) (h : PGs X es t)
    (hn : (assignEach es X.env).length = n := by rfl) (hst : (assignEach es X.env).findIdx? (·.1) = none := by rfl) : PG X (.Tuple es k pos) (gTup X.K n t) := by
  intro pins s σ H v u Q I r hw
  obtain ⟨a, xs, e1, hq, hl, hw⟩ := hw
  subst e1
  cases r
  obtain ⟨its, rv, ht, hz⟩ := I.tuple hq
  refine assign_Tuple_tuple (I.ok.hd hc) ht (by simp [hn, ← hl, rv.length]) hst fun h' hx => ?_
  have I1 : Inv X pins σ H { s with heap := h' } := I.kept (t' := s.toks) fun b o e => hx b o (Nat.ne_of_lt (Heap.lt_size e)) e
  exact h pins _ σ H xs _ Q I1 (by simpa using rv) hw

def gSub (to ti : TE) (t : TSet) : TG := fun v σ H Q => to σ H fun o H1 => ti σ H1 fun i H2 => t o i v H2 fun H3 => Q σ H3
theorem pg_sub {o i : Expr} {to ti : TE} {t : TSet} (ho : PE X o to) (hi : PE X i ti) (hs : PSet X t)
    (ha : ∀ v, assign (.Subscript o i pos) X.env v = (do
      let ov ← holding [v] (eval o X.env)
      let iv ← holding [v, ov] (eval i X.env)
      standAt pos
      holding [v, ov, iv] (setItem ov iv v)
      release [v, ov, iv] []) := by intro _; rfl) : PG X (.Subscript o i pos) (gSub to ti t) := by
  intro pins s σ H v u Q I r h
  rw [ha]
  refine wpAny_bind (wpAny_holding (thn (ho pins s σ H _ I h) fun ov s1 ⟨x, H1, I1, r1, q1⟩ => ?_))
  refine wpAny_bind (wpAny_holding (thn (hi pins s1 σ H1 _ I1 q1) fun iv s2 ⟨y, H2, I2, r2, q2⟩ => ?_))
  refine wpAny_bind (wpAny_standAt (wpAny_bind (wpAny_holding (thn (hs pins s2 σ H2 x y v ov iv u _ I2 r1 r2 r q2) fun _ s3 ⟨H3, I3, q3⟩ => ?_))))
  exact wpAny_release ⟨σ, H3, I3, q3⟩

def tAsg (te : TE) (g : TG) : TS := fun D σ H => te σ H fun x H1 => g x σ H1 D.nx
theorem ps_asg {tg e : Expr} {te : TE} {g : TG} (he : PE X e te) (hg : PG X tg g) (hs : swapsWithSole [tg] e pos.line X.env = pure false := by rfl) (hw : swappedStores [tg] e X.env = pure none := by rfl)
    (h1 : (assignEach [tg] X.env).map (·.2) = [assign tg X.env] := by rfl) : PS X (.Assign [tg] e pos) (tAsg te g) := by
  intro pins s σ H D I h
  refine wpAny_Assign_stores (thn (he pins s σ H _ I h) fun v s1 ⟨x, H1, I1, r1, q1⟩ => ?_) hs hw
  rw [h1]
  exact thn (hg pins s1 σ H1 x v _ I1 r1 q1) fun _ s2 q => q

theorem ps_set {i : Nat} {x : Str} {e : Expr} {te : TE} {pos' : Pos} (hN : X.N.Nodup) (hi : X.N[i]? = some x) (hx : Loc X.env.scope x) (he : PE X e te) (hs : swapsWith e (some (.Name x pos')) pos.line X.env = pure false := by rfl) (hf : X.fn x = true ∨ X.env.scope.names.lookup x = some .local := by first | exact .inl rfl | exact .inr rfl | assumption) :
    PS X (.Assign [.Name x pos'] e pos) (tAsg te (gName i)) := by
  intro pins s σ H D I h
  refine wpAny_Assign_Name (thn (he pins s σ H _ I h) fun v s1 ⟨y, H1, I1, r1, q1⟩ => ?_) hs
  exact store_ok I1 hN hi hx r1 (fun s2 I2 => ⟨_, H1, I2, q1⟩) hf

def tPar (i j : Nat) (ta : TA) : TS := fun D σ H => ta σ H fun vs H1 => ∃ v w, vs = [v, w] ∧ D.nx ((σ.set i (some v)).set j (some w)) H1
def tAug (i : Nat) (te : TE) (ti : TIp) : TS := fun D σ H => ∃ x, σ[i]? = some (some x) ∧ te σ H fun y H1 => ti x y H1 fun z H2 => D.nx (σ.set i (some z)) H2
theorem ps_aug {i : Nat} {x : Str} {e : Expr} {te : TE} {op : Operator} {ti : TIp} {pos' : Pos} (hN : X.N.Nodup) (hi : X.N[i]? = some x) (hx : Loc X.env.scope x) (he : PE X e te) (ho : PIp X op ti) (hf : X.fn x = true ∨ X.env.scope.names.lookup x = some .local := by first | exact .inl rfl | exact .inr rfl | assumption) :
    PS X (.AugAssign (.Name x pos') op e pos) (tAug i te ti) := by
  intro pins s σ H D I h
  obtain ⟨v, e1, h⟩ := h
  obtain ⟨m, hn, hl⟩ := I.loc
  have vis : Vis X.env.scope x := by rcases hx with k | k; exact .inl k; exact .inr (.inl k)
  obtain ⟨u, r, l⟩ := hl i x v hi e1 vis
  refine wpAny_AugAssign_Name ?_
  have go : wpAny (model X.prog X.w) X.A (eval e X.env) (fun w s₂ => wpAny (model X.prog X.w) X.A (inplaceOp op u w) (fun r s₃ => wpAny (model X.prog X.w) X.A (storeName X.env x r) (fun _ => SP X pins D .next) X.xe s₃) X.xe s₂) X.xe s := by
    refine thn (he pins s σ H _ I h) fun w s1 ⟨y, H1, I1, r1, q1⟩ => ?_
    refine thn (ho pins s1 σ H1 v y u w _ I1 r r1 q1) fun z s2 ⟨zv, H2, I2, r2, q2⟩ => ?_
    exact store_ok I2 hN hi hx r2 (fun s3 I3 => ⟨_, H2, I3, q2⟩) hf
  rcases l with ⟨hk, hm⟩ | ⟨hk, c, hc, hcell⟩
  · exact wpAny_loadName_local I.ok.kind hk hn hm go
  · rcases hk with hk | hk
    · exact wpAny_loadName_cell I.ok.kind hk hc hcell go
    · rcases hx with k | k
      · have : X.env.scope.names.lookup x = some .free := hk
        rw [k] at this; cases this
      · have : X.env.scope.names.lookup x = some .free := hk
        rw [k] at this; cases this

def tAugS (to ti te : TE) (tget : V → V → Hp → VK → Prop) (tip : TIp) (tset : TSet) : TS := fun D σ H => to σ H fun o H1 => ti σ H1 fun i H2 => tget o i H2 fun x H3 => te σ H3 fun y H4 => tip x y H4 fun z H5 => tset o i z H5 fun H6 => D.nx σ H6

def ipI (f : Int → Int → Int) : TIp := fun x y H Q => ∃ i j, x = .int i ∧ y = .int j ∧ Q (.int (f i j)) H
theorem ip_sub : PIp X .Sub (ipI fun i j => i - j) := by
  intro pins s σ H x y v u Q I r1 r2 h
  obtain ⟨i, j, e1, e2, q⟩ := h
  subst e1; subst e2
  obtain ⟨t, rfl⟩ := r1
  obtain ⟨t', rfl⟩ := r2
  exact isub_int ⟨.int _, H, I.tok _, ⟨_, rfl⟩, q⟩
end


section
variable {X : Cx} {pos : Pos}

def tWhile (c : TT) (tb : TS) : TS := fun D σ H => ∃ W : Nat → St → Hp → Prop, (∃ m, W m σ H) ∧ ∀ m σ H, W m σ H →
  c σ H fun b H1 => if b = true then ∃ N : St → Hp → Prop, (∀ σ' H', N σ' H' → ∃ m', m' < m ∧ W m' σ' H') ∧ tb { D with nx := N, ct := N, bk := D.nx } σ H1 else D.nx σ H1
theorem ps_while {c : Expr} {body : List Stmt} {tc : TT} {tb : TS} (hp : PassesOwn (model X.prog X.w) X.A X.env X.xe) (hc : PT X c tc) (hb : PSs X body tb) : PS X (.While c body [] pos) (tWhile tc tb) := by
  intro pins s σ H D I h
  obtain ⟨W, ⟨m0, w0⟩, turn⟩ := h
  refine wpAny_While (codeAny_whileLoop (fun n s' => ∃ σ' H', Inv X pins σ' H' s' ∧ W n σ' H') ?_ m0 ⟨σ, H, I, w0⟩)
  rintro n s1 ⟨σ1, H1, I1, w1⟩
  refine wpAny_passesOwn hp (thn (hc pins s1 σ1 H1 _ I1 (turn n σ1 H1 w1)) fun b s2 ⟨H2, I2, q2⟩ => ?_)
  cases b with
  | true =>
    obtain ⟨N, hN, q2⟩ := q2
    rw [if_pos rfl]
    refine wpAny_passesOwn hp (thn (hb pins s2 σ1 H2 _ I2 q2) fun f s3 q3 => ?_)
    cases f with
    | next =>
      obtain ⟨σ3, H3, I3, n3⟩ := q3
      obtain ⟨m', hm, w3⟩ := hN σ3 H3 n3
      exact ⟨m', hm, σ3, H3, I3, w3⟩
    | cont =>
      obtain ⟨σ3, H3, I3, n3⟩ := q3
      obtain ⟨m', hm, w3⟩ := hN σ3 H3 n3
      exact ⟨m', hm, σ3, H3, I3, w3⟩
    | brk => exact q3
    | ret v => exact q3
  | false =>
    rw [if_neg Bool.false_ne_true]
    exact wpAny_execs_nil ⟨σ1, H2, I2, q2⟩
end



structure It where
  go : Nat → Hp → Prop
  yld : Nat → Hp → V → Hp → Prop
  stop : Nat → Hp → Prop

def FpOk (X : Cx) (pins : List (Addr × Obj)) (H : Hp) (b : Addr) : Prop :=
  H b = none ∧ b ≠ X.env.locals ∧ b ∉ X.fs ∧ (b ∈ X.ex ∨ X.s₀.heap.objs.size ≤ b) ∧ (∀ x c, X.env.cells.lookup x = some c → c ≠ b) ∧ ∀ p ∈ X.pn ++ pins, p.1 ≠ b
theorem Inv.fpOk {X : Cx} {pins : List (Addr × Obj)} {σ : St} {H H' : Hp} {s : Shared} {b : Addr} (I : Inv X pins σ H s) (hb : s.heap.objs.size ≤ b) (hn : H' b = none) : FpOk X pins H' b := by
  refine ⟨hn, Nat.ne_of_gt (Nat.lt_of_lt_of_le I.lt hb), I.nofs hb, .inr (Nat.le_trans I.sz hb), fun x c e z => ?_, fun p hp z => ?_⟩
  · obtain ⟨v, q⟩ := I.cell x c e
    exact absurd (Nat.lt_of_lt_of_le q.lt (by rw [z]; exact hb)) (Nat.lt_irrefl _)
  · exact absurd (Nat.lt_of_lt_of_le (Heap.lt_size (I.pin p hp).1) (by rw [z]; exact hb)) (Nat.lt_irrefl _)
structure Turn (P : Program) (w : World) (K : PySem.W.Frag) (tg : Expr) (J : It) (fp : List Addr) (it : Addr) (tn : Nat → Heap → Prop) : Prop where
  mem : it ∈ fp
  obj : ∀ i h, tn i h → ∀ b ∈ fp, ∃ o, h.get? b = some o ∧ ∀ v, o.data ≠ .cell v
  keep : ∀ i h h', tn i h → (∀ b ∈ fp, ∀ o, h.get? b = some o → h'.get? b = some o) → tn i h'
  item : ∀ (X : Cx), X.prog = P → X.w = w → X.K = K → X.calm = true → ∀ (i : Nat) (pins : List (Addr × Obj)) (s : Shared) (σ : St) (H : Hp) (E : Value → Shared → Prop), Inv X pins σ H s → (∀ b ∈ fp, FpOk X pins H b) → tn i s.heap → J.go i H →
    wpAny (model P w) X.A (pyNext (.ref it)) (fun r s1 => ∃ u, r = some u ∧
      wpAny (model P w) X.A (letOwnedTupleGo tg (.ref it) u) (fun _ s2 => ∃ x H', Inv X pins σ H' s2 ∧ RelV x u ∧ J.yld i H x H' ∧ tn (i + 1) s2.heap ∧ ∀ b ∈ fp, H' b = none) E s1) E s
  done : ∀ (X : Cx), X.prog = P → X.w = w → X.K = K → X.calm = true → ∀ (i : Nat) (pins : List (Addr × Obj)) (s : Shared) (σ : St) (H : Hp) (E : Value → Shared → Prop), Inv X pins σ H s → (∀ b ∈ fp, FpOk X pins H b) → tn i s.heap → J.stop i H →
    wpAny (model P w) X.A (pyNext (.ref it)) (fun r s1 => r = none ∧ Inv X pins σ H s1) E s
  self : ∀ (A : Around) (i : Nat) (s : Shared) (Q : Value → Shared → Prop) (E : Value → Shared → Prop), tn i s.heap → Q (.ref it) s → wpAny (model P w) A (pyIter (.ref it)) Q E s
abbrev TI := St → Hp → (It → Hp → Prop) → Prop

def PIE (X : Cx) (pins : List (Addr × Obj)) (σ : St) (tg : Expr) (R : It → Hp → Prop) (itv : Value) (s2 : Shared) : Prop :=
  ∃ (it : Addr) (fp : List Addr) (tn : Nat → Heap → Prop) (J : It) (H' : Hp), itv = .ref it ∧ Inv X pins σ H' s2 ∧ Turn X.prog X.w X.K tg J fp it tn ∧ tn 0 s2.heap ∧ (∀ b ∈ fp, FpOk X pins H' b) ∧ R J H'
def PI (X : Cx) (tg iter : Expr) (wi : TI) : Prop :=
  ∀ (pins : List (Addr × Obj)) (s : Shared) (σ : St) (H : Hp) (R : It → Hp → Prop), Inv X pins σ H s → wi σ H R →
    wpAny (model X.prog X.w) X.A (eval iter X.env) (fun v s1 => wpAny (model X.prog X.w) X.A (pyIter v) (PIE X pins σ tg R) X.xe s1) X.xe s


theorem go_of {M : Model} {A : Around} {E : Value → Shared → Prop} {s : Shared} {tg : Expr} {it : Addr} {u : Value} {o : Obj} {n : String} {vs : Array Value} {Q : Unit → Shared → Prop} (ho : s.heap.get? it = some o) (hc : o.cls = .type n) (hd : o.data = .fields vs)
    (hn : ["enumerate", "zip", "dict_itemiterator", "dict_reverseitemiterator", "odict_iterator", "itertools.zip_longest", "itertools.pairwise"].contains n = false) (hQ : Q () s) : wpAny M A (letOwnedTupleGo tg (.ref it) u) Q E s := by
  unfold letOwnedTupleGo
  cases tg <;> first
    | exact wpAny_pure hQ
    | (cases u <;> first
        | exact wpAny_pure hQ
        | (refine wpAny_bind (wpAny_load ho ?_)
           rw [hc, hd]
           show wpAny M A (if (["enumerate", "zip", "dict_itemiterator", "dict_reverseitemiterator", "odict_iterator", "itertools.zip_longest", "itertools.pairwise"].contains n && vs[0]? == some (rawInt _)) = true then _ else _) Q E s
           rw [if_neg (by intro h; rw [hn, Bool.false_and] at h; cases h)]
           exact wpAny_pure hQ))


def Itl (K : PySem.W.Frag) (a : Addr) : It :=
  ⟨fun i H => ∃ xs x, SqL K H a xs ∧ xs[i]? = some x, fun i H x H' => H' = H ∧ ∀ xs, SqL K H a xs → xs[i]? = some x, fun i H => ∃ xs, SqL K H a xs ∧ xs.length ≤ i⟩
def Itt (K : PySem.W.Frag) (a : Addr) : It :=
  ⟨fun i H => ∃ xs x, SqT K H a xs ∧ xs[i]? = some x, fun i H x H' => H' = H ∧ ∀ xs, SqT K H a xs → xs[i]? = some x, fun i H => ∃ xs, SqT K H a xs ∧ xs.length ≤ i⟩

def Itr (lo : Int) (n : Nat) : It := ⟨fun i _ => i < n, fun i H x H' => H' = H ∧ x = .int (lo + i), fun i _ => n ≤ i⟩
theorem turn_list {P : Program} {w : World} {K : PySem.W.Frag} {tg : Expr} (a it : Addr) : Turn P w K tg (Itl K a) [it] it (fun i h => h.IsListIter it a i) where
  mem := by simp
  obj := fun i h st b hb => by
    have e : b = it := by simpa using hb
    subst e
    obtain ⟨o, e, c, d⟩ := st
    exact ⟨o, e, fun v z => by rw [d] at z; cases z⟩
  keep := fun i h h' st k => st.at fun o e => k it (by simp) o e
  item := by
    intro X hP hw hK hc i pins s σ H E I hf st hg
    subst hP hw hK
    obtain ⟨xs, x, hq, hx⟩ := hg
    obtain ⟨its, rv, p, hz⟩ := I.list hq
    obtain ⟨u, hu, ru⟩ := rv.get hx
    obtain ⟨f0, f1, f2, f3, f4, f5⟩ := hf it (by simp)
    refine wpAny_pyNext_list_item st p.isList (x := u) (by simpa using hu) fun h' st' sb => ?_
    have I1 : Inv X pins σ H { s with heap := h' } := I.turned (t' := s.toks) (fun b o hb e => (sb.2 b hb).trans e) f0 f1 f3 f4 f5
    obtain ⟨o, e, c, d⟩ := id st'
    exact ⟨u, rfl, go_of (s := { s with heap := h' }) e c d (by decide) ⟨x, H, I1, ru, ⟨rfl, fun ys hy => by rw [I.list_inj hy hq]; exact hx⟩, st', fun b hb => (hf b hb).1⟩⟩
  done := by
    intro X hP hw hK hc i pins s σ H E I hf st hg
    subst hP hw hK
    obtain ⟨xs, hq, hx⟩ := hg
    obtain ⟨its, rv, p, hz⟩ := I.list hq
    obtain ⟨f0, f1, f2, f3, f4, f5⟩ := hf it (by simp)
    have hl := rv.length
    exact wpAny_pyNext_list_end (I.ok.hd hc) st p.isList (by simp; omega) fun h' eb => ⟨rfl, I.turned (t' := s.toks) (fun b o hb e => eb b o hb e) f0 f1 f3 f4 f5⟩
  self := fun _ _ _ _ _ st h => wpAny_pyIter_listiter st h
theorem turn_tuple {P : Program} {w : World} {K : PySem.W.Frag} {tg : Expr} (a it : Addr) : Turn P w K tg (Itt K a) [it] it (fun i h => h.IsTupleIter it a i) where
  mem := by simp
  obj := fun i h st b hb => by
    have e : b = it := by simpa using hb
    subst e
    obtain ⟨o, e, c, d⟩ := st
    exact ⟨o, e, fun v z => by rw [d] at z; cases z⟩
  keep := fun i h h' st k => st.at fun o e => k it (by simp) o e
  item := by
    intro X hP hw hK hc i pins s σ H E I hf st hg
    subst hP hw hK
    obtain ⟨xs, x, hq, hx⟩ := hg
    obtain ⟨its, rv, p, hz⟩ := I.tuple hq
    obtain ⟨u, hu, ru⟩ := rv.get hx
    obtain ⟨f0, f1, f2, f3, f4, f5⟩ := hf it (by simp)
    refine wpAny_pyNext_tuple_item st (show s.heap.IsTuple a its.toArray from p) (x := u) (by simpa using hu) fun h' st' sb => ?_
    have I1 : Inv X pins σ H { s with heap := h' } := I.turned (t' := s.toks) (fun b o hb e => (sb.2 b hb).trans e) f0 f1 f3 f4 f5
    obtain ⟨o, e, c, d⟩ := id st'
    exact ⟨u, rfl, go_of (s := { s with heap := h' }) e c d (by decide) ⟨x, H, I1, ru, ⟨rfl, fun ys hy => by rw [I.tuple_inj hy hq]; exact hx⟩, st', fun b hb => (hf b hb).1⟩⟩
  done := by
    intro X hP hw hK hc i pins s σ H E I hf st hg
    subst hP hw hK
    obtain ⟨xs, hq, hx⟩ := hg
    obtain ⟨its, rv, p, hz⟩ := I.tuple hq
    obtain ⟨f0, f1, f2, f3, f4, f5⟩ := hf it (by simp)
    have hl := rv.length
    exact wpAny_pyNext_tuple_end (I.ok.hd hc) st (show s.heap.IsTuple a its.toArray from p) (by simp; omega) fun h' eb => ⟨rfl, I.turned (t' := s.toks) (fun b o hb e => eb b o hb e) f0 f1 f3 f4 f5⟩
  self := fun _ _ _ _ _ st h => wpAny_pyIter_tupleiter st h
theorem turn_range {P : Program} {w : World} {K : PySem.W.Frag} {tg : Expr} (it : Addr) (lo : Int) (n : Nat) : Turn P w K tg (Itr lo n) [it] it (fun i h => IsRangeIter h it (lo + (i : Nat) * 1) ((n : Int) - (i : Nat)) 1) where
  mem := by simp
  obj := fun i h st b hb => by
    have e : b = it := by simpa using hb
    subst e
    exact ⟨_, st, fun v z => by
      have z' : Data.fields _ = Data.cell v := z
      cases z'⟩
  keep := fun i h h' st k => k it (by simp) _ st
  item := by
    intro X hP hw hK hc i pins s σ H E I hf st hg
    subst hP hw hK
    obtain ⟨f0, f1, f2, f3, f4, f5⟩ := hf it (by simp)
    have W := Walks.range (prog := X.prog) (w := X.w) (I.ok.hd hc) it lo 1 n
    refine W.item i s _ _ hg st fun v h' tk hv st' kk => ?_
    obtain ⟨t, rfl⟩ := hv
    have I1 : Inv X pins σ H { s with heap := h', toks := tk } := I.turned (fun b o hb e => kk b o (by simpa using hb) e) f0 f1 f3 f4 f5
    refine ⟨_, rfl, go_of (s := { s with heap := h', toks := tk }) (n := "range_iterator") st' rfl rfl (by decide) ⟨.int (lo + i), H, I1, ⟨t, ?_⟩, ⟨rfl, rfl⟩, st', fun b hb => (hf b hb).1⟩⟩
    rw [Int.mul_one]
  done := by
    intro X hP hw hK hc i pins s σ H E I hf st hg
    subst hP hw hK
    obtain ⟨f0, f1, f2, f3, f4, f5⟩ := hf it (by simp)
    exact wpAny_pyNext_range_end (I.ok.hd hc) st (by have : n ≤ i := hg; omega) fun h' eb => ⟨rfl, I.turned (t' := s.toks) (fun b o hb e => eb b o hb e) f0 f1 f3 f4 f5⟩
  self := fun _ _ _ _ _ st h => wpAny_pyIter_rangeiter st h
end L2

namespace L2
open PySem PySem.Spec PyProof.Rows
section
variable {X : Cx} {tg : Expr}
def iList (K : PySem.W.Frag) (tl : TE) : TI := fun σ H R => tl σ H fun x H1 => ∃ a, x = .ref a ∧ (∃ xs, SqL K H1 a xs) ∧ R (Itl K a) H1
def iTup (K : PySem.W.Frag) (tl : TE) : TI := fun σ H R => tl σ H fun x H1 => ∃ a, x = .ref a ∧ (∃ xs, SqT K H1 a xs) ∧ R (Itt K a) H1
theorem pi_list {l : Expr} {tl : TE} (hl : PE X l tl) : PI X tg l (iList X.K tl) := by
  intro pins s σ H R I h
  refine thn (hl pins s σ H _ I h) fun v s1 ⟨x, H1, I1, r1, q1⟩ => ?_
  obtain ⟨a, e, ⟨xs, hq⟩, q⟩ := q1
  subst e
  cases r1
  obtain ⟨its, rv, p, hz⟩ := I1.list hq
  refine wpAny_pyIter_list p.isList ?_
  refine ⟨s1.heap.objs.size, [s1.heap.objs.size], _, _, H1, rfl, I1.kept (t' := s1.toks) fun b o e => Heap.get?_push_of_some _ e, turn_list a _, ⟨_, Heap.get?_push_size _ rfl, rfl, rfl⟩, fun b hb => ?_, q⟩
  have e : b = s1.heap.objs.size := by simpa using hb
  subst e
  exact I1.fpOk (Nat.le_refl _) (I1.hok.fresh (Nat.le_refl _))
theorem range_it {pins : List (Addr × Obj)} {σ : St} {H : Hp} {s : Shared} {R : It → Hp → Prop} {E : Value → Shared → Prop} {lo hi : Int} {t u v : Tok} {tk : Nat} (I : Inv X pins σ H s) (h1 : -(2 ^ 62) ≤ lo) (h2 : lo < 2 ^ 62) (h3 : -(2 ^ 62) ≤ hi) (h4 : hi < 2 ^ 62)
    (q : R (Itr lo (hi - lo).toNat) H) : wpAny (model X.prog X.w) X.A (pyIter (.ref s.heap.objs.size)) (PIE X pins σ tg R) E { s with heap := s.heap.push { cls := .type "range", data := .fields #[.int lo t, .int hi u, .int 1 v] }, toks := tk } := by
  refine wpAny_pyIter_range (IsRange.new ..) (small_one h1 h2 h3 h4) ?_
  have I1 : Inv X pins σ H { s with heap := s.heap.push { cls := .type "range", data := .fields #[.int lo t, .int hi u, .int 1 v] }, toks := tk } := I.kept fun b o e => Heap.get?_push_of_some _ e
  refine ⟨(s.heap.push { cls := .type "range", data := .fields #[.int lo t, .int hi u, .int 1 v] }).objs.size, [(s.heap.push { cls := .type "range", data := .fields #[.int lo t, .int hi u, .int 1 v] }).objs.size], _, _, H, rfl,
    I1.kept (t' := tk) fun b o e => Heap.get?_push_of_some _ e, turn_range _ lo (hi - lo).toNat, ?_, fun b hb => ?_, q⟩
  · have e1 : lo + ((0 : Nat) : Int) * 1 = lo := by simp
    have e2 : (((hi - lo).toNat : Nat) : Int) - ((0 : Nat) : Int) = Builtin.Range.rangeSize lo hi 1 := by rw [rangeSize_one]; split <;> omega
    show IsRangeIter _ _ (lo + ((0 : Nat) : Int) * 1) ((((hi - lo).toNat : Nat) : Int) - ((0 : Nat) : Int)) 1
    rw [e1, e2]
    exact Heap.get?_push_size _ rfl
  · have e : b = (s.heap.push { cls := .type "range", data := .fields #[.int lo t, .int hi u, .int 1 v] }).objs.size := by simpa using hb
    subst e
    exact I1.fpOk (Nat.le_refl _) (I1.hok.fresh (Nat.le_refl _))
def iRng1 (ta : TA) : TI := fun σ H R => ta σ H fun vs H1 => ∃ j : Int, vs = [.int j] ∧ -(2 ^ 62) ≤ j ∧ j < 2 ^ 62 ∧ R (Itr 0 j.toNat) H1
def iRng2 (ta : TA) : TI := fun σ H R => ta σ H fun vs H1 => ∃ i j : Int, vs = [.int i, .int j] ∧ (-(2 ^ 62) ≤ i ∧ i < 2 ^ 62 ∧ -(2 ^ 62) ≤ j ∧ j < 2 ^ 62) ∧ R (Itr i (j - i).toNat) H1
theorem pi_range1 {a : Expr} {ta : TA} {p pos : Pos} (hg : Gl X "range") (hm : X.mg "range" = none) (ha : PA X [a] ta) (hs : starEach [a] X.env = [(false, eval a X.env)] := by rfl) : PI X tg (.Call (.Name "range" p) [a] [] pos) (iRng1 ta) := by
  intro pins s σ H R I h
  refine Call_ (ld_blt I hg hm boot_range (PyProof.Rows.callWith_type1 (thn (ha pos pins s σ H _ I h) fun us s1 ⟨vs, H1, I1, r1, q1⟩ => ?_) hs rfl))
  obtain ⟨j, e, q1, q2, q⟩ := q1
  subst e
  cases r1 with
  | cons r rr =>
    cases rr
    obtain ⟨t, rfl⟩ := r
    exact call_range_1 (range_it I1 (by omega) (by omega) q1 q2 (by simpa using q))
theorem pi_range2 {a b : Expr} {ta : TA} {p pos : Pos} (hg : Gl X "range") (hm : X.mg "range" = none) (ha : PA X [a, b] ta) (hs : starEach [a, b] X.env = [(false, eval a X.env), (false, eval b X.env)] := by rfl) (hs2 : starEach [b] X.env = [(false, eval b X.env)] := by rfl) :
    PI X tg (.Call (.Name "range" p) [a, b] [] pos) (iRng2 ta) := by
  intro pins s σ H R I h
  refine Call_ (ld_blt I hg hm boot_range (PyProof.Rows.callWith_type1 (thn (ha pos pins s σ H _ I h) fun us s1 ⟨vs, H1, I1, r1, q1⟩ => ?_) (by rw [hs, hs2]) (by rw [hs2]; rfl)))
  obtain ⟨i, j, e, ⟨q1, q2, q3, q4⟩, q⟩ := q1
  subst e
  cases r1 with
  | cons r rr =>
    cases rr with
    | cons r' rr =>
      cases rr
      obtain ⟨t, rfl⟩ := r
      obtain ⟨t', rfl⟩ := r'
      exact call_range_2 (range_it I1 q1 q2 q3 q4 q)



def tFor (wi : TI) (g : TG) (tb : TS) : TS := fun D σ H => wi σ H fun J H1 => ∃ W : Nat → Nat → St → Hp → Prop, (∃ m, W 0 m σ H1) ∧ ∀ i m σ H, W i m σ H →
  (J.stop i H ∧ D.nx σ H) ∨ (J.go i H ∧ ∃ N : St → Hp → Prop, (∀ σ' H', N σ' H' → ∃ m', m' < m ∧ W (i + 1) m' σ' H') ∧ ∀ x H', J.yld i H x H' → g x σ H' fun σ2 H2 => tb { D with nx := N, ct := N, bk := D.nx } σ2 H2)

def pinsAt (fp : List Addr) (h : Heap) : List (Addr × Obj) := fp.filterMap fun b => (h.get? b).map fun o => (b, o)
theorem mem_pinsAt {fp : List Addr} {h : Heap} {b : Addr} {o : Obj} (hb : b ∈ fp) (e : h.get? b = some o) : (b, o) ∈ pinsAt fp h := List.mem_filterMap.mpr ⟨b, hb, by rw [e]; rfl⟩
theorem of_pinsAt {fp : List Addr} {h : Heap} {p : Addr × Obj} (hp : p ∈ pinsAt fp h) : p.1 ∈ fp ∧ h.get? p.1 = some p.2 := by
  obtain ⟨b, hb, e⟩ := List.mem_filterMap.mp hp
  cases q : h.get? b with
  | none => rw [q] at e; cases e
  | some o =>
    rw [q] at e
    have e' : (b, o) = p := Option.some.inj e
    subst e'
    exact ⟨hb, q⟩
theorem Inv.pinned {pins : List (Addr × Obj)} {σ : St} {H : Hp} {s : Shared} {fp : List Addr} (I : Inv X pins σ H s) (hf : ∀ b ∈ fp, FpOk X pins H b) (ho : ∀ b ∈ fp, ∃ o, s.heap.get? b = some o ∧ ∀ v, o.data ≠ .cell v) : Inv X (pins ++ pinsAt fp s.heap) σ H s :=
  I.pins_of fun p hp => (List.mem_append.mp hp).elim (fun z => I.pin p (List.mem_append_right _ z)) fun z => by
    obtain ⟨hb, e⟩ := of_pinsAt z
    obtain ⟨f0, f1, f2, _⟩ := hf p.1 hb
    obtain ⟨o, e', d⟩ := ho p.1 hb
    rw [e] at e'; cases e'
    exact ⟨e, f0, f1, f2, d⟩
theorem Inv.unpinned {pins pl : List (Addr × Obj)} {σ : St} {H : Hp} {s : Shared} (I : Inv X (pins ++ pl) σ H s) : Inv X pins σ H s := I.pins_of fun p hp => I.pin p (List.mem_append_right _ (List.mem_append_left _ hp))
theorem ps_for {iter : Expr} {body : List Stmt} {wi : TI} {g : TG} {tb : TS} {pos : Pos} (hp : PassesOwn (model X.prog X.w) X.A X.env X.xe) (hc : X.calm = true) (hi : PI X tg iter wi) (hg : PG X tg g) (hb : PSs X body tb)
    (hs : ∀ x, foldedSetIterable iter X.env x = pure x := by intro _; rfl) : PS X (.For tg iter body [] pos) (tFor wi g tb) := by
  intro pins s σ H D I h
  refine wpAny_For (thn (hi pins s σ H _ I h) fun v s1 h1 => thn h1 fun itv s2 h2 => ?_) hs
  obtain ⟨it, fp, tn, J, H2, e, I2, T, st2, f2, W, ⟨m0, w0⟩, turn⟩ := h2
  subst e
  -- what stays true of the iterator's objects through the loop
  have stat : ∀ {H' : Hp}, (∀ b ∈ fp, H' b = none) → ∀ b ∈ fp, FpOk X pins H' b := fun hn b hb => ⟨hn b hb, (f2 b hb).2⟩
  refine codeAny_forLoop_any (fun n s' => ∃ i σ' H', Inv X pins σ' H' s' ∧ tn i s'.heap ∧ (∀ b ∈ fp, H' b = none) ∧ W i n σ' H') ?_ m0 ⟨0, σ, H2, I2, st2, fun b hb => (f2 b hb).1, w0⟩
  rintro n s3 ⟨i, σ3, H3, I3, st3, fr3, w3⟩
  rcases turn i n σ3 H3 w3 with ⟨stop, qn⟩ | ⟨go, N, hN, step⟩
  · refine wpAny_passesOwn hp (thn (T.done X rfl rfl rfl hc i pins s3 σ3 H3 X.xe I3 (stat fr3) st3 stop) fun r s4 ⟨hr, I4⟩ => ?_)
    subst hr
    exact wpAny_execs_nil ⟨σ3, H3, I4, qn⟩
  · refine wpAny_passesOwn hp (thn (T.item X rfl rfl rfl hc i pins s3 σ3 H3 X.xe I3 (stat fr3) st3 go) fun r s4 ⟨u, hr, h4⟩ => ?_)
    subst hr
    refine wpAny_passesOwn hp (thn h4 fun _ s5 ⟨x, H5, I5, r5, y5, st5, fr5⟩ => ?_)
    have I5' := I5.pinned (stat fr5) (T.obj _ _ st5)
    refine wpAny_passesOwn hp (thn (hg _ s5 σ3 H5 x u _ I5' r5 (step x H5 y5)) fun _ s6 ⟨σ6, H6, I6, q6⟩ => ?_)
    refine wpAny_passesOwn hp (thn (hb _ s6 σ6 H6 _ I6 q6) fun f s7 q7 => ?_)
    have again : ∀ {σ7 : St} {H7 : Hp}, Inv X (pins ++ pinsAt fp s5.heap) σ7 H7 s7 → N σ7 H7 → ∃ m, m < n ∧ ∃ i σ' H', Inv X pins σ' H' s7 ∧ tn i s7.heap ∧ (∀ b ∈ fp, H' b = none) ∧ W i m σ' H' := fun {σ7 H7} I7 n7 => by
      obtain ⟨m', hm, w7⟩ := hN σ7 H7 n7
      refine ⟨m', hm, i + 1, σ7, H7, I7.unpinned, T.keep _ _ _ st5 fun b hb o e => (I7.pin (b, o) (List.mem_append_right _ (List.mem_append_right _ (mem_pinsAt hb e)))).1, fun b hb => ?_, w7⟩
      obtain ⟨o, e, d⟩ := T.obj _ _ st5 b hb
      exact (I7.pin (b, o) (List.mem_append_right _ (List.mem_append_right _ (mem_pinsAt hb e)))).2.1
    cases f with
    | next => obtain ⟨σ7, H7, I7, n7⟩ := q7; exact again I7 n7
    | cont => obtain ⟨σ7, H7, I7, n7⟩ := q7; exact again I7 n7
    | brk => obtain ⟨σ7, H7, I7, q7⟩ := q7; exact ⟨σ7, H7, I7.unpinned, q7⟩
    | ret v => obtain ⟨x7, σ7, H7, I7, r7, q7⟩ := q7; exact ⟨x7, σ7, H7, I7.unpinned, r7, q7⟩
end



theorem for_list {K : PySem.W.Frag} {a : Addr} {xs : List V} {g : TG} {tb : TS} {D : Ends} {σ : St} {H : Hp} (Pv : Nat → St → Hp → Prop) (h0 : Pv 0 σ H) (hl : ∀ i σ H, i ≤ xs.length → Pv i σ H → SqL K H a xs)
    (hs : ∀ i x σ H, xs[i]? = some x → Pv i σ H → g x σ H fun σ2 H2 => tb { D with nx := Pv (i + 1), ct := Pv (i + 1), bk := D.nx } σ2 H2) (hd : ∀ σ H, Pv xs.length σ H → D.nx σ H) :
    ∃ W : Nat → Nat → St → Hp → Prop, (∃ m, W 0 m σ H) ∧ ∀ i m σ H, W i m σ H →
      ((Itl K a).stop i H ∧ D.nx σ H) ∨ ((Itl K a).go i H ∧ ∃ N : St → Hp → Prop, (∀ σ' H', N σ' H' → ∃ m', m' < m ∧ W (i + 1) m' σ' H') ∧ ∀ x H', (Itl K a).yld i H x H' → g x σ H' fun σ2 H2 => tb { D with nx := N, ct := N, bk := D.nx } σ2 H2) := by
  refine ⟨fun i m σ H => m = xs.length - i ∧ i ≤ xs.length ∧ Pv i σ H, ⟨xs.length, by simp, Nat.zero_le _, h0⟩, ?_⟩
  rintro i m σ H ⟨rfl, hi, p⟩
  have q := hl i σ H hi p
  by_cases hlt : i < xs.length
  · refine .inr ⟨⟨xs, xs[i], q, by simp [hlt]⟩, Pv (i + 1), fun σ' H' p' => ⟨xs.length - (i + 1), by omega, rfl, hlt, p'⟩, fun x H' y => ?_⟩
    obtain ⟨e, y⟩ := y
    subst e
    exact hs i x σ _ (y xs q) p
  · have e : i = xs.length := by omega
    subst e
    exact .inl ⟨⟨xs, q, Nat.le_refl _⟩, hd σ H p⟩
theorem for_range {lo : Int} {n : Nat} {g : TG} {tb : TS} {D : Ends} {σ : St} {H : Hp} (Pv : Nat → St → Hp → Prop) (h0 : Pv 0 σ H)
    (hs : ∀ i σ H, i < n → Pv i σ H → g (.int (lo + i)) σ H fun σ2 H2 => tb { D with nx := Pv (i + 1), ct := Pv (i + 1), bk := D.nx } σ2 H2) (hd : ∀ σ H, Pv n σ H → D.nx σ H) :
    ∃ W : Nat → Nat → St → Hp → Prop, (∃ m, W 0 m σ H) ∧ ∀ i m σ H, W i m σ H →
      ((Itr lo n).stop i H ∧ D.nx σ H) ∨ ((Itr lo n).go i H ∧ ∃ N : St → Hp → Prop, (∀ σ' H', N σ' H' → ∃ m', m' < m ∧ W (i + 1) m' σ' H') ∧ ∀ x H', (Itr lo n).yld i H x H' → g x σ H' fun σ2 H2 => tb { D with nx := N, ct := N, bk := D.nx } σ2 H2) := by
  refine ⟨fun i m σ H => m = n - i ∧ i ≤ n ∧ Pv i σ H, ⟨n, by simp, Nat.zero_le _, h0⟩, ?_⟩
  rintro i m σ H ⟨rfl, hi, p⟩
  by_cases hlt : i < n
  · refine .inr ⟨hlt, Pv (i + 1), fun σ' H' p' => ⟨n - (i + 1), by omega, rfl, hlt, p'⟩, fun x H' y => ?_⟩
    obtain ⟨e, y⟩ := y
    subst e y
    exact hs i σ _ hlt p
  · have e : i = n := by omega
    subst e
    exact .inl ⟨Nat.le_refl _, hd σ H p⟩

end L2

namespace L2
open PySem PySem.Spec PyProof.Rows

abbrev R2 := V → V → Hp → VK → Prop

def OpR (X : Cx) (f : Value → Value → Sem Value) (r : R2) : Prop :=
  ∀ (pins : List (Addr × Obj)) (s : Shared) (σ : St) (H : Hp) (x y : V) (v u : Value) (Q : VK), Inv X pins σ H s → RelV x v → RelV y u → r x y H Q →
    wpAny (model X.prog X.w) X.A (f v u) (EP X pins σ Q) X.xe s

def UnR (X : Cx) (f : Value → Sem Value) (r : V → Hp → VK → Prop) : Prop :=
  ∀ (pins : List (Addr × Obj)) (s : Shared) (σ : St) (H : Hp) (x : V) (v : Value) (Q : VK), Inv X pins σ H s → RelV x v → r x H Q →
    wpAny (model X.prog X.w) X.A (f v) (EP X pins σ Q) X.xe s

def CallR (X : Cx) (f : Value) (r : List V → Hp → VK → Prop) : Prop :=
  ∀ (pins : List (Addr × Obj)) (s : Shared) (σ : St) (H : Hp) (xs : List V) (us : List Value) (Q : VK), Inv X pins σ H s → Vals xs us → r xs H Q →
    wpAny (model X.prog X.w) X.A (call f us) (EP X pins σ Q) X.xe s

def TruR (X : Cx) (r : V → Hp → (Bool → Hp → Prop) → Prop) : Prop :=
  ∀ (pins : List (Addr × Obj)) (s : Shared) (σ : St) (H : Hp) (x : V) (v : Value) (Q : Bool → Hp → Prop), Inv X pins σ H s → RelV x v → r x H Q →
    wpAny (model X.prog X.w) X.A (truthy v) (TP X pins σ Q) X.xe s

def tOp (r : R2) (ta tb : TE) : TE := fun σ H Q => ta σ H fun x H1 => tb σ H1 fun y H2 => r x y H2 Q
def tUn (r : V → Hp → VK → Prop) (ta : TE) : TE := fun σ H Q => ta σ H fun x H1 => r x H1 Q

def rI (C : Int → Int → Prop) (g : Int → Int → V) : R2 := fun x y H Q => ∃ i j, x = .int i ∧ y = .int j ∧ C i j ∧ Q (g i j) H
def rI0 (g : Int → Int → V) : R2 := fun x y H Q => ∃ i j, x = .int i ∧ y = .int j ∧ Q (g i j) H
def rU (g : Int → V) : V → Hp → VK → Prop := fun x H Q => ∃ i, x = .int i ∧ Q (g i) H

section
variable {X : Cx} {a b c : Expr} {ta tb tc : TE} {pos : Pos}

theorem binT (ha : PE X a ta) (hb : PE X b tb) {pins : List (Addr × Obj)} {s : Shared} {σ : St} {H : Hp} {R : V → V → Hp → Prop} (I : Inv X pins σ H s)
    (h : ta σ H fun x H1 => tb σ H1 fun y H2 => R x y H2) {Q : Value → Shared → Prop} {f : Value → Value → Sem Value}
    (hf : ∀ v u s2 x y H2, Inv X pins σ H2 s2 → RelV x v → RelV y u → R x y H2 → wpAny (model X.prog X.w) X.A (f v u) Q X.xe s2) :
    wpAny (model X.prog X.w) X.A (eval a X.env) (fun v s₁ => wpAny (model X.prog X.w) X.A (eval b X.env) (fun u s₂ => wpAny (model X.prog X.w) X.A (f v u) Q X.xe s₂) X.xe s₁) X.xe s := by
  refine thn (ha pins s σ H _ I h) fun v s1 ⟨x, H1, I1, r1, q1⟩ => ?_
  refine thn (hb pins s1 σ H1 _ I1 q1) fun u s2 ⟨y, H2, I2, r2, q2⟩ => ?_
  exact hf v u s2 x y H2 I2 r1 r2 q2

theorem pe_op {op : Operator} {r : R2} (ho : OpR X (binaryOp op) r) (ha : PE X a ta) (hb : PE X b tb) : PE X (.BinOp a op b pos) (tOp r ta tb) := by
  intro pins s σ H Q I h
  exact wpAny_BinOp (binT ha hb I h fun v u s2 x y H2 I2 rx ry q => ho pins s2 σ H2 x y v u Q I2 rx ry q)
theorem pe_un {op : UnaryOp} {r : V → Hp → VK → Prop} (ho : UnR X (unaryOp op) r) (ha : PE X a ta) : PE X (.UnaryOp op a pos) (tUn r ta) := by
  intro pins s σ H Q I h
  exact UnaryOp_ (thn (ha pins s σ H _ I h) fun v s1 ⟨x, H1, I1, r1, q1⟩ => ho pins s1 σ H1 x v Q I1 r1 q1)

theorem opI {f : Value → Value → Sem Value} {C : Int → Int → Prop} {g : Int → Int → Int}
    (rule : ∀ (i j : Int) (t u : Tok) (s : Shared) (Q : Value → Shared → Prop) (E : Value → Shared → Prop), C i j → Q (.int (g i j) s.toks) { s with toks := s.toks + 1 } → wpAny (model X.prog X.w) X.A (f (.int i t) (.int j u)) Q E s) :
    OpR X f (rI C fun i j => .int (g i j)) := by
  intro pins s σ H x y v u Q I rx ry h
  obtain ⟨i, j, rfl, rfl, hc, q⟩ := h
  obtain ⟨t, rfl⟩ := rx
  obtain ⟨t', rfl⟩ := ry
  exact rule i j t t' s _ _ hc ⟨.int (g i j), H, I.tok _, ⟨_, rfl⟩, q⟩
theorem opI0 {f : Value → Value → Sem Value} {g : Int → Int → Int}
    (rule : ∀ (i j : Int) (t u : Tok) (s : Shared) (Q : Value → Shared → Prop) (E : Value → Shared → Prop), Q (.int (g i j) s.toks) { s with toks := s.toks + 1 } → wpAny (model X.prog X.w) X.A (f (.int i t) (.int j u)) Q E s) :
    OpR X f (rI0 fun i j => .int (g i j)) := by
  intro pins s σ H x y v u Q I rx ry h
  obtain ⟨i, j, rfl, rfl, q⟩ := h
  obtain ⟨t, rfl⟩ := rx
  obtain ⟨t', rfl⟩ := ry
  exact rule i j t t' s _ _ ⟨.int (g i j), H, I.tok _, ⟨_, rfl⟩, q⟩
theorem opB0 {f : Value → Value → Sem Value} {g : Int → Int → Bool}
    (rule : ∀ (i j : Int) (t u : Tok) (s : Shared) (Q : Value → Shared → Prop) (E : Value → Shared → Prop), Q (.bool (g i j)) s → wpAny (model X.prog X.w) X.A (f (.int i t) (.int j u)) Q E s) :
    OpR X f (rI0 fun i j => .bl (g i j)) := by
  intro pins s σ H x y v u Q I rx ry h
  obtain ⟨i, j, rfl, rfl, q⟩ := h
  obtain ⟨t, rfl⟩ := rx
  obtain ⟨t', rfl⟩ := ry
  exact rule i j t t' s _ _ ⟨.bl (g i j), H, I, rfl, q⟩

def CPow (i j : Int) : Prop := 0 ≤ j ∧ j ≤ 1000000 ∧ i.natAbs < 2 ^ 64
def CMul (i j : Int) : Prop := (-(2 ^ 64) < i ∧ i < 2 ^ 64) ∨ (-(2 ^ 64) < j ∧ j < 2 ^ 64)
theorem CMul.ok {i j : Int} (h : CMul i j) : IntMulOk i j := by
  rcases h with ⟨h1, h2⟩ | ⟨h1, h2⟩
  · exact .of_left (intBits_le_64 h1 h2)
  · exact .of_right (intBits_le_64 h1 h2)
theorem op_add : OpR X (binaryOp .Add) (rI0 fun i j => .int (i + j)) := opI0 fun _ _ _ _ _ _ _ q => add_int q
theorem op_sub : OpR X (binaryOp .Sub) (rI0 fun i j => .int (i - j)) := opI0 fun _ _ _ _ _ _ _ q => sub_int q
theorem op_mod : OpR X (binaryOp .Mod) (rI (fun _ j => 0 < j) fun i j => .int (i % j)) := opI fun i j _ _ _ _ _ hc q => by
  have h1 : (0 : Int) < j := hc
  exact mod_int' (by omega) (by rw [Int.fmod_eq_emod_of_nonneg i (by omega)]; exact q)
theorem op_pow : OpR X (binaryOp .Pow) (rI CPow fun i j => .int (i ^ j.toNat)) := opI fun _ _ _ _ _ _ _ hc q => pow_int_small hc.1 hc.2.1 hc.2.2 q
theorem unI {f : Value → Sem Value} {g : Int → Int}
    (rule : ∀ (i : Int) (t : Tok) (s : Shared) (Q : Value → Shared → Prop) (E : Value → Shared → Prop), Q (.int (g i) s.toks) { s with toks := s.toks + 1 } → wpAny (model X.prog X.w) X.A (f (.int i t)) Q E s) :
    UnR X f (rU fun i => .int (g i)) := by
  intro pins s σ H x v Q I rx h
  obtain ⟨i, rfl, q⟩ := h
  obtain ⟨t, rfl⟩ := rx
  exact rule i t s _ _ ⟨.int (g i), H, I.tok _, ⟨_, rfl⟩, q⟩
theorem un_neg : UnR X (unaryOp .USub) (rU fun i => .int (-i)) := unI fun _ _ _ _ _ q => neg_int q
end



def scal : V → V → Bool
  | .non, .non => true | .non, .int _ => true | .int _, .non => true | .non, .bl _ => true | .bl _, .non => true | .non, .str _ => true | .str _, .non => true
  | .int _, .int _ => true | .bl _, .bl _ => true | .str _, .str _ => true | .byt _, .byt _ => true
  | .int _, .str _ => true | .str _, .int _ => true | .bl _, .str _ => true | .str _, .bl _ => true
  | _, _ => false
def rEq : R2 := fun x y H Q => scal x y = true ∧ Q (.bl (decide (x = y))) H
def rNe : R2 := fun x y H Q => scal x y = true ∧ Q (.bl (!decide (x = y))) H

theorem dec_int {i j : Int} : decide (V.int i = V.int j) = (i == j) := by
  rw [Bool.eq_iff_iff]
  simp
theorem dec_bl {i j : Bool} : decide (V.bl i = V.bl j) = (i == j) := by
  rw [Bool.eq_iff_iff]
  simp
theorem dec_str {i j : Str} : decide (V.str i = V.str j) = (i == j) := by
  rw [Bool.eq_iff_iff]
  simp
theorem dec_byt {i j : Array UInt8} : decide (V.byt i = V.byt j) = (i.toList == j.toList) := by
  rw [Bool.eq_iff_iff]
  cases i
  cases j
  simp

section
variable {X : Cx} {a b c : Expr} {ta tb tc : TE} {pos : Pos}
theorem fin_bl {pins : List (Addr × Obj)} {σ : St} {H : Hp} {s : Shared} {Q : VK} {k k' : Bool} (I : Inv X pins σ H s) (q : Q (.bl k) H) (e : k = k') : EP X pins σ Q (.bool k') s := by
  subst e
  exact ⟨.bl k, H, I, rfl, q⟩
theorem op_eq : OpR X (compareOp .Eq) rEq := by
  intro pins s σ H x y v u Q I rx ry h
  obtain ⟨hs, q⟩ := h
  cases x with
  | non =>
    cases rx
    cases y with
    | non => cases ry; exact PySem.EqNone.eq_none_none (fin_bl I q (by simp))
    | bl j => cases ry; exact PySem.EqNone.eq_none_bool (fin_bl I q (by simp))
    | int j => obtain ⟨t', rfl⟩ := ry; exact PySem.EqNone.eq_none_int (fin_bl I q (by simp))
    | str j => obtain ⟨t', rfl⟩ := ry; exact PySem.EqNone.eq_none_str (fin_bl I q (by simp))
    | _ => exact absurd (show false = true from hs) Bool.false_ne_true
  | bl i =>
    cases rx
    cases y with
    | non => cases ry; exact PySem.EqNone.eq_bool_none (fin_bl I q (by simp))
    | bl j => cases ry; exact eq_bool (fin_bl I q dec_bl)
    | str j => obtain ⟨t', rfl⟩ := ry; exact PySem.EqMixed.eq_bool_str (fin_bl I q (by simp))
    | _ => exact absurd (show false = true from hs) Bool.false_ne_true
  | int i =>
    obtain ⟨t, rfl⟩ := rx
    cases y with
    | non => cases ry; exact PySem.EqNone.eq_int_none (fin_bl I q (by simp))
    | int j => obtain ⟨t', rfl⟩ := ry; exact eq_int (fin_bl I q dec_int)
    | str j => obtain ⟨t', rfl⟩ := ry; exact PySem.EqMixed.eq_int_str (fin_bl I q (by simp))
    | _ => exact absurd (show false = true from hs) Bool.false_ne_true
  | str i =>
    obtain ⟨t, rfl⟩ := rx
    cases y with
    | non => cases ry; exact PySem.EqNone.eq_str_none (fin_bl I q (by simp))
    | bl j => cases ry; exact PySem.EqMixed.eq_str_bool (fin_bl I q (by simp))
    | int j => obtain ⟨t', rfl⟩ := ry; exact PySem.EqMixed.eq_str_int (fin_bl I q (by simp))
    | str j => obtain ⟨t', rfl⟩ := ry; exact eq_str (fin_bl I q dec_str)
    | _ => exact absurd (show false = true from hs) Bool.false_ne_true
  | byt i =>
    obtain ⟨t, rfl⟩ := rx
    cases y with
    | byt j => obtain ⟨t', rfl⟩ := ry; exact PySem.W.eq_bytes (fin_bl I q dec_byt)
    | _ => exact absurd (show false = true from hs) Bool.false_ne_true
  | _ => cases y <;> exact absurd (show false = true from hs) Bool.false_ne_true
theorem op_ne : OpR X (compareOp .NotEq) rNe := by
  intro pins s σ H x y v u Q I rx ry h
  obtain ⟨hs, q⟩ := h
  cases x with
  | non =>
    cases rx
    cases y with
    | non => cases ry; exact PySem.EqNone.ne_none_none (fin_bl I q (by simp))
    | bl j => cases ry; exact PySem.EqNone.ne_none_bool (fin_bl I q (by simp))
    | int j => obtain ⟨t', rfl⟩ := ry; exact PySem.EqNone.ne_none_int (fin_bl I q (by simp))
    | str j => obtain ⟨t', rfl⟩ := ry; exact PySem.EqNone.ne_none_str (fin_bl I q (by simp))
    | _ => exact absurd (show false = true from hs) Bool.false_ne_true
  | bl i =>
    cases rx
    cases y with
    | non => cases ry; exact PySem.EqNone.ne_bool_none (fin_bl I q (by simp))
    | bl j => cases ry; exact ne_bool (fin_bl I q (congrArg not dec_bl))
    | str j => obtain ⟨t', rfl⟩ := ry; exact PySem.EqMixed.ne_bool_str (fin_bl I q (by simp))
    | _ => exact absurd (show false = true from hs) Bool.false_ne_true
  | int i =>
    obtain ⟨t, rfl⟩ := rx
    cases y with
    | non => cases ry; exact PySem.EqNone.ne_int_none (fin_bl I q (by simp))
    | int j => obtain ⟨t', rfl⟩ := ry; exact ne_int (fin_bl I q (congrArg not dec_int))
    | str j => obtain ⟨t', rfl⟩ := ry; exact PySem.EqMixed.ne_int_str (fin_bl I q (by simp))
    | _ => exact absurd (show false = true from hs) Bool.false_ne_true
  | str i =>
    obtain ⟨t, rfl⟩ := rx
    cases y with
    | non => cases ry; exact PySem.EqNone.ne_str_none (fin_bl I q (by simp))
    | bl j => cases ry; exact PySem.EqMixed.ne_str_bool (fin_bl I q (by simp))
    | int j => obtain ⟨t', rfl⟩ := ry; exact PySem.EqMixed.ne_str_int (fin_bl I q (by simp))
    | str j => obtain ⟨t', rfl⟩ := ry; exact ne_str (fin_bl I q (congrArg not dec_str))
    | _ => exact absurd (show false = true from hs) Bool.false_ne_true
  | byt i =>
    obtain ⟨t, rfl⟩ := rx
    cases y with
    | byt j => obtain ⟨t', rfl⟩ := ry; exact PySem.W.ne_bytes (fin_bl I q (congrArg not dec_byt))
    | _ => exact absurd (show false = true from hs) Bool.false_ne_true
  | _ => cases y <;> exact absurd (show false = true from hs) Bool.false_ne_true

theorem op_lt : OpR X (compareOp .Lt) (rI0 fun i j => .bl (decide (i < j))) := opB0 fun _ _ _ _ _ _ _ q => lt_int q
theorem op_le : OpR X (compareOp .LtE) (rI0 fun i j => .bl (decide (i ≤ j))) := opB0 fun _ _ _ _ _ _ _ q => le_int q
theorem op_gt : OpR X (compareOp .Gt) (rI0 fun i j => .bl (decide (j < i))) := opB0 fun _ _ _ _ _ _ _ q => gt_int q
theorem op_ge : OpR X (compareOp .GtE) (rI0 fun i j => .bl (decide (j ≤ i))) := opB0 fun _ _ _ _ _ _ _ q => ge_int q
theorem OpR.or {f : Value → Value → Sem Value} {r r' : R2} (h : OpR X f r) (h' : OpR X f r') : OpR X f (fun x y H Q => r x y H Q ∨ r' x y H Q) := by
  intro pins s σ H x y v u Q I rx ry q
  rcases q with q | q
  · exact h pins s σ H x y v u Q I rx ry q
  · exact h' pins s σ H x y v u Q I rx ry q

theorem nomark (b : Expr) {op : CmpOp} (h : op ≠ .In := by decide) (h2 : op ≠ .NotIn := by decide) : behindInMarks op b = false := by
  have e1 : (op == CmpOp.In) = false := by cases op <;> first | rfl | exact absurd rfl h
  have e2 : (op == CmpOp.NotIn) = false := by cases op <;> first | rfl | exact absurd rfl h2
  cases b <;> simp [behindInMarks, e1, e2]

def tTest (t : TE) : TT := fun σ H Q => t σ H fun x H' => ∃ k, x = .bl k ∧ Q k H'
theorem pt_cmpR {op : CmpOp} {r : R2} (ho : OpR X (compareOp op) r) (ha : PE X a ta) (hb : PE X b tb) (hm : behindInMarks op b = false) : PT X (.Compare a [op] [b] pos) (tTest (tOp r ta tb)) := by
  intro pins s σ H Q I h
  refine wpAny_isTrue_Compare1 (thn (ha pins s σ H _ I h) fun v s1 ⟨x, H1, I1, r1, q1⟩ => thn (hb pins s1 σ H1 _ I1 q1) fun u s2 ⟨y, H2, I2, r2, q2⟩ =>
    thn (ho pins s2 σ H2 x y v u _ I2 r1 r2 q2) fun c s3 ⟨z, H3, I3, r3, k, e, q3⟩ => ?_) hm
  subst e
  cases r3
  exact wpAny_truthy_bool ⟨H3, I3, q3⟩

def tChain (r r' : R2) (ta tb tc : TE) : TE := fun σ H Q => ta σ H fun x H1 => tb σ H1 fun y H2 => r x y H2 fun z H3 => ∃ k, z = .bl k ∧
  (if k = true then tc σ H3 fun w' H4 => r' y w' H4 Q else Q (.bl false) H3)
theorem pt_chain {op op' : CmpOp} {r r' : R2} (ho : OpR X (compareOp op) r) (ho' : OpR X (compareOp op') r') (ha : PE X a ta) (hb : PE X b tb) (hc : PE X c tc)
    (hm : lastMarks [op, op'] [b, c] = false := by with_unfolding_all rfl) : PT X (.Compare a [op, op'] [b, c] pos) (tTest (tChain r r' ta tb tc)) := by
  intro pins s σ H Q I h
  refine isTrue_chain (thn (ha pins s σ H _ I h) fun v s1 ⟨x, H1, I1, r1, q1⟩ => test_link (thn (hb pins s1 σ H1 _ I1 q1) fun u s2 ⟨y, H2, I2, r2, q2⟩ =>
    thn (ho pins s2 σ H2 x y v u _ I2 r1 r2 q2) fun d s3 ⟨z, H3, I3, r3, k, e, q3⟩ => ?_)) hm
  subst e
  cases r3
  refine wpAny_truthy_bool ?_
  cases k with
  | false =>
    obtain ⟨k', e', q'⟩ := q3
    cases e'
    exact ite_ff ⟨H3, I3, q'⟩
  | true =>
    refine ite_tt (test_last (thn (hc pins s3 σ H3 _ I3 q3) fun w' s4 ⟨z', H4, I4, r4, q4⟩ => thn (ho' pins s4 σ H4 y z' u w' _ I4 r2 r4 q4) fun d' s5 ⟨z2, H5, I5, r5, k2, e2, q5⟩ => ?_))
    subst e2
    cases r5
    exact wpAny_truthy_bool ⟨H5, I5, q5⟩



def TruV (K : PySem.W.Frag) (x : V) (H : Hp) (k : Bool) : Prop :=
  match x with
  | .non => k = false
  | .bl b => k = b
  | .int i => k = (i != 0)
  | .str y => y.length ≤ sizeLine ∧ k = ((y.length : Int) != 0)
  | .byt y => y.size ≤ sizeLine ∧ k = ((y.size : Int) != 0)
  | .ref p => (∃ xs, SqL K H p xs ∧ k = !xs.isEmpty) ∨ (∃ xs, SqT K H p xs ∧ k = !xs.isEmpty) ∨ ∃ kvs, H p = some (.dK kvs) ∧ k = !kvs.isEmpty
  | _ => False
theorem isEmpty_kv {κ : Type} {kvs : List (κ × V)} {vs : List (κ × Value)} (r : KV kvs vs) : (!vs.isEmpty) = !kvs.isEmpty := by
  cases r <;> rfl
theorem isEmpty_of {xs : List V} {its : List Value} (r : Vals xs its) : (!its.toArray.isEmpty) = !xs.isEmpty := by
  cases r <;> simp
theorem line63 : (sizeLine : Nat) < 2 ^ 63 := by rw [sizeLine_eq]; decide
theorem tru_ok : TruR X (fun x H Q => ∃ k, TruV X.K x H k ∧ Q k H) := by
  intro pins s σ H x v Q I rx h
  obtain ⟨k, e, q⟩ := h
  have hl := line63
  have hs : sizeLine = 16777216 := sizeLine_eq
  cases x with
  | non =>
    cases rx
    have e' : k = false := e
    subst e'
    exact truthy_none ⟨H, I, q⟩
  | bl b =>
    cases rx
    have e' : k = b := e
    subst e'
    exact wpAny_truthy_bool ⟨H, I, q⟩
  | int i =>
    obtain ⟨t, rfl⟩ := rx
    have e' : k = (i != 0) := e
    subst e'
    exact PySem.P.truthy_int ⟨H, I, q⟩
  | str y =>
    obtain ⟨t, rfl⟩ := rx
    obtain ⟨hy, e'⟩ : y.length ≤ sizeLine ∧ k = ((y.length : Int) != 0) := e
    subst e'
    exact PySem.P.truthy_str (by omega) ⟨H, I.tok _, q⟩
  | byt y =>
    obtain ⟨t, rfl⟩ := rx
    obtain ⟨hy, e'⟩ : y.size ≤ sizeLine ∧ k = ((y.size : Int) != 0) := e
    subst e'
    exact PySem.W.truthy_bytes (by omega) ⟨H, I.tok _, q⟩
  | ref p =>
    cases rx
    have e' : (∃ xs, SqL X.K H p xs ∧ k = !xs.isEmpty) ∨ (∃ xs, SqT X.K H p xs ∧ k = !xs.isEmpty) ∨ ∃ kvs, H p = some (.dK kvs) ∧ k = !kvs.isEmpty := e
    rcases e' with ⟨xs, hx, e'⟩ | ⟨xs, hx, e'⟩ | ⟨kvs, hx, e'⟩
    · subst e'
      obtain ⟨its, r, pl, hz⟩ := I.list hx
      have hlen := r.length
      exact wpAny_truthy_list pl.isList (by simp only [List.size_toArray]; omega) ⟨H, I.tok _, by rw [isEmpty_of r]; exact q⟩
    · subst e'
      obtain ⟨its, r, pl, hz⟩ := I.tuple hx
      have hlen := r.length
      exact truthy_tuple pl (by simp only [List.size_toArray]; omega) ⟨H, I.tok _, by rw [isEmpty_of r]; exact q⟩
    · subst e'
      obtain ⟨hz, hS, vs, r, m⟩ : kvs.length ≤ sizeLine ∧ (p == sysModules) = false ∧ ∃ vs, KV kvs vs ∧ s.heap.DictOf (mixKind X.prog X.w) p vs := I.hok p _ hx
      have hlen : kvs.length = vs.length := Paired.length r
      exact wpAny_truthy_dict hS m (by omega) ⟨H, I.tok _, by rw [isEmpty_kv r]; exact q⟩
  | _ => exact (show False from e).elim

theorem pt_truth (ha : PE X a ta) (he : ∀ whole, isTrue a X.env whole = (do let v ← whole; standAt a.pos; holding [v] (truthy v))) :
    PT X a (fun σ H Q => ta σ H fun x H' => ∃ k, TruV X.K x H' k ∧ Q k H') := by
  intro pins s σ H Q I h
  exact isTrue_plain (thn (ha pins s σ H _ I h) fun v s1 ⟨x, H1, I1, r1, q1⟩ => tru_ok pins s1 σ H1 x v Q I1 r1 q1) (he _)


theorem vals1 {x : V} {us : List Value} (r : Vals [x] us) : ∃ u, us = [u] ∧ RelV x u := by
  cases r with
  | cons r1 r2 => cases r2; exact ⟨_, rfl, r1⟩
theorem vals2 {x y : V} {us : List Value} (r : Vals [x, y] us) : ∃ u w', us = [u, w'] ∧ RelV x u ∧ RelV y w' := by
  cases r with
  | cons r1 r2 =>
    cases r2 with
    | cons r3 r4 => cases r4; exact ⟨_, _, rfl, r1, r3⟩
theorem call_max2 (hc : X.calm = true) : CallR X (.builtin "max") (fun xs H Q => ∃ i j, xs = [.int i, .int j] ∧ Q (.int (if j > i then j else i)) H) := by
  intro pins s σ H xs us Q I r h
  obtain ⟨i, j, rfl, q⟩ := h
  obtain ⟨u, w', rfl, ⟨t, rfl⟩, ⟨t', rfl⟩⟩ := vals2 r
  refine max_two_ints (I.ok.hd hc) fun h' tk k => ⟨_, H, I.kept k, ?_, q⟩
  by_cases hj : j > i
  · rw [if_pos hj, if_pos hj]; exact ⟨_, rfl⟩
  · rw [if_neg hj, if_neg hj]; exact ⟨_, rfl⟩
theorem call_min2 (hc : X.calm = true) : CallR X (.builtin "min") (fun xs H Q => ∃ i j, xs = [.int i, .int j] ∧ Q (.int (if j < i then j else i)) H) := by
  intro pins s σ H xs us Q I r h
  obtain ⟨i, j, rfl, q⟩ := h
  obtain ⟨u, w', rfl, ⟨t, rfl⟩, ⟨t', rfl⟩⟩ := vals2 r
  refine min_two_ints (I.ok.hd hc) fun h' tk k => ⟨_, H, I.kept k, ?_, q⟩
  by_cases hj : j < i
  · rw [if_pos hj, if_pos hj]; exact ⟨_, rfl⟩
  · rw [if_neg hj, if_neg hj]; exact ⟨_, rfl⟩
end
end L2

namespace L2
open PySem PySem.Spec PyProof.Rows


structure ObjM (h : Heap) (x dx C : Addr) (mA : Str → Option Value) : Prop where
  obj : h.get? x = some (PySem.W.instObj C dx)
  ns : h.Ns1 dx mA
  ne : dx ≠ x

theorem lookIn_ns {h : Heap} {dx : Addr} {mA : Str → Option Value} (n : h.Ns1 dx mA) : ∃ od, h.get? dx = some od ∧ ∀ name, PySem.W.lookIn name od = some (mA name) := by
  obtain ⟨o, es, ep, ho, hd, hk, _, hm⟩ := n
  refine ⟨o, ho, fun name => ?_⟩
  have e := hm name
  unfold nsFind findBy at e
  rw [← Array.find?_toList] at e
  unfold PySem.W.lookIn
  rw [hd]
  dsimp only
  split
  · rename_i y q
    rw [q] at e
    exact congrArg some e
  · rename_i q
    rw [q] at e
    have a : es.toList.any (·.refKey) = false := by
      rw [List.any_eq_false]
      intro y hy
      obtain ⟨z, t, hkey⟩ := hk y (Array.mem_toList_iff.mp hy)
      simp [DictEntry.refKey, hkey]
    have a' : ¬ es.toList.any (·.refKey) = true := by rw [a]; exact Bool.false_ne_true
    rw [if_neg a']
    exact congrArg some e

theorem ObjM.look {h : Heap} {x dx C : Addr} {mA : Str → Option Value} (I : ObjM h x dx C mA) : ∃ od, PySem.W.InstAt h x (PySem.W.instObj C dx) C (some od) ∧ ∀ name, PySem.W.lookIn name od = some (mA name) :=
  let ⟨od, ho, hl⟩ := lookIn_ns I.ns
  ⟨od, ⟨I.obj, rfl, rfl, ho⟩, hl⟩

section
variable {prog : Program} {w : World} {A : Around} {E : Value → Shared → Prop} {s : Shared} {K : PySem.W.Frag} {x dx C f : Addr} {mA : Str → Option Value} {name : Str} {v : Value}

theorem get_map {expr : Bool} {Q : Value → Shared → Prop} (X : K.In s.heap) (I : ObjM s.heap x dx C mA) (hg : PySem.W.plainGet K C name = true) (hh : PySem.W.hasDictIn K C = true)
    (ha : PySem.W.findIn K (.ref C) name = some none) (hv : mA name = some v) (hv' : PySem.W.handedIn v = true) (h : Q v { s with toks := s.toks + 1 }) :
    wpAny (model prog w) A (getAttr (.ref x) name expr) Q E s := by
  obtain ⟨od, J, hl⟩ := I.look
  exact PySem.W.get_value X J (PySem.W.plainGet_of hg).1 (PySem.W.findObj_own hh ha rfl (by rw [hl, hv])) hv' h

theorem get_meth {pl : Sem Bool} {Q : Value × List Value → Shared → Prop} (X : K.In s.heap) (I : ObjM s.heap x dx C mA) (hg : PySem.W.plainGet K C name = true)
    (hf : PySem.W.findIn K (.ref C) name = some (some (.ref f))) (ht : PySem.W.isFn K (.ref f) = true) (hv : mA name = none) (h : Q (.ref f, [.ref x]) s) :
    wpAny (model prog w) A (getMethod (.ref x) name pl) Q E s := by
  obtain ⟨od, J, hl⟩ := I.look
  exact PySem.W.method_fn X J (PySem.W.plainGet_of hg).1 (PySem.W.plainGet_of hg).2 hf (beq_iff_eq.mp ht) (by show (PySem.W.lookIn name od).map (·.isSome) = some false; rw [hl, hv]; rfl) h

theorem set_map {ns : List Str} {Q : Unit → Shared → Prop} (X : K.In s.heap) (I : ObjM s.heap x dx C mA)
    (hs : PySem.W.findIn K (.ref C) "__setattr__" = some (some (.builtin "object.__setattr__"))) (hp : PySem.W.plainOver K C = true) (ht : PySem.W.takerIn K C name = some none) (hh : PySem.W.hasDictIn K C = true)
    (hw : PySem.Within mA ns) (hsz : ns.length ≤ sizeLine)
    (h : ∀ h', ObjM h' x dx C (fun y => if y = name then some v else mA y) → Heap.SameBut dx s.heap h' → Q () { s with heap := h', toks := s.toks + 2 }) :
    wpAny (model prog w) A (setAttr (.ref x) name v) Q E s := by
  obtain ⟨od, J, hl⟩ := I.look
  refine PySem.W.set_plain X J hs (PySem.W.osa_open (s := { s with toks := s.toks + 1 }) (r := none) X J hp ht fun b => ?_)
  obtain ⟨cd, hc, hd'⟩ := PySem.W.any_some hh
  have hx : s.heap.get? x = some ⟨.ref C, some dx, .plain, #[]⟩ := I.obj
  refine wpAny_bind (wpAny_pure (wpAny_bind (wpAny_bind (wpAny_loadPart hx (wpAny_bind (PySem.W.Looks.here (s := { s with toks := s.toks + 1 }) (PySem.W.looks_clsIn X hc) ?_))))))
  rw [hd']
  refine wpAny_pure (a := some dx) (wpAny_bind (wpAny_pure (wpAny_bind ?_)))
  refine wpAny_nsSet1 (s := { s with toks := s.toks + 1 }) I.ns fun h' hn2 hs2 => ?_
  obtain ⟨oD, esD, epD, hoD, hdD, hcD⟩ := hn2.count (PySem.Within.cons name v hw)
  refine wpAny_bind (wpAny_lookBehind hoD (by rw [hdD]; exact pastItsLine_dict (Nat.le_trans hcD (by rw [List.length_cons]; omega))) ?_)
  exact wpAny_pure (h _ ⟨(hs2.2 _ (Ne.symm I.ne)).trans I.obj, hn2, I.ne⟩ hs2)


theorem make_map {R : Result → Shared → Prop} {vs : List Value} {kw : List (Str × Value)} (X : K.In s.heap) (hm : PySem.W.makesIn K C = true)
    (hi : PySem.W.findIn K (.ref C) "__init__" = some (some (.ref f))) (hf : PySem.W.typeIn K (.ref f) = some (.type "function"))
    (h : codeAny (model prog w) (A.under (.builtin "type.__call__" ⟨.ref C :: vs, kw⟩)) (.call (.ref f) ⟨.ref (s.heap.objs.size + 1) :: vs, kw⟩) (PySem.W.InitBack (s.heap.objs.size + 1) R)
      { s with heap := (s.heap.push PySem.W.emptyDict).push (PySem.W.instObj C s.heap.objs.size) }) :
    codeAny (model prog w) A (.call (.ref C) ⟨vs, kw⟩) R s := by
  obtain ⟨hh, g, d, t, os⟩ := s
  exact PySem.W.make_core (PySem.W.makes_of X hm) (PySem.W.looks_findIn X hi) (fun self => PySem.W.bind_fn X self hf) (.inl rfl) h

end


def putF (f : Str) (v : V) : List (Str × V) → List (Str × V)
  | [] => [(f, v)]
  | (g, x) :: r => if g = f then (g, v) :: r else (g, x) :: putF f v r
theorem lookup_putF (f g : Str) (v : V) : ∀ fs : List (Str × V), (putF f v fs).lookup g = if g = f then some v else fs.lookup g
  | [] => by
    show List.lookup g [(f, v)] = _
    by_cases h : g = f
    · have hb : (g == f) = true := beq_iff_eq.mpr h
      simp only [List.lookup, hb, if_pos h]
    · have hb : (g == f) = false := beq_eq_false_iff_ne.mpr h
      simp only [List.lookup, hb, if_neg h]
  | (k, x) :: r => by
    have ih := lookup_putF f g v r
    rw [show putF f v ((k, x) :: r) = (if k = f then (k, v) :: r else (k, x) :: putF f v r) from rfl]
    by_cases hk : k = f
    · rw [if_pos hk]
      by_cases h : g = k
      · have hb : (g == k) = true := beq_iff_eq.mpr h
        simp only [List.lookup, hb, if_pos (h.trans hk)]
      · have hb : (g == k) = false := beq_eq_false_iff_ne.mpr h
        simp only [List.lookup, hb, if_neg (fun e : g = f => h (e.trans hk.symm))]
    · rw [if_neg hk]
      by_cases h : g = k
      · have hb : (g == k) = true := beq_iff_eq.mpr h
        simp only [List.lookup, hb, if_neg (fun e : g = f => hk (h.symm.trans e))]
      · have hb : (g == k) = false := beq_eq_false_iff_ne.mpr h
        simp only [List.lookup, hb]
        exact ih
theorem keys_putF (f : Str) (v : V) : ∀ fs : List (Str × V), f ∈ (putF f v fs).map (·.1) ∧ ∀ g, g ∈ fs.map (·.1) → g ∈ (putF f v fs).map (·.1)
  | [] => ⟨by simp [putF], fun g h => by simp at h⟩
  | (k, x) :: r => by
    obtain ⟨i1, i2⟩ := keys_putF f v r
    rw [show putF f v ((k, x) :: r) = (if k = f then (k, v) :: r else (k, x) :: putF f v r) from rfl]
    by_cases hk : k = f
    · rw [if_pos hk]
      subst hk
      exact ⟨by simp, fun g h => by simpa using h⟩
    · rw [if_neg hk]
      refine ⟨?_, fun g h => ?_⟩
      · rw [List.map_cons]
        exact List.mem_cons_of_mem _ i1
      · rw [List.map_cons] at h ⊢
        rcases List.mem_cons.mp h with e | e
        · exact List.mem_cons.mpr (.inl e)
        · exact List.mem_cons_of_mem _ (i2 g e)
theorem length_putF (f : Str) (v : V) : ∀ fs : List (Str × V), (putF f v fs).length ≤ fs.length + 1
  | [] => by simp [putF]
  | (k, x) :: r => by
    have ih := length_putF f v r
    rw [show putF f v ((k, x) :: r) = (if k = f then (k, v) :: r else (k, x) :: putF f v r) from rfl]
    by_cases hk : k = f
    · rw [if_pos hk, List.length_cons, List.length_cons]; omega
    · rw [if_neg hk, List.length_cons, List.length_cons]; omega

theorem RelO.some_of {v : V} {o : Option Value} (r : RelO (some v) o) : ∃ u, o = some u ∧ RelV v u := by
  cases o with
  | none => exact (show False from r).elim
  | some u => exact ⟨u, rfl, r⟩
theorem RelO.none_of {o : Option Value} (r : RelO none o) : o = none := by
  cases o with
  | none => rfl
  | some u => exact (show False from r).elim
theorem handed_of {v : V} {u : Value} (r : RelV v u) : PySem.W.handedIn u = true := by
  cases v with
  | non => cases (show u = Value.none from r); rfl
  | bl b => cases (show u = Value.bool b from r); rfl
  | int i => obtain ⟨t, e⟩ := (show ∃ t, u = Value.int i t from r); cases e; rfl
  | str x => obtain ⟨t, e⟩ := (show ∃ t, u = Value.str x t from r); cases e; rfl
  | byt b => obtain ⟨t, e⟩ := (show ∃ t, u = Value.bytes b t from r); cases e; rfl
  | flt b => obtain ⟨t, e⟩ := (show ∃ t, u = Value.float b t from r); cases e; rfl
  | ref a => cases (show u = Value.ref a from r); rfl
  | ty n => cases (show u = Value.type n from r); rfl

section
variable {P : Program} {w : World} {H H' : Hp} {h h' : Heap} {a C dx : Addr} {fs fs' : List (Str × V)}
theorem ins_get (hok : HOk P w H h) (e : H a = some (.ins C dx fs)) : ∃ mA, ObjM h a dx C mA ∧ (∀ f, RelO (fs.lookup f) (mA f)) ∧ PySem.Within mA (fs.map (·.1)) ∧ fs.length ≤ 1000 ∧ H dx = some (.own a) := by
  obtain ⟨d, z, ne, ob, mA, n, r, q⟩ := (show ObjOk P w H h a (.ins C dx fs) from hok a _ e)
  exact ⟨mA, ⟨ob, n, ne⟩, r, q, z, d⟩
end


structure Cls (K : PySem.W.Frag) (C : Addr) : Prop where
  pg : PySem.W.plainGet K C Str.empty = true
  hd : PySem.W.hasDictIn K C = true
  po : PySem.W.plainOver K C = true
  sa : PySem.W.findIn K (.ref C) "__setattr__" = some (some (.builtin "object.__setattr__"))
theorem Cls.get {K : PySem.W.Frag} {C : Addr} (c : Cls K C) (f : Str) : PySem.W.plainGet K C f = true := c.pg

def NoAttr (K : PySem.W.Frag) (C : Addr) (f : Str) : Prop := PySem.W.findIn K (.ref C) f = some none
theorem NoAttr.taker {K : PySem.W.Frag} {C : Addr} {f : Str} (n : NoAttr K C f) : PySem.W.takerIn K C f = some none := by
  unfold PySem.W.takerIn
  rw [show PySem.W.findIn K (.ref C) f = some none from n]
  rfl

structure Con (K : PySem.W.Frag) (C : Addr) (f : Str) (v : V) (u : Value) : Prop where
  at_ : PySem.W.findIn K (.ref C) f = some (some u)
  rel : RelV v u
  get : PySem.W.specialIn K u "__get__" = some none
  cp : PySem.W.copiedNames.contains f = false

structure Meth (K : PySem.W.Frag) (C : Addr) (m : Str) (f : Addr) : Prop where
  at_ : PySem.W.findIn K (.ref C) m = some (some (.ref f))
  fn : PySem.W.isFn K (.ref f) = true
  kp : PySem.W.keepIn K (.ref f) = true

section
variable {X : Cx} {pins : List (Addr × Obj)} {σ : St} {H : Hp} {s : Shared} {a C dx : Addr} {fs : List (Str × V)} {f : Str} {v : V} {A : Around} {E : Value → Shared → Prop}

theorem getattr_ok {b : Bool} {Q : Value → Shared → Prop} (I : Inv X pins σ H s) (e : H a = some (.ins C dx fs)) (c : Cls X.K C) (n : NoAttr X.K C f) (l : fs.lookup f = some v)
    (h : ∀ u s', Inv X pins σ H s' → RelV v u → Q u s') : wpAny (model X.prog X.w) A (getAttr (.ref a) f b) Q E s := by
  obtain ⟨mA, O, r, _, _, _⟩ := ins_get I.hok e
  obtain ⟨u, hu, ru⟩ := RelO.some_of (v := v) (o := mA f) (by rw [← l]; exact r f)
  exact get_map I.kIn O (c.get f) c.hd n hu (handed_of ru) (h u _ (I.tok _) ru)

theorem getmeth_ok {m : Str} {g : Addr} {pl : Sem Bool} {Q : Value × List Value → Shared → Prop} (I : Inv X pins σ H s) (e : H a = some (.ins C dx fs)) (c : Cls X.K C) (k : Meth X.K C m g) (l : fs.lookup m = none)
    (h : Q (.ref g, [.ref a]) s) : wpAny (model X.prog X.w) A (getMethod (.ref a) m pl) Q E s := by
  obtain ⟨mA, O, r, _, _, _⟩ := ins_get I.hok e
  have hn : mA m = none := RelO.none_of (by rw [← l]; exact r m)
  exact get_meth I.kIn O (c.get m) k.at_ k.fn hn h

theorem setattr_ok {y : V} {u : Value} {Q : Unit → Shared → Prop} (I : Inv X pins σ H s) (e : H a = some (.ins C dx fs)) (c : Cls X.K C) (n : NoAttr X.K C f) (hl : fs.length < 1000) (ry : RelV y u)
    (h : ∀ s', Inv X pins σ (upd H a (.ins C dx (putF f y fs))) s' → Q () s') : wpAny (model X.prog X.w) A (setAttr (.ref a) f u) Q E s := by
  obtain ⟨mA, O, r, wi, _, ho⟩ := ins_get I.hok e
  have hz : (fs.map (·.1)).length ≤ sizeLine := by rw [List.length_map, sizeLine_eq]; omega
  refine set_map I.kIn O c.sa c.po n.taker c.hd wi hz fun h' O' sb => h _ ?_
  have hd : ∃ o, h'.get? dx = some o := let ⟨o, _, _, e', _⟩ := O'.ns; ⟨o, e'⟩
  refine I.write (x := a) (e := dx) (by rw [e]; exact True.intro) (.inr ho) (fun b q hb z => (sb.2 b hb).trans z) hd ?_
  refine ⟨by rw [upd_ne O.ne]; exact ho, ?_, O.ne, O'.obj, _, O'.ns, fun g => ?_, fun g hg => ?_⟩
  · have := length_putF f y fs; omega
  · show RelO ((putF f y fs).lookup g) (if g = f then some u else mA g)
    rw [lookup_putF]
    by_cases q : g = f
    · rw [if_pos q, if_pos q]; exact ry
    · rw [if_neg q, if_neg q]; exact r g
  · by_cases q : g = f
    · rw [q]; exact (keys_putF f y fs).1
    · refine (keys_putF f y fs).2 g (wi g fun z => hg ?_)
      show (if g = f then some u else mA g) = none
      rw [if_neg q]; exact z


theorem Inv.made (I : Inv X pins σ H s) : Inv X pins σ (upd (upd H s.heap.objs.size (.own (s.heap.objs.size + 1))) (s.heap.objs.size + 1) (.ins C s.heap.objs.size []))
    { s with heap := (s.heap.push PySem.W.emptyDict).push (PySem.W.instObj C s.heap.objs.size) } := by
  have e1 : (s.heap.push PySem.W.emptyDict).get? s.heap.objs.size = some PySem.W.emptyDict := Heap.get?_push_size s.heap rfl
  have e2 : ((s.heap.push PySem.W.emptyDict).push (PySem.W.instObj C s.heap.objs.size)).get? (s.heap.objs.size + 1) = some (PySem.W.instObj C s.heap.objs.size) := by
    have := Heap.get?_push_size (s.heap.push PySem.W.emptyDict) (o := PySem.W.instObj C s.heap.objs.size) rfl
    rwa [Heap.size_push] at this
  have e3 : (s.heap.push PySem.W.emptyDict).Ns s.heap.objs.size (fun _ => none) := ⟨PySem.W.emptyDict, #[], _, e1, rfl, (fun e he => absurd he (by simp)), fun _ => rfl⟩
  have I1 := I.laid (a := s.heap.objs.size) (o := .own (s.heap.objs.size + 1)) (h' := s.heap.push PySem.W.emptyDict) (t' := s.toks) (fun b u q => Heap.get?_push_of_some _ q) (Nat.le_refl _) ⟨_, e1⟩
  refine I1.laid (a := s.heap.objs.size + 1) (o := .ins C s.heap.objs.size []) (t' := s.toks) (fun b u q => Heap.get?_push_of_some _ q) (Nat.le_of_eq (Heap.size_push _ _)) ?_
  have ne : s.heap.objs.size ≠ s.heap.objs.size + 1 := Nat.ne_of_lt (Nat.lt_succ_self _)
  refine ⟨by rw [upd_ne ne, upd_same], Nat.zero_le _, ne, e2, fun _ => none, (Heap.Ns1.of_empty e3).at fun o q => Heap.get?_push_of_some _ q, fun _ => True.intro, fun y hy => absurd rfl hy⟩


theorem attr_of {prog : Program} {w : World} {env : Env} {e : Expr} {f : Str} {pos : Pos} {s : Shared} {Q : Value → Shared → Prop} (hb : attributeBase e f env (eval e env) = eval e env)
    (h : wpAny (model prog w) A (eval e env) (fun o s₁ => wpAny (model prog w) A (getAttr o f true) Q E s₁) E s) : wpAny (model prog w) A (eval (.Attribute e f pos) env) Q E s :=
  Attribute_any_ h (by rw [arm_eval_Attribute, hb])
end



section
variable {X : Cx} {o e value : Expr} {f : Str} {pos pos' tpos : Pos} {ta tv : TE}
end


section
variable {X : Cx} {pins : List (Addr × Obj)} {σ : St} {H : Hp} {s : Shared} {A : Around} {E : Value → Shared → Prop} {Q : Value → Shared → Prop} {c : Value} {b : Bool}

inductive TyOf (K : PySem.W.Frag) (H : Hp) : V → Value → Prop where
  | non : TyOf K H .non (.type "NoneType")
  | bl (x : Bool) : TyOf K H (.bl x) (.type "bool")
  | int (i : Int) : TyOf K H (.int i) (.type "int")
  | str (x : Str) : TyOf K H (.str x) (.type "str")
  | flt (x : UInt64) : TyOf K H (.flt x) (.type "float")
  | lst {a : Addr} {xs : List V} (e : H a = some (.lst xs)) : TyOf K H (.ref a) (.type "list")
  | frz {a : Addr} {o : Obj} {xs : List V} (e : H a = some (.frz o (.lst xs))) : TyOf K H (.ref a) (.type "list")
  | tup {a : Addr} {xs : List V} (e : H a = some (.tup xs)) : TyOf K H (.ref a) (.type "tuple")
  | dK {a : Addr} {kvs : List (Key × V)} (e : H a = some (.dK kvs)) : TyOf K H (.ref a) (.type "dict")
  | dT {a : Addr} {kvs : List (List Key × V)} (e : H a = some (.dT kvs)) : TyOf K H (.ref a) (.type "dict")
  | ins {a C dx : Addr} {fs : List (Str × V)} (e : H a = some (.ins C dx fs)) (cl : Cls K C) (ha : PySem.W.findIn K (.ref C) "__class__" = some (some (.builtin "object.__class__")))
      (hn : PySem.W.specialIn K (.builtin "object.__class__") "__get__" = some (some (.builtin "getset_descriptor.__get__"))) (htk : PySem.W.takesIn K (.builtin "object.__class__") = some true)
      (hm : PySem.W.mroIn K C (.type "object") = some true) : TyOf K H (.ref a) (.ref C)

theorem isinst_ok {x : V} {u t : Value} (I : Inv X pins σ H s) (rx : RelV x u) (ty : TyOf X.K H x t) (e : PySem.W.kitOne X.K t c = some b) (h : ∀ tk, Q (.bool b) { s with toks := tk }) :
    wpAny (model X.prog X.w) A (call (.builtin "isinstance") [u, c]) Q E s := by
  cases ty with
  | non => cases (show u = Value.none from rx); exact PySem.W.kia_one PySem.W.kitx_none I.kIn True.intro e (fun z => nomatch z) h
  | bl y => cases (show u = Value.bool y from rx); exact PySem.W.kia_one PySem.W.kitx_bool I.kIn True.intro e (fun z => nomatch z) h
  | int i => obtain ⟨t, q⟩ := (show ∃ t, u = Value.int i t from rx); cases q; exact PySem.W.kia_one PySem.W.kitx_int I.kIn True.intro e (fun z => nomatch z) h
  | str y => obtain ⟨t, q⟩ := (show ∃ t, u = Value.str y t from rx); cases q; exact PySem.W.kia_one PySem.W.kitx_str I.kIn True.intro e (fun z => nomatch z) h
  | flt y => obtain ⟨t, q⟩ := (show ∃ t, u = Value.float y t from rx); cases q; exact PySem.W.kia_one PySem.W.kitx_float I.kIn True.intro e (fun z => nomatch z) h
  | @lst a xs ea =>
    cases (show u = Value.ref a from rx)
    obtain ⟨_, _, n, _, h1⟩ := (show ObjOk X.prog X.w H s.heap a (.lst xs) from I.hok a _ ea)
    exact PySem.W.kia_one PySem.W.kitx_list I.kIn ⟨_, h1, rfl⟩ e (fun z => nomatch z) h
  | @frz a ob xs ea =>
    cases (show u = Value.ref a from rx)
    obtain ⟨_, _, _, n, _, h1⟩ := (show ObjOk X.prog X.w H s.heap a (.frz ob (.lst xs)) from I.hok a _ ea)
    exact PySem.W.kia_one PySem.W.kitx_list I.kIn ⟨_, h1, rfl⟩ e (fun z => nomatch z) h
  | @tup a xs ea =>
    cases (show u = Value.ref a from rx)
    obtain ⟨_, _, _, p⟩ := (show ObjOk X.prog X.w H s.heap a (.tup xs) from I.hok a _ ea)
    obtain ⟨o, h1, h2, _⟩ := p
    exact PySem.W.kia_one PySem.W.kitx_tuple I.kIn ⟨o, h1, h2⟩ e (fun z => nomatch z) h
  | @dK a kvs ea =>
    cases (show u = Value.ref a from rx)
    obtain ⟨_, _, vs, _, p⟩ := (show ObjOk X.prog X.w H s.heap a (.dK kvs) from I.hok a _ ea)
    obtain ⟨o, es, ep, h1, h2, _⟩ := p
    exact PySem.W.kia_one PySem.W.kitx_dict I.kIn ⟨o, h1, h2.1⟩ e (fun z => nomatch z) h
  | @dT a kvs ea =>
    cases (show u = Value.ref a from rx)
    obtain ⟨_, _, xs, _, o, es, ep, h1, h2, _⟩ := (show ObjOk X.prog X.w H s.heap a (.dT kvs) from I.hok a _ ea)
    exact PySem.W.kia_one PySem.W.kitx_dict I.kIn ⟨o, h1, h2.1⟩ e (fun z => nomatch z) h
  | @ins a C dx fs ea cl ha hn htk hm =>
    cases (show u = Value.ref a from rx)
    obtain ⟨mA, O, _⟩ := ins_get I.hok ea
    obtain ⟨od, J, _⟩ := O.look
    exact PySem.W.kia_one (PySem.W.kitx_own (cl.get _) cl.hd ha hn htk hm) I.kIn J e (fun z => nomatch z) h
end
end L2

namespace L2
open PySem PySem.Spec PyProof.Rows


structure Room (k : Nat) (A : Around) : Prop where
  hd : A.handled = none
  dp : A.depth + 3 * k + 5 < recursionLimit
  un : A.units + 16 * k + 200 < cLine
theorem Room.mono {j k : Nat} {A : Around} (r : Room k A) (h : j ≤ k) : Room j A := ⟨r.hd, by have := r.dp; omega, by have := r.un; omega⟩
theorem Room.deeper {k : Nat} {A : Around} (r : Room (k + 1) A) (env : Env) : Room k (A.deeper env) :=
  ⟨r.hd, by have := r.dp; show A.depth + 1 + 3 * k + 5 < _; omega, by have := r.un; show A.units + 3 + 16 * k + 200 < _; omega⟩
theorem Room.in1 {k : Nat} {A : Around} (r : Room (k + 1) A) : Room k A.in1 :=
  ⟨r.hd, by have := r.dp; show A.depth + 3 * k + 5 < _; omega, by have := r.un; show A.units + 1 + 16 * k + 200 < _; omega⟩
theorem make_depth {A : Around} {C : Addr} {us : List Value} {kw : List (Str × Value)} : (A.under (.builtin "type.__call__" ⟨.ref C :: us, kw⟩)).depth = A.depth + 1 := by
  first | rfl | simp [Around.under, Code.weight, Code.isCreation, Code.isGuard, Code.isCaller, Code.frames, Code.isFrame, guardIds]
theorem make_units {A : Around} {C : Addr} {us : List Value} {kw : List (Str × Value)} : (A.under (.builtin "type.__call__" ⟨.ref C :: us, kw⟩)).units = A.units + 1 := by
  first | rfl | simp [Around.under, Code.cUnits, Code.frames, Code.isFrame]
theorem Room.make {k : Nat} {A : Around} (r : Room (k + 1) A) (C : Addr) (us : List Value) (kw : List (Str × Value)) : Room k (A.under (.builtin "type.__call__" ⟨.ref C :: us, kw⟩)) :=
  ⟨r.hd, by have := r.dp; rw [make_depth]; omega, by have := r.un; rw [make_units]; omega⟩
theorem Room.depth {k : Nat} {A : Around} (r : Room k A) : A.depth < recursionLimit := by have := r.dp; omega
theorem Room.units {k : Nat} {A : Around} (r : Room k A) : A.units + 64 < cLine := by have := r.un; omega
def tNil : TA := fun _ H Q => Q [] H
def tCons (ta : TE) (tr : TA) : TA := fun σ H Q => ta σ H fun x H1 => tr σ H1 fun xs H2 => Q (x :: xs) H2
section
variable {X : Cx} {e : Expr} {es : List Expr} {te : TE} {t : TA} {pos : Pos}
theorem pa_nil : PA X [] tNil := fun _ _ _ _ H Q I h => Calls.spliced_nil ⟨[], H, I, .nil, h⟩
theorem pa_cons (ha : PE X e te) (hr : PA X es t) (hs : starEach (e :: es) X.env = (false, eval e X.env) :: starEach es X.env := by rfl) : PA X (e :: es) (tCons te t) := by
  intro pos pins s σ H Q I h
  rw [hs]
  show wpAny _ _ (spliced ((false, eval e X.env) :: backTo pos (starEach es X.env))) _ _ s
  refine Calls.spliced_cons (thn (ha pins s σ H _ I h) fun u s1 ⟨x, H1, I1, r1, q1⟩ => ?_)
  exact thn (hr pos pins s1 σ H1 _ I1 q1) fun us s2 ⟨xs, H2, I2, r2, q2⟩ => ⟨x :: xs, H2, I2, .cons r1 r2, q2⟩


def tTup (t : TA) : TE := fun σ H Q => t σ H fun xs H1 => xs.length ≤ sizeLine ∧ ∀ p, H1 p = none → Q (.ref p) (upd H1 p (.tup xs))
def tLst (t : TA) : TE := fun σ H Q => t σ H fun xs H1 => xs.length ≤ sizeLine ∧ ∀ p, H1 p = none → Q (.ref p) (upd H1 p (.lst xs))
theorem pe_tup {x1} (h : PA X es t) : PE X (.Tuple es x1 pos) (tTup t) := by
  intro pins s σ H Q I hq
  refine wpAny_Tuple_spliced (thn (h pos pins s σ H _ I hq) fun us s1 ⟨xs, H1, I1, r, z, q⟩ => ⟨by rw [← r.length]; exact z, ?_⟩)
  have hf : H1 s1.heap.objs.size = none := I1.hok.fresh (Nat.le_refl _)
  refine ⟨.ref s1.heap.objs.size, upd H1 s1.heap.objs.size (.tup xs), I1.laid (t' := s1.toks) (fun b u e => Heap.get?_push_of_some _ e) (Nat.le_refl _) ?_, rfl, q _ hf⟩
  exact ⟨z, us, r, ⟨_, Heap.get?_push_size _ rfl, rfl, _, rfl⟩⟩
theorem pe_lst (h : PA X es t) : PE X (.List es pos) (tLst t) := by
  intro pins s σ H Q I hq
  refine wpAny_List_spliced (thn (h pos pins s σ H _ I hq) fun us s1 ⟨xs, H1, I1, r, z, q⟩ => ⟨by rw [← r.length]; exact z, ?_⟩)
  have hf : H1 s1.heap.objs.size = none := I1.hok.fresh (Nat.le_refl _)
  refine ⟨.ref s1.heap.objs.size, upd H1 s1.heap.objs.size (.lst xs), I1.laid (t' := s1.toks) (fun b u e => Heap.get?_push_of_some _ e) (Nat.le_refl _) ?_, rfl, q _ hf⟩
  exact ⟨z, us, 0, r, Heap.get?_push_size _ rfl⟩
end



abbrev Sp := List V → Hp → VK → XK → Prop

abbrev CXT := List Env → Hp → Shared → XK → Value → Shared → Prop


structure Env0 (P : Program) (w : World) (K : PySem.W.Frag) (mg : Str → Option Value) (base : Heap) (A : Around) (outer : List Env) (s : Shared) (H : Hp) : Prop where
  frames : A.frames = some outer
  mod : Mod K mg base
  bs : ∀ b o, base.get? b = some o → s.heap.get? b = some o ∧ H b = none
  bsz : base.objs.size ≤ s.heap.objs.size
  funs : s.heap.FunFrames base outer
  frf : ∀ b ∈ frs outer, H b = none
  hok : HOk P w H s.heap
  bare : AllBare s.gens

def CE (outer : List Env) (P : Program) (w : World) (H : Hp) (s : Shared) (Q : VK) (u : Value) (s' : Shared) : Prop :=
  ∃ v H', s'.os = s.os ∧ AllBare s'.gens ∧ Un (frs outer) [] H H' s.heap s'.heap ∧ HOk P w H' s'.heap ∧ RelV v u ∧ Q v H'
def CR (CX : CXT) (outer : List Env) (P : Program) (w : World) (H : Hp) (s : Shared) (Q : VK) (E : XK) (r : Result) (s' : Shared) : Prop :=
  match r with
  | .ok (.ret u) => CE outer P w H s Q u s'
  | .ok _ => False
  | .error e => CX outer H s E e s'
structure FnOk (P : Program) (w : World) (K : PySem.W.Frag) (mg : Str → Option Value) (base : Heap) (CX : CXT) (k : Nat) (f : Addr) (fd : FuncData) (ps : List Str) (sp : Sp) : Prop where
  len : ∀ vs H Q E, sp vs H Q E → vs.length = ps.length
  run : ∀ (A : Around) (outer : List Env) (s : Shared) (H : Hp) (args : Args) (us : List Value) (vs : List V) (Q : VK) (E : XK), Room k A → Env0 P w K mg base A outer s H → BindsTo s fd args (ps.zip us) → Vals vs us → sp vs H Q E →
    codeAny (model P w) A (.call (.ref f) args) (CR CX outer P w H s Q E) s
theorem FnOk.mono {P : Program} {w : World} {K : PySem.W.Frag} {mg : Str → Option Value} {base : Heap} {CX : CXT} {j k : Nat} {f : Addr} {fd : FuncData} {ps : List Str} {sp : Sp} (F : FnOk P w K mg base CX j f fd ps sp) (h : j ≤ k) :
    FnOk P w K mg base CX k f fd ps sp := ⟨F.len, fun A outer s H args us vs Q E hr => F.run A outer s H args us vs Q E (hr.mono h)⟩

theorem FnOk.imp {P : Program} {w : World} {K : PySem.W.Frag} {mg : Str → Option Value} {base : Heap} {CX : CXT} {k : Nat} {f : Addr} {fd : FuncData} {ps : List Str} {sp sp' : Sp} (F : FnOk P w K mg base CX k f fd ps sp)
    (h : ∀ vs H Q E, sp' vs H Q E → sp vs H Q E) : FnOk P w K mg base CX k f fd ps sp' :=
  ⟨fun vs H Q E q => F.len vs H Q E (h _ _ _ _ q), fun A outer s H args us vs Q E hr he hb hv hs => F.run A outer s H args us vs Q E hr he hb hv (h _ _ _ _ hs)⟩

theorem Env0.make {P : Program} {w : World} {K : PySem.W.Frag} {mg : Str → Option Value} {base : Heap} {A : Around} {outer : List Env} {s : Shared} {H : Hp} (e : Env0 P w K mg base A outer s H) (C : Addr) (us : List Value) (kw : List (Str × Value)) :
    Env0 P w K mg base (A.under (.builtin "type.__call__" ⟨.ref C :: us, kw⟩)) outer s H := ⟨by first | exact e.frames | (simpa [Around.under, Code.envs, Code.isFrame, pushEnvs] using e.frames), e.mod, e.bs, e.bsz, e.funs, e.frf, e.hok, e.bare⟩
theorem Env0.in1 {P : Program} {w : World} {K : PySem.W.Frag} {mg : Str → Option Value} {base : Heap} {A : Around} {outer : List Env} {s : Shared} {H : Hp} (e : Env0 P w K mg base A outer s H) :
    Env0 P w K mg base A.in1 outer s H := ⟨e.frames, e.mod, e.bs, e.bsz, e.funs, e.frf, e.hok, e.bare⟩

section
variable {X : Cx} {pins : List (Addr × Obj)} {σ : St} {H : Hp} {s s' : Shared}

theorem Inv.env0 (I : Inv X pins σ H s) : Env0 X.prog X.w X.K X.mg X.base X.A X.stack s H :=
  ⟨I.ok.frames, I.ok.mod, I.bs, Nat.le_trans I.ok.bsz I.sz, I.stack, I.stkFree, I.hok, I.bare⟩

theorem Inv.after {Q : VK} {u : Value} (I : Inv X pins σ H s) (h : CE X.stack X.prog X.w H s Q u s') : EP X pins σ Q u s' := by
  obtain ⟨v, H', os, bare, un, hok, r, q⟩ := h
  obtain ⟨hh, g, d, t, os'⟩ := s'
  obtain rfl : os' = s.os := os
  exact ⟨v, H', I.call (h' := hh) (g' := g) (d' := d) (t' := t) (ch := []) un hok bare (fun b z => absurd z (by simp)), r, q⟩
end



def tCall (sp : Sp) (dvs : List V) (E : XK) (t : TA) : TE := fun σ H Q => t σ H fun vs H1 => sp (vs ++ dvs) H1 Q E

def tMeth (C : Addr) (m : Str) (sp : Sp) (dvs : List V) (E : XK) (ta : TE) (t : TA) : TE := fun σ H Q => ta σ H fun x H1 => ∃ a dx fs, x = .ref a ∧ H1 a = some (.ins C dx fs) ∧ fs.lookup m = none ∧
  t σ H1 fun vs H2 => sp (x :: (vs ++ dvs)) H2 Q E

def tMake (C : Addr) (sp : Sp) (dvs : List V) (E : XK) (t : TA) : TE := fun σ H Q => t σ H fun vs H1 => ∀ x dx, H1 x = none → H1 dx = none → dx ≠ x →
  sp (.ref x :: (vs ++ dvs)) (upd (upd H1 dx (.own x)) x (.ins C dx [])) (fun v H2 => v = .non ∧ Q (.ref x) H2) E


def Binds (K : PySem.W.Frag) (fd : FuncData) (ps : List Str) (ds : List Value) : Prop :=
  ∀ (s : Shared) (us : List Value), K.In s.heap → (us ++ ds).length = ps.length → BindsTo s fd ⟨us, []⟩ (ps.zip (us ++ ds))

theorem Binds.all {K : PySem.W.Frag} {fd : FuncData} {ps : List Str} (h : ∀ us : List Value, us.length = ps.length → bindArgs fd ⟨us, []⟩ = pure (ps.zip us)) : Binds K fd ps [] := fun s us _ hl => by
  rw [List.append_nil] at hl ⊢
  exact .of_eq (h us hl)


def Passes (CX : CXT) (X : Cx) (E : XK) : Prop := ∀ (pins : List (Addr × Obj)) (σ : St) (H : Hp) (s : Shared) (e : Value) (s' : Shared), Inv X pins σ H s → CX X.stack H s E e s' → X.xe e s'

section
variable {X : Cx} {CX : CXT} {k : Nat} {f C : Addr} {fd : FuncData} {ps : List Str} {sp : Sp} {dvs : List V} {ds : List Value} {E : XK} {x m : Str} {p pos apos : Pos} {e o : Expr} {es : List Expr} {ta : TE} {t : TA}


theorem run_fn {pins : List (Addr × Obj)} {σ : St} {H : Hp} {s : Shared} {Q : VK} {us : List Value} {vs : List V} (F : FnOk X.prog X.w X.K X.mg X.base CX k f fd ps sp) (hr : Room k X.A) (hb : Binds X.K fd ps ds) (hd : Vals dvs ds) (hx : Passes CX X E)
    (I : Inv X pins σ H s) (r : Vals vs us) (h : sp (vs ++ dvs) H Q E) : wpAny (model X.prog X.w) X.A (call (.ref f) us) (EP X pins σ Q) X.xe s := by
  have r2 : Vals (vs ++ dvs) (us ++ ds) := r.append hd
  have hl : (us ++ ds).length = ps.length := by rw [← r2.length]; exact F.len _ _ _ _ h
  refine wpAny_call (codeAny_mono (F.run X.A X.stack s H ⟨us, []⟩ (us ++ ds) (vs ++ dvs) Q E hr I.env0 (hb s us I.kIn hl) r2 h) fun r s' hq => ?_)
  cases r with
  | error e => exact hx pins σ H s e s' I hq
  | ok fl =>
    cases fl with
    | ret u => exact I.after hq
    | next => exact False.elim hq
    | brk => exact False.elim hq
    | cont => exact False.elim hq

theorem pe_call (F : FnOk X.prog X.w X.K X.mg X.base CX k f fd ps sp) (hr : Room k X.A) (hg : Gl X x) (hm : X.mg x = some (.ref f)) (hk : PySem.W.keepIn X.K (.ref f) = true) (hb : Binds X.K fd ps ds) (hd : Vals dvs ds) (hx : Passes CX X E)
    (ha : PA X (e :: es) t) (hdb : (x == ("__debug__" : Str)) = false := by decide) (he : starEach (e :: es) X.env = (false, eval e X.env) :: starEach es X.env := by rfl) (hpl : (backTo pos (starEach es X.env)).any (·.1) = false := by rfl) :
    PE X (.Call (.Name x p) (e :: es) [] pos) (tCall sp dvs E t) := by
  intro pins s σ H Q I h
  refine wpAny_Call_Name_kw (ld_glob I hg hm ?_ hdb)
  refine PySem.W.callWith_K (h₀ := X.base) I.ok.mod.kin hk (thn (ha pos pins s σ H _ I h) fun us s1 ⟨vs, H1, I1, r, q⟩ => ⟨I1.kIn, ?_⟩) he hpl
  exact run_fn F hr hb hd hx I1 r q
theorem pe_meth {pl : Sem Bool} (he : PE X o ta) (c : Cls X.K C) (hm : Meth X.K C m f) (F : FnOk X.prog X.w X.K X.mg X.base CX k f fd ps sp) (hr : Room k X.A) (hb : Binds X.K fd ps ds) (hd : Vals dvs ds) (hx : Passes CX X E) (ha : PA X (e :: es) t)
    (hst : starEach (e :: es) X.env = (false, eval e X.env) :: starEach es X.env := by rfl) (hpl : (backTo pos (starEach es X.env)).any (·.1) = false := by rfl)
    (ht : eval (.Call (.Attribute o m apos) (e :: es) [] pos) X.env = (do
      let ov ← eval o X.env
      standAt apos.atName
      let (f, first) ← holding [ov] (getMethod ov m pl)
      callWith pos f first (backTo pos (starEach (e :: es) X.env)) (backToKw pos (keywordEach [] X.env))) := by rfl) :
    PE X (.Call (.Attribute o m apos) (e :: es) [] pos) (tMeth C m sp dvs E ta t) := by
  intro pins s σ H Q I h
  refine PySem.W.methodCall_KW (pl := pl) (thn (he pins s σ H _ I h) fun u s1 ⟨x, H1, I1, rx, a, dx, fs, ex, ea, l, q⟩ => ?_) ht
  subst ex
  obtain rfl : u = Value.ref a := rx
  refine getmeth_ok I1 ea c hm l ?_
  refine PySem.W.callWith_K (first := [.ref a]) (h₀ := X.base) I.ok.mod.kin hm.kp (thn (ha pos pins s1 σ H1 _ I1 q) fun us s2 ⟨vs, H2, I2, r, q2⟩ => ⟨I2.kIn, ?_⟩) hst hpl
  exact run_fn (us := .ref a :: us) (vs := .ref a :: vs) F hr hb hd hx I2 (.cons rfl r) q2

theorem pe_meth0 {pl : Sem Bool} (he : PE X o ta) (c : Cls X.K C) (hm : Meth X.K C m f) (F : FnOk X.prog X.w X.K X.mg X.base CX k f fd ps sp) (hr : Room k X.A) (hb : Binds X.K fd ps ds) (hd : Vals dvs ds) (hx : Passes CX X E)
    (ht : eval (.Call (.Attribute o m apos) [] [] pos) X.env = (do
      let ov ← eval o X.env
      standAt apos.atName
      let (f, first) ← holding [ov] (getMethod ov m pl)
      callWith pos f first (backTo pos (starEach [] X.env)) (backToKw pos (keywordEach [] X.env))) := by rfl) :
    PE X (.Call (.Attribute o m apos) [] [] pos) (tMeth C m sp dvs E ta tNil) := by
  intro pins s σ H Q I h
  refine PySem.W.methodCall_KW (pl := pl) (thn (he pins s σ H _ I h) fun u s1 ⟨x, H1, I1, rx, a, dx, fs, ex, ea, l, q⟩ => ?_) ht
  subst ex
  obtain rfl : u = Value.ref a := rx
  refine getmeth_ok I1 ea c hm l ?_
  exact PySem.W.callWith_K0 (first := [.ref a]) I1.kIn hm.kp (run_fn (us := [.ref a]) (vs := [.ref a]) F hr hb hd hx I1 (.cons rfl .nil) q)


structure Mk (K : PySem.W.Frag) (C f : Addr) : Prop where
  makes : PySem.W.makesIn K C = true
  init : PySem.W.findIn K (.ref C) "__init__" = some (some (.ref f))
  fn : PySem.W.isFn K (.ref f) = true
  kp : PySem.W.keepIn K (.ref C) = true

theorem run_make {pins : List (Addr × Obj)} {σ : St} {H : Hp} {s : Shared} {Q : VK} {us : List Value} {vs : List V} (M : Mk X.K C f) (F : FnOk X.prog X.w X.K X.mg X.base CX k f fd ps sp) (hr : Room (k + 1) X.A) (hb : Binds X.K fd ps ds) (hd : Vals dvs ds)
    (hx : Passes CX X E) (I : Inv X pins σ H s) (r : Vals vs us)
    (h : ∀ x dx, H x = none → H dx = none → dx ≠ x → sp (.ref x :: (vs ++ dvs)) (upd (upd H dx (.own x)) x (.ins C dx [])) (fun v H2 => v = .non ∧ Q (.ref x) H2) E) :
    wpAny (model X.prog X.w) X.A (call (.ref C) us) (EP X pins σ Q) X.xe s := by
  have hq := h (s.heap.objs.size + 1) s.heap.objs.size (I.hok.fresh (Nat.le_succ _)) (I.hok.fresh (Nat.le_refl _)) (Nat.ne_of_lt (Nat.lt_succ_self _))
  have I2 := Inv.made (C := C) I
  have r2 : Vals (V.ref (s.heap.objs.size + 1) :: (vs ++ dvs)) (Value.ref (s.heap.objs.size + 1) :: (us ++ ds)) := .cons rfl (r.append hd)
  have hl : (Value.ref (s.heap.objs.size + 1) :: us ++ ds).length = ps.length := by
    have e := r2.length
    rw [F.len _ _ _ _ hq] at e
    exact e.symm
  refine wpAny_call (make_map (f := f) I.kIn M.makes M.init (beq_iff_eq.mp M.fn) (codeAny_mono (F.run _ X.stack _ _ ⟨Value.ref (s.heap.objs.size + 1) :: us, []⟩ (Value.ref (s.heap.objs.size + 1) :: (us ++ ds)) _ _ E (hr.make C us [])
    (I2.env0.make C us []) (hb _ (Value.ref (s.heap.objs.size + 1) :: us) I2.kIn hl) r2 hq) fun r s' hq' => ?_))
  cases r with
  | error e => exact hx pins σ _ _ e s' I2 hq'
  | ok fl =>
    cases fl with
    | ret u =>
      obtain ⟨v, H', I3, rv, ev, q3⟩ := I2.after hq'
      subst ev
      exact ⟨rv, ⟨V.ref (s.heap.objs.size + 1), H', I3, rfl, q3⟩⟩
    | next => exact False.elim hq'
    | brk => exact False.elim hq'
    | cont => exact False.elim hq'
theorem pe_make (M : Mk X.K C f) (F : FnOk X.prog X.w X.K X.mg X.base CX k f fd ps sp) (hr : Room (k + 1) X.A) (hg : Gl X x) (hm : X.mg x = some (.ref C)) (hb : Binds X.K fd ps ds) (hd : Vals dvs ds) (hx : Passes CX X E)
    (ha : PA X (e :: es) t) (hdb : (x == ("__debug__" : Str)) = false := by decide) (he : starEach (e :: es) X.env = (false, eval e X.env) :: starEach es X.env := by rfl) (hpl : (backTo pos (starEach es X.env)).any (·.1) = false := by rfl) :
    PE X (.Call (.Name x p) (e :: es) [] pos) (tMake C sp dvs E t) := by
  intro pins s σ H Q I h
  refine wpAny_Call_Name_kw (ld_glob I hg hm ?_ hdb)
  refine PySem.W.callWith_K (h₀ := X.base) I.ok.mod.kin M.kp (thn (ha pos pins s σ H _ I h) fun us s1 ⟨vs, H1, I1, r, q⟩ => ⟨I1.kIn, ?_⟩) he hpl
  exact run_make M F hr hb hd hx I1 r q
end



def PK (X : Cx) (kws : List Keyword) (t : TA) : Prop :=
  ∀ (pos : Pos) (pins : List (Addr × Obj)) (s : Shared) (σ : St) (H : Hp) (Q : List V → Hp → Prop), Inv X pins σ H s → t σ H Q → wpAny (model X.prog X.w) X.A (evalAll ((backToKw pos (keywordEach kws X.env)).map (·.2))) (AP X pins σ Q) X.xe s
section
variable {X : Cx} {CX : CXT} {k : Nat} {f C : Addr} {fd : FuncData} {ps ks : List Str} {sp : Sp} {E : XK} {x m : Str} {p pos apos kpos : Pos} {e o : Expr} {es : List Expr} {kws : List Keyword} {te ta : TE} {t tk : TA} {nm : Option Str}
theorem pk_nil : PK X [] tNil := fun _ _ _ _ H Q I h => wpAny_evalAll_nil ⟨[], H, I, .nil, h⟩
theorem pk_cons (ha : PE X e te) (hr : PK X kws t) : PK X (⟨nm, e, kpos⟩ :: kws) (tCons te t) := by
  intro pos pins s σ H Q I h
  show wpAny _ _ (evalAll ((do let v ← eval e X.env; standAt pos; pure v) :: (backToKw pos (keywordEach kws X.env)).map (·.2))) _ _ s
  refine wpAny_evalAll_cons (wpAny_bind (thn (ha pins s σ H _ I h) fun u s1 ⟨x, H1, I1, r1, q1⟩ => wpAny_bind (wpAny_standAt (wpAny_pure ?_))))
  exact thn (hr pos pins s1 σ H1 _ I1 q1) fun us s2 ⟨xs, H2, I2, r2, q2⟩ => ⟨x :: xs, H2, I2, .cons r1 r2, q2⟩


structure KBinds (K : PySem.W.Frag) (fd : FuncData) (ps ks : List Str) (g : List Value → List Value → List Value) (gV : List V → List V → List V) : Prop where
  to : ∀ (s : Shared) (us ws : List Value), K.In s.heap → (g us ws).length = ps.length → BindsTo s fd ⟨us, ks.zip ws⟩ (ps.zip (g us ws))
  rel : ∀ {vs : List V} {us : List Value} {zs : List V} {ws : List Value}, Vals vs us → Vals zs ws → Vals (gV vs zs) (g us ws)
variable {g : List Value → List Value → List Value} {gV : List V → List V → List V}
end



structure FnScope (N P : List Str) (sc : Scope) : Prop where
  kind : sc.kind = .function
  co : sc.isCoroutine = false
  gen : sc.isGenerator = false
  nd : N.Nodup
  pre : N.take P.length = P
  par : ∀ x ∈ P, sc.names.lookup x = some .local ∨ sc.names.lookup x = some .cell
  nofree : ∀ y ∈ sc.names, y.2 ≠ .free

theorem bindL_out {kindOf : Str → Option NameKind} {x : Str} : ∀ {binds : List (Str × Value)} {m : Str → Option Value}, (∀ v, (x, v) ∉ binds) → bindL kindOf binds m x = m x
  | [], _, _ => rfl
  | (n, v) :: r, m, h => by
    unfold bindL
    rw [bindL_out fun w hw => h w (List.mem_cons_of_mem _ hw)]
    split
    · have : x ≠ n := by rintro rfl; exact h v List.mem_cons_self
      simp [this]
    · rfl
theorem bindC_out {kindOf : Str → Option NameKind} {x : Str} : ∀ {binds : List (Str × Value)} {m : Str → Option Value}, (∀ v, (x, v) ∉ binds) → bindC kindOf binds m x = m x
  | [], _, _ => rfl
  | (n, v) :: r, m, h => by
    unfold bindC
    rw [bindC_out fun w hw => h w (List.mem_cons_of_mem _ hw)]
    split
    · rfl
    · have : x ≠ n := by rintro rfl; exact h v List.mem_cons_self
      simp [this]
theorem bindL_get {kindOf : Str → Option NameKind} {x : Str} {v : Value} : ∀ {P : List Str} {vs : List Value} {i : Nat} {m : Str → Option Value}, P.Nodup → P[i]? = some x → vs[i]? = some v → kindOf x = some .local →
    bindL kindOf (P.zip vs) m x = some v
  | [], _, _, _, _, h, _, _ => by simp at h
  | _ :: _, [], _, _, _, _, h, _ => by simp at h
  | p :: P, w :: vs, 0, m, nd, h1, h2, hk => by
    simp at h1 h2; subst h1; subst h2
    show bindL kindOf ((p, w) :: P.zip vs) m p = _
    unfold bindL
    rw [bindL_out fun v hv => (List.nodup_cons.mp nd).1 (List.of_mem_zip hv).1, if_pos hk]
    simp
  | p :: P, w :: vs, i + 1, m, nd, h1, h2, hk => by
    show bindL kindOf ((p, w) :: P.zip vs) m x = _
    unfold bindL
    exact bindL_get (i := i) (List.nodup_cons.mp nd).2 (by simpa using h1) (by simpa using h2) hk
theorem bindC_get {kindOf : Str → Option NameKind} {x : Str} {v : Value} : ∀ {P : List Str} {vs : List Value} {i : Nat} {m : Str → Option Value}, P.Nodup → P[i]? = some x → vs[i]? = some v → kindOf x ≠ some .local →
    bindC kindOf (P.zip vs) m x = some v
  | [], _, _, _, _, h, _, _ => by simp at h
  | _ :: _, [], _, _, _, _, h, _ => by simp at h
  | p :: P, w :: vs, 0, m, nd, h1, h2, hk => by
    simp at h1 h2; subst h1; subst h2
    show bindC kindOf ((p, w) :: P.zip vs) m p = _
    unfold bindC
    rw [bindC_out fun v hv => (List.nodup_cons.mp nd).1 (List.of_mem_zip hv).1, if_neg hk]
    simp
  | p :: P, w :: vs, i + 1, m, nd, h1, h2, hk => by
    show bindC kindOf ((p, w) :: P.zip vs) m x = _
    unfold bindC
    exact bindC_get (i := i) (List.nodup_cons.mp nd).2 (by simpa using h1) (by simpa using h2) hk


def start (N : List Str) (vs : List V) : St := vs.map some ++ List.replicate (N.length - vs.length) none


def cxOf (CX : CXT) (P : Program) (w : World) (K : PySem.W.Frag) (mg : Str → Option Value) (base : Heap) (N : List Str) (qual : Str) (scope : Scope) (f : Addr) (cd : Value) (A : Around) (outer : List Env) (s : Shared) (H : Hp) (E : XK) : Cx where
  prog := P
  w := w
  K := K
  mg := mg
  base := base
  A := A.deeper (envOfC qual scope s.heap.objs.size f cd)
  N := N
  s₀ := s
  H₀ := H
  env := envOfC qual scope s.heap.objs.size f cd
  outer := outer
  stack := envOfC qual scope s.heap.objs.size f cd :: outer
  ex := []
  calm := true
  fn := fun _ => true
  pn := []
  xe := fun e s' => wpAny (model P w) (A.deeper (envOfC qual scope s.heap.objs.size f cd)) (leaving (envOfC qual scope s.heap.objs.size f cd) e) (fun _ s'' => CX outer H s E e s'') (fun e' s'' => CX outer H s E e' s'') s'

theorem cell_has {sc : Scope} {n : Nat} {x : Str} (h : sc.names.lookup x = some .cell) : ∃ c, (cellsFrom n sc.names []).lookup x = some c := by
  have q := PySem.W.cellsFrom_some sc.names n [] (.inl h)
  exact Option.isSome_iff_exists.mp q

theorem inv_start {CX : CXT} {P : Program} {w : World} {K : PySem.W.Frag} {mg : Str → Option Value} {base : Heap} {N ps : List Str} {qual : Str} {scope : Scope} {f : Addr} {cd : Value} {A : Around} {outer : List Env} {s s1 : Shared} {H : Hp} {E : XK} {us : List Value} {vs : List V}
    (S : FnScope N ps scope) (hd : A.handled = none) (e0 : Env0 P w K mg base A outer s H) (hl : vs.length = ps.length) (r : Vals vs us)
    (x : InCallC s s.heap.objs.size (bindL (envOfC qual scope s.heap.objs.size f cd).kindOf (ps.zip us) fun _ => none) (cellsFrom (s.heap.objs.size + 1) scope.names []) (bindC (envOfC qual scope s.heap.objs.size f cd).kindOf (ps.zip us) fun _ => none) s1) :
    Inv (cxOf CX P w K mg base N qual scope f cd A outer s H E) [] (start N vs) H s1 := by
  have hpl : ps.length ≤ N.length := by have := congrArg List.length S.pre; rw [List.length_take] at this; omega
  obtain ⟨h1, tk, rfl, hk⟩ := x.done
  have noA : ∀ b : Addr, b ∉ (cxOf CX P w K mg base N qual scope f cd A outer s H E).ex := fun b z => absurd (show b ∈ ([] : List Addr) from z) (by simp)
  refine ⟨⟨e0.mod, S.kind, rfl, rfl, Nat.le_refl _, fun y z c h1 h2 => ?_, fun y hy => ?_, fun y c _ h => ?_, fun _ => hd, Around.frames_deeper e0.frames, .inr ⟨rfl, rfl⟩, fun b z => absurd z (noA b), e0.bs, e0.bsz, fun b _ _ => noA b, fun b z => absurd z (noA b), e0.funs, e0.frf⟩,
    rfl, e0.bare, Un.kept hk, ⟨_, x.toInCall.ns, fun i y v h1 h2 h3 => ?_⟩, fun y c h => ⟨_, x.cell y c h⟩, e0.hok.fresh (Nat.le_refl _), fun y c h => ?_, fun p hp => absurd (show p ∈ ([] : List (Addr × Obj)) from hp) (by simp), e0.hok.kept hk, ?_⟩
  · exact name_of_addr x.apart (PySem.mem_of_lookup h1) (PySem.mem_of_lookup h2)
  · have hy : scope.names.lookup y = some .cell ∨ scope.names.lookup y = some .free := hy
    rcases hy with hy | hy
    · exact cell_has hy
    · exact absurd rfl (S.nofree _ (PySem.mem_of_lookup hy))
  · exact Nat.le_of_lt (x.above y c (PySem.mem_of_lookup h))
  · have hi : i < vs.length := by
      unfold start at h2
      by_cases hi : i < vs.length
      · exact hi
      · rw [List.getElem?_append_right (by simpa using hi)] at h2
        rw [List.getElem?_replicate] at h2
        split at h2 <;> cases h2
    have ha : vs[i]? = some v := by
      unfold start at h2
      rw [List.getElem?_append_left (by simpa using hi), List.getElem?_map] at h2
      cases e : vs[i]? with
      | none => rw [e] at h2; cases h2
      | some a => rw [e] at h2; cases h2; rfl
    obtain ⟨u, hu, rv⟩ := r.get ha
    have hp : ps[i]? = some y := by
      rw [← S.pre, List.getElem?_take_of_lt (by omega)]; exact h1
    have ndP : ps.Nodup := by rw [← S.pre]; exact S.nd.sublist (List.take_sublist _ _)
    refine ⟨u, rv, ?_⟩
    rcases S.par y (List.mem_of_getElem? hp) with k | k
    · exact .inl ⟨k, bindL_get ndP hp hu k⟩
    · obtain ⟨c, e⟩ := cell_has (n := s.heap.objs.size + 1) k
      refine .inr ⟨.inl k, c, e, ?_⟩
      have q := x.cell y c e
      rw [bindC_get ndP hp hu (by show scope.names.lookup y ≠ _; rw [k]; decide)] at q
      exact q
  · exact e0.hok.fresh (Nat.le_of_lt (x.above y c (PySem.mem_of_lookup h)))
  · unfold start
    show _ = N.length
    rw [List.length_append, List.length_map, List.length_replicate]
    omega


theorem fn_of {CX : CXT} {P : Program} {w : World} {K : PySem.W.Frag} {mg : Str → Option Value} {base : Heap} {k : Nat} {f : Addr} {name qual : Str} {params : Arguments} {body : List Stmt} {scope : Scope} {dV kV doc pm cdv ct oc : Value} {an od : Option Addr}
    {osl : Array (Option Value)} {N ps : List Str} {sp : Sp} (lk : K.lookup f = some ⟨oc, od, .func (PySem.W.fnOf name qual params body scope dV kV doc pm an cdv ct), osl⟩) (hcd : PySem.W.codeIn K cdv qual = true) (S : FnScope N ps scope)
    (len : ∀ vs H Q E, sp vs H Q E → vs.length = ps.length)
    (hbody : ∀ (A : Around) (outer : List Env) (s : Shared) (H : Hp) (vs : List V) (Q : VK) (E : XK), Room k (A.deeper (envOfC qual scope s.heap.objs.size f cdv)) → sp vs H Q E →
      ∃ t, PSs (cxOf CX P w K mg base N qual scope f cdv A outer s H E) body t ∧ t { nx := fun _ H' => Q .non H', rt := Q } (start N vs) H) :
    FnOk P w K mg base CX (k + 1) f (PySem.W.fnOf name qual params body scope dV kV doc pm an cdv ct) ps sp := by
  refine ⟨len, fun A outer s H args us vs Q E hr e0 hb r hsp => ?_⟩
  have hl := len _ _ _ _ hsp
  have KX : K.In s.heap := e0.mod.kin.keeps fun b o e => (e0.bs b o e).1
  have lim : s.heap.NoLimit := e0.mod.nolimit.keeps fun b o e => (e0.bs b o e).1
  have hkind : ∀ y ∈ ps.zip us, scope.names.lookup y.1 = some .local ∨ (scope.names.lookup y.1 = some .cell ∧ ((cellsFrom (s.heap.objs.size + 1) scope.names []).lookup y.1).isSome = true) := fun ⟨n, v⟩ hy => by
    rcases S.par n (List.of_mem_zip hy).1 with q | q
    · exact .inl q
    · exact .inr ⟨q, PySem.W.cellsFrom_some _ _ _ (.inl q)⟩
  refine codeAny_call_function hr.depth (KX _ _ lk) rfl S.co S.gen rfl (PySem.W.codeRec_of KX hcd) (hb _ _ _ _ ?_)
  refine wpAny_newFunctionEnv_cells S.kind hkind fun env he s1 x => ?_
  subst he
  refine ⟨lim.keeps x.toInCall.keep, codeAny_func ?_⟩
  obtain ⟨t, ht, hq⟩ := hbody A outer s H vs Q E (hr.deeper _) hsp
  have I : Inv (cxOf CX P w K mg base N qual scope f cdv A outer s H E) [] (start N vs) H s1 := inv_start S hr.hd e0 hl r x
  refine wpAny_mono (ht [] s1 (start N vs) H _ I hq) (fun fl s' hs => ?_) fun e s' hs => hs
  have fin : ∀ {σ' : St} {H' : Hp} {v : V} {u : Value}, Inv (cxOf CX P w K mg base N qual scope f cdv A outer s H E) [] σ' H' s' → RelV v u → Q v H' → CE outer P w H s Q u s' :=
    fun {σ' H' v u} J rv q => ⟨v, H', J.os, J.bare, J.base, J.hok, rv, q⟩
  cases fl with
  | ret u =>
    obtain ⟨v, σ', H', J, rv, q⟩ := hs
    exact fin J rv q
  | next =>
    obtain ⟨σ', H', J, q⟩ := hs
    exact fin (v := V.non) (u := Value.none) J rfl q
  | brk =>
    obtain ⟨_, _, _, q⟩ := hs
    exact False.elim q
  | cont =>
    obtain ⟨_, _, _, q⟩ := hs
    exact False.elim q
end L2

namespace L2
open PySem PySem.Spec PyProof.Rows
section
variable {X : Cx} {x : Str} {p pos : Pos} {e : Expr} {es : List Expr} {t : TA} {id T : String} {r : List V → Hp → VK → Prop}

def tCB (r : List V → Hp → VK → Prop) (t : TA) : TE := fun σ H Q => t σ H fun vs H1 => r vs H1 Q

theorem pe_callB (hc : CallR X (.builtin id) r) (hg : Gl X x) (hm : X.mg x = none) (hv : bootBuiltins x = some (.builtin id)) (ha : PA X (e :: es) t) (hn : x ≠ "__name__" := by decide) (hdb : (x == ("__debug__" : Str)) = false := by decide)
    (he : starEach (e :: es) X.env = (false, eval e X.env) :: starEach es X.env := by rfl) (hpl : (backTo pos (starEach es X.env)).any (·.1) = false := by rfl) : PE X (.Call (.Name x p) (e :: es) [] pos) (tCB r t) := by
  intro pins s σ H Q I h
  refine wpAny_Call_Name_kw (ld_blt I hg hm hv ?_ hn hdb)
  exact PyProof.Rows.callWith_builtin1 (thn (ha pos pins s σ H _ I h) fun us s1 ⟨vs, H1, I1, r1, q1⟩ => hc pins s1 σ H1 vs us Q I1 r1 q1) he hpl

theorem pe_callTy (hc : CallR X (.type T) r) (hg : Gl X x) (hm : X.mg x = none) (hv : bootBuiltins x = some (.type T)) (ha : PA X (e :: es) t) (hn : x ≠ "__name__" := by decide) (hdb : (x == ("__debug__" : Str)) = false := by decide)
    (he : starEach (e :: es) X.env = (false, eval e X.env) :: starEach es X.env := by rfl) (hpl : (backTo pos (starEach es X.env)).any (·.1) = false := by rfl) : PE X (.Call (.Name x p) (e :: es) [] pos) (tCB r t) := by
  intro pins s σ H Q I h
  refine wpAny_Call_Name_kw (ld_blt I hg hm hv ?_ hn hdb)
  exact PyProof.Rows.callWith_type1 (thn (ha pos pins s σ H _ I h) fun us s1 ⟨vs, H1, I1, r1, q1⟩ => hc pins s1 σ H1 vs us Q I1 r1 q1) he hpl

end
end L2

namespace HT
open PySem PyProof.Rows


section
open PySem.SeqAt
open PySem.AutoSeq1 (wpAny_loadPart')
open PySem.MeetsSeq PySem.MeetsSeq2 PySem.MeetsSeq3

end

section
variable {prog : Program} {w : World} {A : Around} {E : Value → Shared → Prop} {s : Shared}

def sIx (n d : Nat) : Option Int → Nat
  | none => d
  | some v => if v < 0 then (v + (n : Int)).toNat else min v.toNat n
theorem sIx_le (n d : Nat) (hd : d ≤ n) (o : Option Int) : sIx n d o ≤ n := by
  cases o with
  | none => exact hd
  | some v =>
    show (if v < 0 then (v + (n : Int)).toNat else min v.toNat n) ≤ n
    by_cases hv : v < 0
    · rw [if_pos hv]; omega
    · rw [if_neg hv]; exact Nat.min_le_right _ _
theorem clip_eq (v : Int) (n d : Nat) : (if v < 0 then max (v + (n : Int)) 0 else min v (n : Int)) = ((sIx n d (some v) : Nat) : Int) := by
  show (if v < 0 then max (v + (n : Int)) 0 else min v (n : Int)) = (((if v < 0 then (v + (n : Int)).toNat else min v.toNat n) : Nat) : Int)
  by_cases hv : v < 0
  · simp only [if_pos hv]; omega
  · simp only [if_neg hv]; omega
theorem adjust_gen (lo hi : Option Int) (n : Nat) : Builtin.Slice.sliceAdjust lo hi 1 (n : Int) = (((sIx n 0 lo : Nat) : Int), ((sIx n n hi : Nat) : Int)) := by
  have h1 : ¬ ((1 : Int) < 0) := by omega
  unfold Builtin.Slice.sliceAdjust
  simp only [h1, if_false]
  refine Prod.ext ?_ ?_
  · cases lo with
    | none => rfl
    | some v => exact clip_eq v n 0
  · cases hi with
    | none => rfl
    | some v => exact clip_eq v n n
theorem places_gen (i j : Nat) : Builtin.Slice.slicePlaces (i : Int) (j : Int) 1 = j - i := by
  unfold Builtin.Slice.slicePlaces
  have h1 : (1 : Int) > 0 := by omega
  simp only [h1, if_true, Int.ediv_one]
  split <;> omega
theorem slicePart_ {v : Value} {o : Option Int} {Q : Option Int → Shared → Prop} (p : IsPart v o) (h : Q o s) : wpAny (model prog w) A (Builtin.Slice.slicePartIndex v) Q E s := by
  cases p with
  | none => exact slicePart_none h
  | int i t => exact slicePart_int h
theorem sliceApplied_gen {sl : Addr} {vl vu : Value} {lo hi : Option Int} {n : Nat} {Q : Int × Int × Nat → Shared → Prop} (hs : s.heap.IsSliceOf sl vl vu .none) (pl : IsPart vl lo) (pu : IsPart vu hi)
    (h : Q (((sIx n 0 lo : Nat) : Int), 1, sIx n n hi - sIx n 0 lo) s) : wpAny (model prog w) A (Builtin.Slice.sliceApplied (.ref sl) (pure (n : Int))) Q E s := by
  obtain ⟨os, hos, hcs, hds⟩ := id hs
  unfold Builtin.Slice.sliceApplied Builtin.Slice.sliceFields
  refine wpAny_bind (wpAny_bind (wpAny_field hos hds (x := vl) rfl (wpAny_bind (wpAny_field hos hds (x := vu) rfl (wpAny_bind (wpAny_field hos hds (x := .none) rfl (wpAny_pure ?_)))))))
  refine wpAny_bind (slicePart_none ?_)
  show wpAny _ _ (if ((1 : Int) == 0) = true then _ else _) _ _ s
  rw [if_neg (by decide)]
  refine wpAny_bind (slicePart_ pl (wpAny_bind (slicePart_ pu (wpAny_bind (wpAny_pure ?_)))))
  show wpAny _ _ (match Builtin.Slice.sliceAdjust lo hi 1 (n : Int) with | (lo, hi) => pure (lo, (1 : Int), Builtin.Slice.slicePlaces lo hi 1)) _ _ s
  rw [adjust_gen lo hi n]
  show wpAny _ _ (pure (((sIx n 0 lo : Nat) : Int), (1 : Int), Builtin.Slice.slicePlaces ((sIx n 0 lo : Nat) : Int) ((sIx n n hi : Nat) : Int) 1)) _ _ s
  rw [places_gen]
  exact wpAny_pure h
theorem pick_gen (xs : Array Value) (i k : Nat) : ((List.range k).filterMap fun (m : Nat) => xs[((i : Int) + (m : Int) * 1).toNat]?).toArray = ((xs.toList.drop i).take k).toArray := by
  have e : (fun (m : Nat) => xs[((i : Int) + (m : Int) * 1).toNat]?) = fun m => xs[i + m]? := by
    funext m
    have : ((i : Int) + (m : Int) * 1).toNat = i + m := by omega
    rw [this]
  rw [e]
  have := pick_run xs i k
  rw [List.filterMap_map] at this
  have e2 : ((fun x => xs[x]?) ∘ fun x => i + x) = fun m => xs[i + m]? := rfl
  rw [e2] at this
  rw [this]

theorem getItem_tuple_cut {t sl : Addr} {items : Array Value} {vl vu : Value} {lo hi : Option Int} {Q : Value → Shared → Prop} (ht : IsTup s.heap t items) (hs : s.heap.IsSliceOf sl vl vu .none) (pl : IsPart vl lo) (pu : IsPart vu hi)
    (hw : ¬ (sIx items.size 0 lo = 0 ∧ sIx items.size items.size hi = items.size))
    (h : Q (.ref s.heap.objs.size) { s with heap := s.heap.push { cls := .type "tuple", data := .seq ((items.toList.drop (sIx items.size 0 lo)).take (sIx items.size items.size hi - sIx items.size 0 lo)).toArray } })
    (hsz : items.size ≤ sizeLine) : wpAny (model prog w) A (getItem (.ref t) (.ref sl)) Q E s := by
  have htake : sizeOk (.seq ((items.toList.drop (sIx items.size 0 lo)).take (sIx items.size items.size hi - sIx items.size 0 lo)).toArray) := by
    show ((items.toList.drop (sIx items.size 0 lo)).take (sIx items.size items.size hi - sIx items.size 0 lo)).toArray.size ≤ sizeLine
    rw [List.size_toArray, List.length_take, List.length_drop, Array.length_toList]
    omega
  have hj : sIx items.size items.size hi ≤ items.size := sIx_le _ _ (Nat.le_refl _) hi
  obtain ⟨os, hos, hcs, hds⟩ := id hs
  have hTs : s.TypeIs (.ref sl) "slice" := ⟨os, hos, hcs⟩
  unfold getItem
  try with_reducible refine wpAny_holding ?_
  first | refine wpAny_bind (wpAny_pure ?_) | skip
  refine wpAny_bind (wpAny_sequenceKey ht.typeIs (by decide) ?_)
  refine wpAny_bind (wpAny_callSpecial?_slot (name := Str.ofString "__getitem__") ht.typeIs PyProof.Rows.slot_tuple_getitem
    (wpAny_call_entry PyProof.Rows.slot_tuple_getitem ht.typeIs entry_tuple_getitem ?_ (args_tuple_getitem _ _)))
  show wpAny _ _ (Builtin.Tuple.tupleItemsOf (.ref t) >>= _) _ _ s
  refine wpAny_bind (tupleItemsOf_ ht ?_)
  refine wpAny_bind (wpAny_typeOf hTs ?_)
  rw [if_pos (by decide)]
  refine wpAny_bind (sliceApplied_gen hs pl pu ?_)
  have hno : ¬ ((((sIx items.size 0 lo : Nat) : Int) == 0 && (1 : Int) == 1 && (sIx items.size items.size hi - sIx items.size 0 lo) == items.size) = true) := by
    intro q
    rw [Bool.and_eq_true, Bool.and_eq_true] at q
    have q1 : ((sIx items.size 0 lo : Nat) : Int) = 0 := eq_of_beq q.1.1
    have q2 : sIx items.size items.size hi - sIx items.size 0 lo = items.size := eq_of_beq q.2
    exact hw ⟨by omega, by omega⟩
  show wpAny _ _ (if (((sIx items.size 0 lo : Nat) : Int) == 0 && (1 : Int) == 1 && (sIx items.size items.size hi - sIx items.size 0 lo) == items.size) = true then _ else _) _ _ s
  rw [if_neg hno, pick_gen]
  first
    | exact wpAny_bind (m := Builtin.Tuple.tupleExact _) (wpAny_newObj_type (wpAny_pure ⟨_, rfl, wpAny_pure h⟩) htake)
    | exact wpAny_bind (m := Builtin.Tuple.tupleExact _) (wpAny_newObj_type (wpAny_bind (wpAny_pure (wpAny_pure ⟨_, rfl, wpAny_pure h⟩))) htake)
    | exact wpAny_bind (wpAny_bind (m := Builtin.Tuple.tupleExact _) (wpAny_newObj_type (wpAny_pure (wpAny_pure ⟨_, rfl, wpAny_pure h⟩)) htake))
    | exact wpAny_bind (wpAny_bind (m := Builtin.Tuple.tupleExact _) (wpAny_newObj_type (wpAny_pure ⟨_, rfl, wpAny_pure h⟩) htake))
end
end HT

namespace L2
open PySem PySem.Spec PyProof.Rows


abbrev TO := St → Hp → (Option Int → Hp → Prop) → Prop

def PO (X : Cx) (e : Option Expr) (t : TO) : Prop :=
  ∀ (pins : List (Addr × Obj)) (s : Shared) (σ : St) (H : Hp) (Q : Option Int → Hp → Prop), Inv X pins σ H s → t σ H Q →
    wpAny (model X.prog X.w) X.A (evalPart e X.env) (fun u s' => ∃ o H', Inv X pins σ H' s' ∧ IsPart u o ∧ Q o H') X.xe s
def tNoPart : TO := fun _ H Q => Q none H
def tPart (t : TE) : TO := fun σ H Q => t σ H fun x H1 => ∃ i, x = .int i ∧ Q (some i) H1

theorem intsAre_of {ns : List Int} : ∀ {us : List Value}, Vals (ns.map V.int) us → IntsAre us ns := by
  induction ns with
  | nil => intro us r; rw [List.map_nil] at r; cases r; exact .nil
  | cons n ns ih =>
    intro us r
    rw [List.map_cons] at r
    cases r with
    | cons r1 r2 =>
      obtain ⟨t, e⟩ := r1
      subst e
      exact .cons n t (ih r2)

section
variable {X : Cx} {e : Expr} {te : TE} {lo hi : Option Expr} {tl th : TO} {pos p2 : Pos}

theorem po_none : PO X none tNoPart := by
  intro pins s σ H Q I h
  rw [evalPart_none]
  exact wpAny_pure ⟨none, H, I, .none, h⟩
theorem po_some (h : PE X e te) : PO X (some e) (tPart te) := by
  intro pins s σ H Q I hw
  rw [evalPart_some]
  refine thn (h pins s σ H _ I hw) fun u s1 ⟨x, H1, I1, r1, q1⟩ => ?_
  obtain ⟨i, rfl, q⟩ := q1
  obtain ⟨t, rfl⟩ := r1
  exact ⟨some i, H1, I1, .int i t, q⟩


def SlR (X : Cx) (r : V → Option Int → Option Int → Hp → VK → Prop) : Prop :=
  ∀ (pins : List (Addr × Obj)) (s : Shared) (σ : St) (H : Hp) (x : V) (v vl vu : Value) (lo hi : Option Int) (sl : Addr) (Q : VK), Inv X pins σ H s → RelV x v → s.heap.IsSliceOf sl vl vu .none → IsPart vl lo → IsPart vu hi → r x lo hi H Q →
    ∃ T id, typeLookup (.type T) "__getitem__" = pure (some (.builtin id)) ∧ s.TypeIs v T ∧ wpAny (model X.prog X.w) X.A (getItem v (.ref sl)) (EP X pins σ Q) X.xe s
theorem SlR.or {r r' : V → Option Int → Option Int → Hp → VK → Prop} (h : SlR X r) (h' : SlR X r') : SlR X (fun x lo hi H Q => r x lo hi H Q ∨ r' x lo hi H Q) := by
  intro pins s σ H x v vl vu lo hi sl Q I rx hs pl pu q
  rcases q with q | q
  · exact h pins s σ H x v vl vu lo hi sl Q I rx hs pl pu q
  · exact h' pins s σ H x v vl vu lo hi sl Q I rx hs pl pu q
def tSl (r : V → Option Int → Option Int → Hp → VK → Prop) (te : TE) (tl th : TO) : TE := fun σ H Q => te σ H fun x H1 => tl σ H1 fun l H2 => th σ H2 fun u H3 => r x l u H3 Q

theorem pe_slice {r : V → Option Int → Option Int → Hp → VK → Prop} (hr : SlR X r) (he : PE X e te) (hl : PO X lo tl) (hu : PO X hi th) : PE X (.Subscript e (.Slice lo hi none p2) pos) (tSl r te tl th) := by
  intro pins s σ H Q I h
  refine Subscript_ (thn (he pins s σ H _ I h) fun v s1 ⟨x, H1, I1, r1, q1⟩ => ?_)
  refine wpAny_Slice (thn (hl pins s1 σ H1 _ I1 q1) fun vl s2 ⟨l, H2, I2, pl, q2⟩ => thn (hu pins s2 σ H2 _ I2 q2) fun vu s3 ⟨u, H3, I3, pu, q3⟩ => ?_)
  rw [evalPart_none]
  refine wpAny_pure ?_
  have I4 : Inv X pins σ H3 { s3 with heap := s3.heap.push { cls := .type "slice", data := .fields #[vl, vu, .none] } } := I3.kept (t' := s3.toks) fun b ob q => Heap.get?_push_of_some _ q
  obtain ⟨T, id, hT, ht, hg⟩ := hr pins { s3 with heap := s3.heap.push { cls := .type "slice", data := .fields #[vl, vu, .none] } } σ H3 x v vl vu l u s3.heap.objs.size Q I4 r1 (Heap.IsSliceOf.new ..) pl pu q3
  show wpAny (model X.prog X.w) X.A (subscriptTail e (.Slice lo hi none p2) v (.ref s3.heap.objs.size)) (EP X pins σ Q) X.xe { s3 with heap := s3.heap.push { cls := .type "slice", data := .fields #[vl, vu, .none] } }
  exact tail_any (ops := [.ref s3.heap.objs.size, v]) ht hT hg (by with_unfolding_all rfl)


def cutV (xs : List V) (lo hi : Option Int) : List V := (xs.drop (HT.sIx xs.length 0 lo)).take (HT.sIx xs.length xs.length hi - HT.sIx xs.length 0 lo)
theorem cutV_length (xs : List V) (lo hi : Option Int) : (cutV xs lo hi).length ≤ xs.length := by
  unfold cutV
  rw [List.length_take, List.length_drop]
  omega

def rSlT (K : PySem.W.Frag) : V → Option Int → Option Int → Hp → VK → Prop := fun x lo hi H Q => ∃ a xs, x = .ref a ∧ SqT K H a xs ∧
  ¬ (HT.sIx xs.length 0 lo = 0 ∧ HT.sIx xs.length xs.length hi = xs.length) ∧ ∀ p, H p = none → Q (.ref p) (upd H p (.tup (cutV xs lo hi)))
theorem sl_tup : SlR X (rSlT X.K) := by
  intro pins s σ H x v vl vu lo hi sl Q I rx hs pl pu h
  obtain ⟨a, xs, rfl, hx, hw, q⟩ := h
  cases rx
  obtain ⟨its, r, ht, hz⟩ := I.tuple hx
  have hlen : its.toArray.size = xs.length := by rw [List.size_toArray]; exact r.length.symm
  refine ⟨"tuple", _, PyProof.Rows.slot_tuple_getitem.lookup, ht.typeIs, ?_⟩
  refine HT.getItem_tuple_cut ht hs pl pu (by rw [hlen]; exact hw) ?_ (by rw [hlen]; exact hz)
  rw [hlen]
  refine ⟨.ref s.heap.objs.size, _, I.laid (t' := s.toks) (o := .tup (cutV xs lo hi)) (fun b ob q => Heap.get?_push_of_some _ q) (Nat.le_refl _) ?_, rfl, q _ (I.hok.fresh (Nat.le_refl _))⟩
  exact ⟨Nat.le_trans (cutV_length xs lo hi) hz, _, (r.drop (HT.sIx xs.length 0 lo)).take (HT.sIx xs.length xs.length hi - HT.sIx xs.length 0 lo), IsTup.new _ _⟩


end
end L2

namespace L2
open PySem PySem.Spec PyProof.Rows



def ixN (n : Nat) (i : Int) : Option Nat := if 0 ≤ i then (if i < n then some i.toNat else none) else if -(n : Int) ≤ i then some (i + n).toNat else none
def atI {α : Type} (xs : List α) (i : Int) : Option α := (ixN xs.length i).bind fun j => xs[j]?
theorem ixN_seq {n : Nat} {i : Int} {j : Nat} (h : ixN n i = some j) : seqIndex? i n = some j ∧ j < n ∧ -(n : Int) ≤ i ∧ i < n := by
  unfold ixN at h
  by_cases h0 : 0 ≤ i
  · rw [if_pos h0] at h
    by_cases h1 : i < n
    · rw [if_pos h1] at h
      have e : i.toNat = j := Option.some.inj h
      exact ⟨by rw [seqIndex_of h0 h1, e], by omega, by omega, h1⟩
    · rw [if_neg h1] at h; cases h
  · rw [if_neg h0] at h
    by_cases h1 : -(n : Int) ≤ i
    · rw [if_pos h1] at h
      have e : (i + n).toNat = j := Option.some.inj h
      exact ⟨by rw [seqIndex_neg (by omega) h1, e], by omega, h1, by omega⟩
    · rw [if_neg h1] at h; cases h
theorem atI_get {α : Type} {xs : List α} {i : Int} {v : α} (h : atI xs i = some v) : ∃ j, seqIndex? i xs.length = some j ∧ xs[j]? = some v ∧ j < xs.length ∧ -(xs.length : Int) ≤ i ∧ i < xs.length := by
  unfold atI at h
  cases e : ixN xs.length i with
  | none => rw [e] at h; cases h
  | some j =>
    rw [e] at h
    obtain ⟨h1, h2, h3, h4⟩ := ixN_seq e
    exact ⟨j, h1, h, h2, h3, h4⟩
theorem atI_nat {α : Type} {xs : List α} {j : Nat} {v : α} (h : xs[j]? = some v) : atI xs (j : Int) = some v := by
  have hj : j < xs.length := (List.getElem?_eq_some_iff.mp h).1
  have e : ixN xs.length (j : Int) = some j := by
    unfold ixN
    rw [if_pos (by omega), if_pos (by omega)]; simp
  unfold atI; rw [e]; exact h
theorem atI_last {α : Type} (xs : List α) (v : α) : atI (xs ++ [v]) (-1) = some v := by
  have hl : (xs ++ [v]).length = xs.length + 1 := by simp
  have e : ixN (xs ++ [v]).length (-1) = some xs.length := by
    unfold ixN
    rw [hl, if_neg (by decide), if_pos (by omega)]
    congr 1
    omega
  unfold atI
  rw [e]
  show (xs ++ [v])[xs.length]? = some v
  simp



def PlainIx (b : Expr) : Prop := ∀ o i, subscripted b false o i = operate [o, i] (getItem o i)

def IxR (X : Cx) (r : R2) : Prop :=
  ∀ (value slice : Expr) (pins : List (Addr × Obj)) (s : Shared) (σ : St) (H : Hp) (x y : V) (v u : Value) (Q : VK), Inv X pins σ H s → RelV x v → RelV y u → r x y H Q →
    subscripted slice false v u = operate [v, u] (getItem v u) → wpAny (model X.prog X.w) X.A (subscriptTail value slice v u) (EP X pins σ Q) X.xe s

def MtR (X : Cx) (id : String) (r : V → List V → Hp → VK → Prop) : Prop :=
  ∀ (pins : List (Addr × Obj)) (s : Shared) (σ : St) (H : Hp) (x : V) (xs : List V) (v : Value) (us : List Value) (Q : VK), Inv X pins σ H s → RelV x v → Vals xs us → r x xs H Q →
    wpAny (model X.prog X.w) X.A (call (.builtin id) (v :: us)) (EP X pins σ Q) X.xe s
section
variable {X : Cx} {a b : Expr} {ta tb : TE} {pos : Pos}
theorem IxR.or {r r' : R2} (h : IxR X r) (h' : IxR X r') : IxR X (fun x y H Q => r x y H Q ∨ r' x y H Q) := by
  intro value slice pins s σ H x y v u Q I rx ry q hs
  rcases q with q | q
  · exact h value slice pins s σ H x y v u Q I rx ry q hs
  · exact h' value slice pins s σ H x y v u Q I rx ry q hs
theorem MtR.or {id : String} {r r' : V → List V → Hp → VK → Prop} (h : MtR X id r) (h' : MtR X id r') : MtR X id (fun x xs H Q => r x xs H Q ∨ r' x xs H Q) := by
  intro pins s σ H x xs v us Q I rx rs q
  rcases q with q | q
  · exact h pins s σ H x xs v us Q I rx rs q
  · exact h' pins s σ H x xs v us Q I rx rs q

theorem pe_ix {r : R2} (hr : IxR X r) (ha : PE X a ta) (hb : PE X b tb) (hs : PlainIx b) : PE X (.Subscript a b pos) (tOp r ta tb) := by
  intro pins s σ H Q I h
  exact Subscript_ (binT ha hb I h fun v u s2 x y H2 I2 rx ry q => hr a b pins s2 σ H2 x y v u Q I2 rx ry q (hs _ _))

def rIxL (K : PySem.W.Frag) : R2 := fun x y H Q => ∃ p xs i v, x = .ref p ∧ y = .int i ∧ SqL K H p xs ∧ atI xs i = some v ∧ Q v H
def rIxT (K : PySem.W.Frag) : R2 := fun x y H Q => ∃ p xs i v, x = .ref p ∧ y = .int i ∧ SqT K H p xs ∧ atI xs i = some v ∧ Q v H
theorem ix_list : IxR X (rIxL X.K) := by
  intro value slice pins s σ H x y v u Q I rx ry h hs
  obtain ⟨p, xs, i, z, rfl, rfl, hq, he, q⟩ := h
  cases rx
  obtain ⟨t, rfl⟩ := ry
  obtain ⟨its, r, pl, hz⟩ := I.list hq
  obtain ⟨j, h1, h2, h3, h4, h5⟩ := atI_get he
  obtain ⟨w, ew, rw'⟩ := r.get h2
  have hl := r.length
  have hn := line63
  have fin : EP X pins σ Q w s := ⟨z, H, I, rw', q⟩
  by_cases h0 : 0 ≤ i
  · have hj : i.toNat = j := by
      rw [seqIndex_of h0 h5] at h1
      exact Option.some.inj h1
    exact item_listR pl.isList h0 (by omega) (by rw [hj]; simpa using ew) fin hs
  · have hj : (i + (its.toArray.size : Int)).toNat = j := by
      rw [seqIndex_neg (by omega) h4] at h1
      rw [List.size_toArray, ← hl]
      exact Option.some.inj h1
    exact subscriptTail_builtinR (x := w) pl.isList.typeIs slot_list_getitem.lookup
      (wpAny_getItem_list_neg (Q := fun r s' => r = w ∧ EP X pins σ Q r s') pl.isList (by omega) (by rw [List.size_toArray] <;> omega) (by omega) (by rw [hj]; simpa using ew) ⟨rfl, fin⟩) hs
theorem ix_tup : IxR X (rIxT X.K) := by
  intro value slice pins s σ H x y v u Q I rx ry h hs
  obtain ⟨p, xs, i, z, rfl, rfl, hq, he, q⟩ := h
  cases rx
  obtain ⟨t, rfl⟩ := ry
  obtain ⟨its, r, pl, hz⟩ := I.tuple hq
  obtain ⟨j, h1, h2, h3, h4, h5⟩ := atI_get he
  obtain ⟨w, ew, rw'⟩ := r.get h2
  have hl := r.length
  have hn := line63
  have fin : EP X pins σ Q w s := ⟨z, H, I, rw', q⟩
  exact subscriptTail_builtinR (x := w) pl.typeIs slot_tuple_getitem.lookup
    (getItem_tuple (j := j) (Q := fun r s' => r = w ∧ EP X pins σ Q r s') pl (by omega) (by omega) (by rw [List.size_toArray, ← hl]; exact h1) (by simpa using ew) ⟨rfl, fin⟩) hs
theorem mapSeq_set (its : List Value) (n j : Nat) (u : Value) : Obj.mapSeq (·.setIfInBounds j u) { cls := .type "list", data := .seq its.toArray n } = { cls := .type "list", data := .seq (its.set j u).toArray n } := by
  simp [Obj.mapSeq]
theorem Inv.lst {pins : List (Addr × Obj)} {σ : St} {H : Hp} {s : Shared} {p : Addr} {xs : List V} (I : Inv X pins σ H s) (h : H p = some (.lst xs)) :
    ∃ (its : List Value) (n : Nat), Vals xs its ∧ s.heap.get? p = some { cls := .type "list", data := .seq its.toArray n } ∧ xs.length ≤ sizeLine := by
  obtain ⟨z, its, n, r, e⟩ := I.hok p _ h
  exact ⟨its, n, r, e, z⟩

theorem Inv.lstUpd {pins : List (Addr × Obj)} {σ : St} {H : Hp} {s : Shared} {p : Addr} {xs ys : List V} {its its' : List Value} {n n' : Nat} {f : Obj → Obj} (I : Inv X pins σ H s) (h : H p = some (.lst xs))
    (ho : s.heap.get? p = some { cls := .type "list", data := .seq its.toArray n }) (hf : f { cls := .type "list", data := .seq its.toArray n } = { cls := .type "list", data := .seq its'.toArray n' }) (r : Vals ys its') (hz : ys.length ≤ sizeLine) (t : Nat) :
    Inv X pins σ (upd H p (.lst ys)) { s with heap := s.heap.update p f, toks := t } := by
  have e : (s.heap.update p f).get? p = some { cls := .type "list", data := .seq its'.toArray n' } := by
    rw [Heap.get?_update_self f ho (by rw [hf] <;> rfl), hf]
  refine I.write (x := p) (e := p) (by rw [h]; trivial) (.inl rfl) (fun b u hb q => (Heap.get?_update_other _ _ (Ne.symm hb)).trans q) ⟨_, e⟩ ?_
  exact ⟨hz, its', n', r, e⟩
def rSetL : V → V → V → Hp → (Hp → Prop) → Prop := fun o i v H Q => ∃ p xs k j, o = .ref p ∧ i = .int k ∧ H p = some (.lst xs) ∧ ixN xs.length k = some j ∧ Q (upd H p (.lst (xs.set j v)))
theorem set_list : PSet X rSetL := by
  intro pins s σ H o i v ov iv u Q I ro ri rv h
  obtain ⟨p, xs, k, j, rfl, rfl, hp, hj, q⟩ := h
  cases ro
  obtain ⟨t, rfl⟩ := ri
  obtain ⟨its, n, r, ho, hz⟩ := I.lst hp
  obtain ⟨h1, h2, h3, h4⟩ := ixN_seq hj
  have hl := r.length
  have hn := line63
  have I' : Inv X pins σ (upd H p (.lst (xs.set j v))) { s with heap := s.heap.update p (Obj.mapSeq (·.setIfInBounds j u)) } :=
    I.lstUpd hp ho (mapSeq_set its n j u) (r.set rv j) (by rw [List.length_set]; exact hz) s.toks
  by_cases h0 : 0 ≤ k
  · have hk : k.toNat = j := by
      rw [seqIndex_of h0 h4] at h1
      exact Option.some.inj h1
    exact PySem.W.ki_setAt ho h0 (by omega) (by rw [List.size_toArray, ← hl]; exact h4) (by rw [hk]; exact ⟨_, I', q⟩)
  · have hk : (k + (its.toArray.size : Int)).toNat = j := by
      rw [seqIndex_neg (by omega) h3] at h1
      rw [List.size_toArray, ← hl]
      exact Option.some.inj h1
    exact PySem.W.ki_setBack ho (by omega) (by rw [List.size_toArray, ← hl]; exact h3) (by omega) (by rw [hk]; exact ⟨_, I', q⟩)


theorem slice_bounds (lo hi : Option Int) (n : Nat) : (sliceBounds lo hi none n).1 = ((HT.sIx n 0 lo : Nat) : Int) ∧ (sliceBounds lo hi none n).2.1 = ((HT.sIx n n hi : Nat) : Int) ∧ (sliceBounds lo hi none n).2.2 = 1 := by
  refine ⟨?_, ?_, rfl⟩
  · cases lo with
    | none => simp [sliceBounds, HT.sIx]
    | some i =>
      simp only [sliceBounds, HT.sIx, Option.getD_none, show (1 : Int) > 0 by decide, if_true]
      by_cases h : i < 0
      · simp only [h, if_true] <;> omega
      · simp only [h, if_false] <;> omega
  · cases hi with
    | none => simp [sliceBounds, HT.sIx]
    | some i =>
      simp only [sliceBounds, HT.sIx, Option.getD_none, show (1 : Int) > 0 by decide, if_true]
      by_cases h : i < 0
      · simp only [h, if_true] <;> omega
      · simp only [h, if_false] <;> omega
theorem slicePick_cut (its : List Value) (lo hi : Option Int) : slicePick its.toArray lo hi none = ((its.drop (HT.sIx its.length 0 lo)).take (HT.sIx its.length its.length hi - HT.sIx its.length 0 lo)).toArray := by
  obtain ⟨h1, h2, h3⟩ := slice_bounds lo hi its.toArray.size
  unfold slicePick
  rw [h1, h2, h3]
  simp only [sliceRange_one, pick_run, List.size_toArray] <;> rfl

def rSlL (K : PySem.W.Frag) : V → Option Int → Option Int → Hp → VK → Prop := fun x lo hi H Q => ∃ a xs, x = .ref a ∧ SqL K H a xs ∧ ∀ p, H p = none → Q (.ref p) (upd H p (.lst (cutV xs lo hi)))
theorem sl_list : SlR X (rSlL X.K) := by
  intro pins s σ H x v vl vu lo hi sl Q I rx hs pl pu h
  obtain ⟨a, xs, rfl, hx, q⟩ := h
  cases rx
  obtain ⟨its, r, ht, hz⟩ := I.list hx
  have hlen := r.length
  refine ⟨"list", _, slot_list_getitem.lookup, ht.isList.typeIs, ?_⟩
  refine wpAny_getItem_list_slice ht.isList hs pl pu .none (by simp) ?_ (by rw [List.size_toArray] <;> omega)
  rw [slicePick_cut, ← hlen]
  refine ⟨.ref s.heap.objs.size, _, I.laid (t' := s.toks) (o := .lst (cutV xs lo hi)) (fun b ob q => Heap.get?_push_of_some _ q) (Nat.le_refl _) ?_, rfl, q _ (I.hok.fresh (Nat.le_refl _))⟩
  exact ⟨Nat.le_trans (cutV_length xs lo hi) hz, _, 0, (r.drop (HT.sIx xs.length 0 lo)).take (HT.sIx xs.length xs.length hi - HT.sIx xs.length 0 lo), Heap.get?_push_size _ rfl⟩


def flatV : V → Bool
  | .non => true
  | .bl _ => true
  | .int _ => true
  | .str _ => true
  | _ => false

def eqV : V → V → Bool
  | .non, .non => true
  | .bl a, .bl b => a == b
  | .bl a, .int b => (if a then 1 else 0) == b
  | .int a, .bl b => a == (if b then 1 else 0)
  | .int a, .int b => a == b
  | .str a, .str b => a == b
  | _, _ => false
theorem eqAt_V {A : Around} {s : Shared} {y x : V} {u v : Value} (ry : RelV y u) (rx : RelV x v) (fy : flatV y = true) (fx : flatV x = true) : SeqAt.EqAt A s u v (eqV y x) := by
  cases y with
  | non =>
    cases ry
    cases x with
    | non => cases rx; exact SeqAt.EqAt.same _
    | bl b => cases rx; exact SeqAt.EqAt.none_bool b
    | int b => obtain ⟨t, rfl⟩ := rx; exact SeqAt.EqAt.none_int b t
    | str b => obtain ⟨t, rfl⟩ := rx; exact SeqAt.EqAt.none_str b t
    | _ => exact absurd (show false = true from fx) Bool.false_ne_true
  | bl a =>
    cases ry
    cases x with
    | non => cases rx; exact SeqAt.EqAt.bool_none a
    | bl b => cases rx; exact SeqAt.EqAt.bool_bool a b
    | int b => obtain ⟨t, rfl⟩ := rx; exact SeqAt.EqAt.bool_int a b t
    | str b => obtain ⟨t, rfl⟩ := rx; exact SeqAt.EqAt.bool_str a b t
    | _ => exact absurd (show false = true from fx) Bool.false_ne_true
  | int a =>
    obtain ⟨t', rfl⟩ := ry
    cases x with
    | non => cases rx; exact SeqAt.EqAt.int_none a t'
    | bl b => cases rx; exact SeqAt.EqAt.int_bool a t' b
    | int b => obtain ⟨t, rfl⟩ := rx; exact SeqAt.EqAt.int_int a t' b t
    | str b => obtain ⟨t, rfl⟩ := rx; exact SeqAt.EqAt.int_str a t' b t
    | _ => exact absurd (show false = true from fx) Bool.false_ne_true
  | str a =>
    obtain ⟨t', rfl⟩ := ry
    cases x with
    | non => cases rx; exact SeqAt.EqAt.str_none a t'
    | bl b => cases rx; exact SeqAt.EqAt.str_bool a t' b
    | int b => obtain ⟨t, rfl⟩ := rx; exact SeqAt.EqAt.str_int a t' b t
    | str b => obtain ⟨t, rfl⟩ := rx; exact SeqAt.EqAt.str_str a t' b t
    | _ => exact absurd (show false = true from fx) Bool.false_ne_true
  | _ => exact absurd (show false = true from fy) Bool.false_ne_true

def inV (x : V) (xs : List V) : Bool := xs.any fun y => eqV y x

def rIn (K : PySem.W.Frag) (neg : Bool) : R2 := fun x y H Q => ∃ p xs, y = .ref p ∧ (SqL K H p xs ∨ SqT K H p xs) ∧ flatV x = true ∧ xs.all flatV = true ∧ Q (.bl (if neg then !inV x xs else inV x xs)) H
theorem call_len_seq : CallR X (.builtin "len") (fun xs H Q => ∃ p ys, xs = [.ref p] ∧ (SqL X.K H p ys ∨ SqT X.K H p ys) ∧ Q (.int ys.length) H) := by
  intro pins s σ H xs us Q I r h
  obtain ⟨p, ys, rfl, hq, q⟩ := h
  obtain ⟨u, rfl, rx⟩ := vals1 r
  cases rx
  have hn := line63
  rcases hq with hq | hq
  · obtain ⟨its, r', pl, hz⟩ := I.list hq
    have hlen := r'.length
    exact Calls.call_len_list pl.isList (by simp only [List.size_toArray] <;> omega) ⟨.int ys.length, H, I.tok _, ⟨s.toks + 1, by rw [List.size_toArray, hlen]⟩, q⟩
  · obtain ⟨its, r', pl, hz⟩ := I.tuple hq
    have hlen := r'.length
    exact len_tuple pl (by simp only [List.size_toArray] <;> omega) ⟨.int ys.length, H, I.tok _, ⟨s.toks + 1, by rw [List.size_toArray, hlen]⟩, q⟩
theorem CallR.or {f : Value} {r r' : List V → Hp → VK → Prop} (h : CallR X f r) (h' : CallR X f r') : CallR X f (fun xs H Q => r xs H Q ∨ r' xs H Q) := by
  intro pins s σ H xs us Q I rs q
  rcases q with q | q
  · exact h pins s σ H xs us Q I rs q
  · exact h' pins s σ H xs us Q I rs q
theorem call_list_of : CallR X (.type "list") (fun xs H Q => ∃ p ys, xs = [.ref p] ∧ (SqL X.K H p ys ∨ SqT X.K H p ys) ∧ ∀ l, H l = none → Q (.ref l) (upd H l (.lst ys))) := by
  intro pins s σ H xs us Q I r h
  obtain ⟨p, ys, rfl, hq, q⟩ := h
  obtain ⟨u, rfl, rx⟩ := vals1 r
  cases rx
  have fin : ∀ (its : List Value), Vals ys its → ys.length ≤ sizeLine → ∀ (h' : Heap) (c' : Nat), (∀ b o', s.heap.get? b = some o' → h'.get? b = some o') →
      h'.get? s.heap.objs.size = some { cls := .type "list", dict := none, data := .seq its.toArray c', slots := #[] } → EP X pins σ Q (.ref s.heap.objs.size) { s with heap := h' } := fun its r' hz h' c' kp e =>
    ⟨.ref s.heap.objs.size, _, I.laid (t' := s.toks) kp (Nat.le_refl _) (show ObjOk X.prog X.w _ h' _ (.lst ys) from ⟨hz, its, c', r', e⟩), rfl, q _ (I.hok.fresh (Nat.le_refl _))⟩
  rcases hq with hq | hq
  · obtain ⟨its, r', pl, hz⟩ := I.list hq
    have hlen := r'.length
    obtain ⟨o, ho, hc, n, hd⟩ := pl.isList
    exact call_list_seq p (.inl rfl) ho hc hd (fun h' c' kp e => fin its r' hz h' c' kp e) (by simp only [List.size_toArray] <;> omega)
  · obtain ⟨its, r', pl, hz⟩ := I.tuple hq
    have hlen := r'.length
    obtain ⟨o, ho, hc, n, hd⟩ := pl
    exact call_list_seq p (.inr rfl) ho hc hd (fun h' c' kp e => fin its r' hz h' c' kp e) (by simp only [List.size_toArray] <;> omega)
theorem call_tuple_of : CallR X (.type "tuple") (fun xs H Q => ∃ p ys, xs = [.ref p] ∧ ((SqL X.K H p ys ∧ ∀ l, H l = none → Q (.ref l) (upd H l (.tup ys))) ∨ (SqT X.K H p ys ∧ Q (.ref p) H))) := by
  intro pins s σ H xs us Q I r h
  obtain ⟨p, ys, rfl, h⟩ := h
  obtain ⟨u, rfl, rx⟩ := vals1 r
  cases rx
  rcases h with ⟨hq, q⟩ | ⟨hq, q⟩
  · obtain ⟨its, r', pl, hz⟩ := I.list hq
    have hlen := r'.length
    refine call_tuple_list pl.isList (fun h' kp => ?_) (by simp only [List.size_toArray] <;> omega)
    have I1 : Inv X pins σ H { s with heap := h' } := I.kept (t' := s.toks) kp
    have I2 : Inv X pins σ (upd H h'.objs.size (.tup ys)) { s with heap := h'.push { cls := .type "tuple", data := .seq its.toArray } } :=
      I1.laid (t' := s.toks) (fun b o e => Heap.get?_push_of_some _ e) (Nat.le_refl _) (show ObjOk X.prog X.w _ _ _ (.tup ys) from ⟨hz, its, r', IsTup.new _ _⟩)
    exact ⟨.ref h'.objs.size, _, I2, rfl, q _ (I1.hok.fresh (Nat.le_refl _))⟩
  · obtain ⟨its, r', pl, hz⟩ := I.tuple hq
    exact call_tuple_same pl ⟨.ref p, H, I, rfl, q⟩



def tyV (K : PySem.W.Frag) (T : String) (x : V) (H : Hp) : Prop := match x with
  | .str _ => T = "str"
  | .int _ => T = "int"
  | .ref p => (T = "list" ∧ ∃ xs, SqL K H p xs) ∨ (T = "tuple" ∧ ∃ o, K.lookup p = some o ∧ o.cls = .type "tuple" ∧ o.dict = none) ∨
      (T = "dict" ∧ ((∃ kvs, H p = some (.dK kvs)) ∨ ∃ kvs, H p = some (.dT kvs))) ∨ (T = "set" ∧ ∃ S n, H p = some (.set S n))
  | _ => False
theorem tyV_is {pins : List (Addr × Obj)} {σ : St} {H : Hp} {s : Shared} {T : String} {x : V} {v : Value} (I : Inv X pins σ H s) (r : RelV x v) (ty : tyV X.K T x H) :
    s.TypeIs v T ∧ ∀ a, v = .ref a → ∃ ob, s.heap.get? a = some ob ∧ ob.dict = none := by
  cases x with
  | str z =>
    obtain ⟨t, rfl⟩ := r
    cases (show T = "str" from ty)
    exact ⟨typeIs_str s z t, fun _ e => nomatch e⟩
  | int i =>
    obtain ⟨t, rfl⟩ := r
    cases (show T = "int" from ty)
    exact ⟨typeIs_int s i t, fun _ e => nomatch e⟩
  | ref p =>
    cases r
    rcases ty with ⟨rfl, xs, hq⟩ | ⟨rfl, o, hk, hc, hd⟩ | ⟨rfl, hk⟩ | ⟨rfl, S, n, hk⟩
    · obtain ⟨its, _, pl, _⟩ := I.list hq
      refine ⟨pl.isList.typeIs, fun a e => ?_⟩
      cases e
      obtain ⟨o, n, e, c, hd, _⟩ := pl
      exact ⟨o, e, hd⟩
    · refine ⟨⟨o, I.kIn p o hk, hc⟩, fun a e => ?_⟩
      cases e
      exact ⟨o, I.kIn _ o hk, hd⟩
    · have z : ∃ o, s.heap.get? p = some o ∧ o.ExactDict := by
        rcases hk with ⟨kvs, hk⟩ | ⟨kvs, hk⟩
        · obtain ⟨_, _, _, _, o, _, _, e, ex, _⟩ := I.hok p _ hk
          exact ⟨o, e, ex⟩
        · obtain ⟨_, _, _, _, o, _, _, e, ex, _⟩ := I.hok p _ hk
          exact ⟨o, e, ex⟩
      obtain ⟨o, e, ex⟩ := z
      refine ⟨⟨o, e, ex.1⟩, fun a e2 => ?_⟩
      cases e2
      exact ⟨o, e, ex.2.1⟩
    · obtain ⟨o, _, _, _, e, ex, _⟩ := I.hok p _ hk
      refine ⟨⟨o, e, ex.1⟩, fun a e2 => ?_⟩
      cases e2
      exact ⟨o, e, ex.2.1⟩
  | _ => exact False.elim ty
def tBM0 (K : PySem.W.Frag) (T : String) (r : V → List V → Hp → VK → Prop) (to : TE) : TE := fun σ H Q => to σ H fun x H1 => tyV K T x H1 ∧ r x [] H1 Q
def tBM (K : PySem.W.Frag) (T : String) (r : V → List V → Hp → VK → Prop) (to : TE) (t : TA) : TE := fun σ H Q => to σ H fun x H1 => tyV K T x H1 ∧ t σ H1 fun xs H2 => r x xs H2 Q
variable {o e : Expr} {es : List Expr} {to : TE} {t : TA} {name : Str} {apos cpos : Pos} {T id : String} {r : V → List V → Hp → VK → Prop}
theorem pe_bm0 (pa : PlainAttrs T) (slot : Slot T name id) (hty : typeOf (.builtin id) = pure (.type "method_descriptor")) (hm : MtR X id r) (ho : PE X o to)
    (hbase : attributeBase o name X.env (eval o X.env) = eval o X.env := by rfl) (hline : (apos.endLine == cpos.line) = true := by rfl) : PE X (.Call (.Attribute o name apos) [] [] cpos) (tBM0 X.K T r to) := by
  intro pins s σ H Q I h
  refine wpAny_Call_method0_late hbase hline (thn (ho pins s σ H _ I h) fun v s1 ⟨x, H1, I1, r1, ty, q1⟩ => ?_)
  obtain ⟨h1, h2⟩ := tyV_is I1 r1 ty
  exact ⟨T, id, pa, slot, hty, h1, h2, Calls.callWith_builtin rfl (PySem.evalArgs_none (hm pins s1 σ H1 x [] v [] Q I1 r1 .nil q1))⟩
theorem pe_bm (pa : PlainAttrs T) (slot : Slot T name id) (hty : typeOf (.builtin id) = pure (.type "method_descriptor")) (hm : MtR X id r) (ho : PE X o to) (ha : PA X (e :: es) t)
    (hbase : attributeBase o name X.env (eval o X.env) = eval o X.env := by rfl)
    (hfew : ((backTo cpos (starEach (e :: es) X.env)).all (fun x => !x.1) && (backToKw cpos (keywordEach [] X.env)).all (fun x => x.1.isSome)
      && decide ((e :: es).length + ([] : List Keyword).length + (if ([] : List Keyword).isEmpty then 0 else 1) < 30)) = true := by rfl)
    (hline : (apos.endLine == cpos.line) = true := by rfl) (hs : starEach (e :: es) X.env = (false, eval e X.env) :: starEach es X.env := by rfl) (hplain : (backTo cpos (starEach es X.env)).any (·.1) = false := by rfl) :
    PE X (.Call (.Attribute o name apos) (e :: es) [] cpos) (tBM X.K T r to t) := by
  intro pins s σ H Q I h
  refine wpAny_Call_method_late hbase hfew hline rfl (thn (ho pins s σ H _ I h) fun v s1 ⟨x, H1, I1, r1, ty, q1⟩ => ?_)
  obtain ⟨h1, h2⟩ := tyV_is I1 r1 ty
  refine ⟨T, id, pa, slot, hty, h1, h2, ?_⟩
  have hA := ha cpos pins s1 σ H1 _ I1 q1
  rw [hs] at hA ⊢
  refine Calls.callWith_builtin (by show (false || (backTo cpos (starEach es X.env)).any (·.1)) = false; rw [hplain] <;> rfl) (Calls.evalArgs_plain ?_)
  exact thn hA fun us s2 ⟨vs, H2, I2, r2, q2⟩ => hm pins s2 σ H2 x vs v us Q I2 r1 r2 q2

end
end L2

namespace L2
open PySem PySem.Spec PyProof.Rows

def MtM (X : Cx) (id : String) (r : V → List V → Hp → VK → Prop) : Prop :=
  ∀ (pins : List (Addr × Obj)) (s : Shared) (σ : St) (H : Hp) (x : V) (xs : List V) (v : Value) (us : List Value) (Q : VK), Inv X pins σ H s → RelV x v → Vals xs us → r x xs H Q →
    wpAny (model X.prog X.w) X.A (call (.builtin id) (v :: us)) (EP X pins σ Q) X.xe s


theorem Vals.one : ∀ {x : V} {us : List Value}, Vals [x] us → ∃ u, us = [u] ∧ RelV x u
  | _, _, .cons r .nil => ⟨_, rfl, r⟩
theorem Vals.two : ∀ {x y : V} {us : List Value}, Vals [x, y] us → ∃ u v, us = [u, v] ∧ RelV x u ∧ RelV y v
  | _, _, _, .cons r (.cons q .nil) => ⟨_, _, rfl, r, q⟩
theorem Vals.zero : ∀ {us : List Value}, Vals [] us → us = []
  | _, .nil => rfl
theorem Vals.dropLast {xs : List V} {us : List Value} (h : Vals xs us) : Vals xs.dropLast us.dropLast := by
  induction h with
  | nil => exact .nil
  | cons r t ih =>
    cases t with
    | nil => exact .nil
    | cons q t' => exact .cons r ih
theorem Vals.eraseIdx : ∀ {xs : List V} {us : List Value} (i : Nat), Vals xs us → Vals (xs.eraseIdx i) (us.eraseIdx i)
  | _, _, _, .nil => .nil
  | _, _, 0, .cons _ t => t
  | _, _, i + 1, .cons r t => .cons r (Vals.eraseIdx i t)
theorem Vals.rep {xs : List V} {us : List Value} (h : Vals xs us) : ∀ k : Nat, Vals (List.replicate k xs).flatten (List.replicate k us).flatten
  | 0 => .nil
  | k + 1 => by
    rw [List.replicate_succ, List.replicate_succ, List.flatten_cons, List.flatten_cons]
    exact Vals.append h (Vals.rep h k)
theorem foldl_rep (its : List Value) : ∀ (k : Nat) (acc : List Value),
    List.foldl (fun x1 x2 => x1 ++ x2) acc.toArray (List.replicate k its.toArray) = (acc ++ (List.replicate k its).flatten).toArray
  | 0, acc => by simp
  | k + 1, acc => by
    have e : acc.toArray ++ its.toArray = (acc ++ its).toArray := by simp
    have e2 : (acc ++ its) ++ (List.replicate k its).flatten = acc ++ (List.replicate (k + 1) its).flatten := by
      rw [List.replicate_succ, List.flatten_cons, List.append_assoc]
    rw [← e2, ← foldl_rep its k (acc ++ its), ← e, List.replicate_succ, List.foldl_cons]

section
variable {X : Cx} {pins : List (Addr × Obj)} {σ : St} {H : Hp} {s : Shared} {l b : Addr} {xs ys zs : List V}


theorem Inv.lset {its its' : List Value} {n : Nat} {f : Array Value → Array Value} {t' : Nat} (I : Inv X pins σ H s) (hH : H l = some (.lst xs))
    (e : s.heap.get? l = some { cls := .type "list", data := .seq its.toArray n }) (hf : f its.toArray = its'.toArray) (hv : Vals ys its') (hz : ys.length ≤ sizeLine) :
    Inv X pins σ (upd H l (.lst ys)) { s with heap := s.heap.update l (Obj.mapSeq f), toks := t' } := by
  have q := PySem.IsL.update e f
  rw [hf] at q
  refine I.write (x := l) (e := l) (by rw [hH]; exact trivial) (.inl rfl) (fun b' u hb hu => (Heap.get?_update_other s.heap (Obj.mapSeq f) (Ne.symm hb)).trans hu) ⟨_, q⟩ ?_
  exact ⟨hz, its', _, hv, q⟩
theorem Inv.lnew {its : List Value} {t' : Nat} (I : Inv X pins σ H s) (hv : Vals ys its) (hz : ys.length ≤ sizeLine) :
    Inv X pins σ (upd H s.heap.objs.size (.lst ys)) { s with heap := s.heap.push { cls := .type "list", data := .seq its.toArray }, toks := t' } :=
  I.laid (fun _ _ q => Heap.get?_push_of_some _ q) (Nat.le_refl _) ⟨hz, its, 0, hv, Heap.get?_push_size _ rfl⟩
theorem Inv.fresh (I : Inv X pins σ H s) : H s.heap.objs.size = none := I.hok.fresh (Nat.le_refl _)
theorem Inv.lstM (I : Inv X pins σ H s) (hH : H l = some (.lst xs)) : xs.length ≤ sizeLine ∧ ∃ (its : List Value) (n : Nat), Vals xs its ∧ xs.length = its.length ∧ s.heap.get? l = some { cls := .type "list", data := .seq its.toArray n } := by
  obtain ⟨z, its, n, r, e⟩ := I.hok l _ hH
  exact ⟨z, its, n, r, r.length, e⟩

theorem notLongL {n : Nat} (h : n ≤ sizeLine) : Builtin.List.listTooLong n = false := by
  unfold Builtin.List.listTooLong
  exact decide_eq_false (by omega)
end

section
variable {X : Cx}


def rAppend : V → List V → Hp → VK → Prop := fun x vs H Q => ∃ l xs y, x = .ref l ∧ vs = [y] ∧ H l = some (.lst xs) ∧ xs.length < sizeLine ∧ Q .non (upd H l (.lst (xs ++ [y])))
theorem mt_append : MtM X "list.append" rAppend := by
  intro pins s σ H x vs v us Q I rx rv h
  obtain ⟨l, xs, y, rfl, rfl, hH, hz, q⟩ := h
  cases rx
  obtain ⟨u, rfl, ru⟩ := rv.one
  obtain ⟨z, its, n, r, hl, e⟩ := I.lstM hH
  refine call_meets F.slot_list_append ⟨_, e, rfl⟩ F.entry_list_append (F.args_list_append_2 _ _) (PySem.list_append l its.toArray n u (by rw [List.size_toArray]; omega)) ⟨e, ?_⟩
  refine ⟨.non, _, I.lset (its' := its ++ [u]) hH e (by simp) (r.append (.cons ru .nil)) ?_, rfl, q⟩
  rw [List.length_append, List.length_singleton]
  omega

def rExtend : V → List V → Hp → VK → Prop := fun x vs H Q => ∃ l b xs zs, x = .ref l ∧ vs = [.ref b] ∧ H l = some (.lst xs) ∧ H b = some (.lst zs) ∧ xs.length + zs.length ≤ sizeLine ∧ Q .non (upd H l (.lst (xs ++ zs)))
theorem mt_extend : MtM X "list.extend" rExtend := by
  intro pins s σ H x vs v us Q I rx rv h
  obtain ⟨l, b, xs, zs, rfl, rfl, hH, hB, hz, q⟩ := h
  cases rx
  obtain ⟨u, rfl, ru⟩ := rv.one
  cases ru
  obtain ⟨z, its, n, r, hl, e⟩ := I.lstM hH
  obtain ⟨z2, its2, n2, r2, hl2, e2⟩ := I.lstM hB
  have hsz : its.toArray.size + its2.toArray.size ≤ sizeLine := by rw [List.size_toArray, List.size_toArray]; omega
  have hlong : ¬ (!its.toArray.isEmpty && Builtin.List.listTooLong (its.toArray.size + its2.toArray.size)) = true := by
    rw [notLongL hsz, Bool.and_false]
    exact Bool.false_ne_true
  refine call_meets F.slot_list_extend ⟨_, e, rfl⟩ F.entry_list_extend (F.args_list_extend_2 _ _)
    (AutoSeq1.list_extend_list_list_0 l its.toArray n b its2.toArray n2 hlong (by rw [List.size_toArray]; omega) (by omega)) ⟨e, e2, ?_⟩
  refine ⟨.non, _, I.lset (its' := its ++ its2) hH e (by simp) (r.append r2) ?_, rfl, q⟩
  rw [List.length_append]
  omega

def rPop : V → List V → Hp → VK → Prop := fun x vs H Q => ∃ l xs y, x = .ref l ∧ vs = [] ∧ H l = some (.lst xs) ∧ xs[xs.length - 1]? = some y ∧ Q y (upd H l (.lst xs.dropLast))
def rPopAt : V → List V → Hp → VK → Prop := fun x vs H Q => ∃ l xs i k y, x = .ref l ∧ vs = [.int i] ∧ H l = some (.lst xs) ∧ -(2 ^ 63) ≤ i ∧ i < 2 ^ 63 ∧ seqIndex? i xs.length = some k ∧ xs[k]? = some y ∧ Q y (upd H l (.lst (xs.eraseIdx k)))
def rClear : V → List V → Hp → VK → Prop := fun x vs H Q => ∃ l xs, x = .ref l ∧ vs = [] ∧ H l = some (.lst xs) ∧ Q .non (upd H l (.lst []))
theorem mt_clear : MtM X "list.clear" rClear := by
  intro pins s σ H x vs v us Q I rx rv h
  obtain ⟨l, xs, rfl, rfl, hH, q⟩ := h
  cases rx
  have hus := rv.zero
  subst hus
  obtain ⟨z, its, n, r, hl, e⟩ := I.lstM hH
  refine call_meets F.slot_list_clear ⟨_, e, rfl⟩ F.entry_list_clear (F.args_list_clear_1 _) (AutoSeq1.list_clear_list_0 l its.toArray n (by rw [List.size_toArray]; omega)) ⟨e, ?_⟩
  exact ⟨.non, _, I.lset (its' := []) (ys := []) hH e rfl .nil (Nat.zero_le _), rfl, q⟩


def rCat : R2 := fun x y H Q => ∃ l b xs zs, x = .ref l ∧ y = .ref b ∧ H l = some (.lst xs) ∧ H b = some (.lst zs) ∧ xs.length + zs.length ≤ sizeLine ∧ ∀ p, H p = none → Q (.ref p) (upd H p (.lst (xs ++ zs)))
theorem op_cat : OpR X (binaryOp .Add) rCat := by
  intro pins s σ H x y v u Q I rx ry h
  obtain ⟨l, b, xs, zs, rfl, rfl, hH, hB, hz, q⟩ := h
  cases rx
  cases ry
  obtain ⟨z, its, n, r, hl, e⟩ := I.lstM hH
  obtain ⟨z2, its2, n2, r2, hl2, e2⟩ := I.lstM hB
  refine PySem.P.add_list e e2 ?_ (by rw [List.size_toArray, List.size_toArray]; omega)
  have ea : its.toArray ++ its2.toArray = (its ++ its2).toArray := by simp
  rw [ea]
  exact ⟨.ref _, _, I.lnew (t' := s.toks) (r.append r2) (by rw [List.length_append]; omega), rfl, q _ I.fresh⟩

def rRep : R2 := fun x y H Q => ∃ l k xs, x = .ref l ∧ y = .int k ∧ H l = some (.lst xs) ∧ -(2 ^ 63) ≤ k ∧ k < 2 ^ 63 ∧ xs.length * k.toNat ≤ sizeLine ∧
  ∀ p, H p = none → Q (.ref p) (upd H p (.lst (List.replicate k.toNat xs).flatten))
theorem len_rep {α : Type} (xs : List α) (k : Nat) : (List.replicate k xs).flatten.length = k * xs.length := by
  induction k with
  | zero => simp
  | succ k ih => rw [List.replicate_succ, List.flatten_cons, List.length_append, ih, Nat.succ_mul, Nat.add_comm]
theorem op_rep : OpR X (binaryOp .Mult) rRep := by
  intro pins s σ H x y v u Q I rx ry h
  obtain ⟨l, k, xs, rfl, rfl, hH, h1, h2, hz, q⟩ := h
  cases rx
  obtain ⟨t, rfl⟩ := ry
  obtain ⟨z, its, n, r, hl, e⟩ := I.lstM hH
  have hlen : its.toArray.size * k.toNat ≤ sizeLine := by rw [List.size_toArray, ← hl]; exact hz
  have hcap : ¬ its.toArray.size * k.toNat > (2 ^ 63 - 1) / 8 := by
    have : (sizeLine : Nat) ≤ (2 ^ 63 - 1) / 8 := by decide
    omega
  have hfit : ¬ (!Builtin.List.listFitsIndex k) = true := by
    rw [fitsIndex_both h1 h2]
    exact Bool.false_ne_true
  have hlong : ¬ Builtin.List.listTooLong (its.toArray.size * k.toNat) = true := by
    rw [notLongL hlen]
    exact Bool.false_ne_true
  have hnew : List.foldl (fun x1 x2 => x1 ++ x2) #[] (List.replicate (if its.toArray.isEmpty = true then 0 else k.toNat) its.toArray) = (List.replicate k.toNat its).flatten.toArray := by
    have f0 : ∀ m : Nat, List.foldl (fun x1 x2 => x1 ++ x2) #[] (List.replicate m its.toArray) = (List.replicate m its).flatten.toArray := fun m => by
      have := foldl_rep its m []
      rw [List.nil_append] at this
      exact this
    rw [f0]
    cases its with
    | nil => simp
    | cons a r' => rw [if_neg (by simp)]
  refine wpAny_binaryOp_repeat_ref (T := "list") (U := "int") (by decide) ⟨_, e, rfl⟩ (fun s' => typeIs_int s' k t) noFill_list_mul F.fills_int_mul F.slot_int_rmul repeat_list F.slot_int_index.lookup
    (call_meets F.slot_int_rmul (typeIs_int s k t) F.entry_int_rmul (F.args_int_rmul_2 _ _) (int___rmul___int_list k t l its.toArray n)
      ⟨e, rfl, ⟨_, e, rfl⟩, call_meets F.slot_list_mul ⟨_, e, rfl⟩ F.entry_list_mul (F.args_list_mul_2 _ _) (AutoListH.list___mul___list_int_3 l its.toArray n k t hfit hcap hlong) ⟨e, ?_⟩⟩)
  rw [hnew]
  exact ⟨.ref _, _, I.lnew (t' := s.toks) (r.rep k.toNat) (by rw [len_rep, Nat.mul_comm]; exact hz), rfl, q _ I.fresh⟩


end


section
variable {prog : Program} {w : World} {A : Around} {E : Value → Shared → Prop} {s : Shared}
end

section
variable {X : Cx}

end
end L2

namespace Att
open PySem PySem.W PySem.Calls PyProof.Rows


theorem ints_of_wellAll {P : Params} {h : Heap} : ∀ (ns : List Int) (vs : List Value), WellAll P h vs (ns.map WData.int) → IntsAre vs ns := by
  intro ns
  induction ns with
  | nil =>
    intro vs w
    rw [List.map_nil] at w
    cases w
    exact .nil
  | cons n ns ih =>
    intro vs w
    rw [List.map_cons] at w
    cases w with
    | cons a b =>
      cases a
      exact .cons _ _ (ih _ b)

theorem script_of {l : OpenLaw} {n : Nat} (hn : l.most = some n) {P : Params} {h : Heap} {args : List WData} {vals : List Value}
    (hpre : l.row.toRowW.claim.pre args = true) (hwl : WellAll P h vals args) :
    ∃ a vs ns, vals = [Value.ref a] ∧ args = [WData.list (ns.map WData.int)] ∧ h.get? a = some { cls := .type "list", data := .seq vs.toArray } ∧ IntsAre vs ns ∧ ns.length ≤ n := by
  have hsh : WShape.hasAll [] args [.list .int] = true := (pre_splitW hpre).1
  have hc : l.pre.holds [] { args := args } = true := (pre_splitW hpre).2
  obtain ⟨d, r, rfl, h1, h2⟩ := hasAllW_cons hsh
  obtain rfl := hasAllW_nil h2
  obtain ⟨xs, rfl, h3⟩ := hasW_list h1
  obtain ⟨ns, rfl⟩ := items_int h3
  have hlen : ns.length ≤ n := by
    unfold OpenLaw.pre at hc
    have h4 : (WTm.not (.lt (.lit (.int (n : Int))) (.len (.arg 0)))).holds [] { args := [.list (ns.map .int)] } = true := by
      have h4 := (holds_andW hc).1
      rw [hn] at h4
      exact h4
    have h5 := condW_of h4 (w_not (w_lt w_lit (w_len_list (w_arg rfl))))
    rw [List.length_map] at h5
    refine Nat.le_of_not_lt fun q => ?_
    have q' : (n : Int) < ((ns.length : Nat) : Int) := by omega
    first
      | (rw [decide_eq_true q'] at h5; exact absurd h5 (by decide))
      | (simp at h5; omega)
  cases hwl with
  | cons w1 w2 =>
    cases w2
    cases w1 with
    | list ho hall => exact ⟨_, _, ns, rfl, rfl, ho, ints_of_wellAll ns _ hall, hlen⟩

theorem post_true (l : OpenLaw) (args : List WData) : l.row.toRowW.claim.post args (.bool true) args = true :=
  postW_of (r := l.row.toRowW) (X := (true == true))
    (show WShape.has [] (.bool true) .bool = true by first | rfl | decide | simp [WShape.has, WShape.arms, WShape.armsAll])
    (show (WTm.eq .res (.lit (.bool true))).value [] { args := args, res := some (.bool true), after := args } = some (.bool (true == true)) from w_eq_bool (w_res rfl) w_lit) rfl


theorem attach_call {l : OpenLaw} {n : Nat} {q : Program} {loose : List Str} {XP : (Str → Option Value) → Heap → Prop} {YP : World → Heap → Prop} {d : DefRec}
    (hn : l.most = some n) (hdf : d.params.defaults = [])
    (call : ∀ (w : World) (s₀ s₁ : Shared) (mg mb : Str → Option Value) (fa : Addr) (o : Obj) (pm cd doc : Value) (a : Addr) (vs : List Value) (ns : List Int),
      Ground q loose [] XP w s₀ mg mb s₁.heap → YP w s₁.heap →
      s₁.heap.get? fa = some o → o.data = .func (docDef d.name d.params d.body d.scope pm cd doc) → s₁.heap.CodeRec cd d.name → mg d.name = some (.ref fa) →
      s₁.heap.get? a = some { cls := .type "list", data := .seq vs.toArray } → IntsAre vs ns → ns.length ≤ n → s₁.gens = #[] →
      codeAny (model l.prog w) callerA (.call (.ref fa) ⟨[.ref a], []⟩) (fun r s' => r = .ok (.ret (.bool true)) ∧ OldK s₁.heap s'.heap ∧ s'.os = s₁.os ∧ AllBare s'.gens) s₁) :
    WalkO q loose XP YP l.row.toRowW d [] (fun f vs => PySem.call f vs) := by
  intro w s₀ s₁ mg mb G Y fa o pm cd doc dV kV ho hd hcd hD hmg hg args vals as hpre hlay hrd hwl hlo
  obtain rfl : dV = .none := Dflts.none hD hdf
  obtain rfl : kV = .none := Dflts.noKw hD
  obtain ⟨a, vs, ns, rfl, rfl, hobj, hints, hlen⟩ := script_of hn hpre hwl
  refine enter_call (codeAny_mono (call w s₀ s₁ mg mb fa o pm cd doc a vs ns G Y ho (fd_plain hd) hcd hmg hobj hints hlen hg) fun r s' hq => ?_)
  obtain ⟨rfl, h2, h3, h4⟩ := hq
  exact ⟨.inl ⟨.bool true, .bool true, [], rfl, fun _ => rfl, .bool true, post_true l _, fun _ => ⟨List.Pairwise.nil, fun _ hm => (nomatch hm)⟩⟩, h2, h3, h4⟩


section
variable {prog : Program} {w : World} {A : Around} {E : Value → Shared → Prop} {s : Shared} {K : Frag}


end
end Att

namespace L2
open PySem PySem.Spec PyProof.Rows

theorem vals_ints : ∀ {vs : List Value} {ns : List Int}, IntsAre vs ns → Vals (ns.map V.int) vs
  | _, _, .nil => .nil
  | _, _, .cons n t h => .cons ⟨t, rfl⟩ (vals_ints h)


def Only (H : Hp) : Prop := ∀ b, H b = none ∨ ∃ o xs, H b = some (.frz o (.lst xs))


theorem law_call {P : Program} {w : World} {K : PySem.W.Frag} {mg mb : Str → Option Value} {CX : CXT} {k : Nat} {fa a : Addr} {fd : FuncData} {x : Str} {sp : Sp} {s₁ : Shared} {vs : List Value} {ns : List Int}
    (KX : K.In s₁.heap) (hns : s₁.heap.Ns mainGlobals mg) (hb : s₁.heap.Ns builtinsNs mb) (hbb : ∀ x : Str, x ≠ "__name__" → mb x = bootBuiltins x) (hlim : s₁.heap.NoLimit) (hg : s₁.gens = #[])
    (ha : s₁.heap.get? a = some { cls := .type "list", data := .seq vs.toArray }) (hi : IntsAre vs ns) (hl : ns.length ≤ sizeLine) (hr : Room k callerA)
    (F : ∀ base : Heap, K.In base → base.Ns mainGlobals mg → FnOk P w K mg base CX k fa fd [x] sp) (hbind : ∀ (s : Shared) (u : Value), BindsTo s fd ⟨[u], []⟩ [(x, u)])
    (hsp : ∀ H : Hp, Only H → SqL K H a (ns.map V.int) → sp [.ref a] H (fun v _ => v = .bl true) fun _ _ _ => False)
    (hCX : ∀ H e s', CX [] H s₁ (fun _ _ _ => False) e s' → False) :
    codeAny (model P w) callerA (.call (.ref fa) ⟨[.ref a], []⟩) (fun r s' => r = .ok (.ret (.bool true)) ∧ OldK s₁.heap s'.heap ∧ s'.os = s₁.os ∧ AllBare s'.gens) s₁ := by
  have rv := vals_ints hi
  have lenV := hi.length
  -- from an abstract heap in which nothing but the script may be tracked
  have core : ∀ H : Hp, Only H → SqL K H a (ns.map V.int) → HOk P w H s₁.heap → (∀ b, H b ≠ none → b = a) → (H a ≠ none → K.lookup a = none) →
      codeAny (model P w) callerA (.call (.ref fa) ⟨[.ref a], []⟩) (fun r s' => r = .ok (.ret (.bool true)) ∧ OldK s₁.heap s'.heap ∧ s'.os = s₁.os ∧ AllBare s'.gens) s₁ := by
    intro H hO hS hok hA hK
    have base_of : ∀ {b : Addr} {o : Obj}, s₁.heap.get? b = some o → H b = none → (hidT s₁.heap H).get? b = some o := fun e n => hidT_get e n
    have noA : ∀ {b : Addr} {o : Obj} {es : Array DictEntry} {ep : Nat}, s₁.heap.get? b = some o → o.data = .dict es ep → H b = none := fun {b o es ep} e d => by
      cases q : H b with
      | none => rfl
      | some u =>
        have e' : b = a := hA b (by rw [q]; simp)
        subst e'
        rw [ha] at e; cases e
        have d' : Data.seq vs.toArray _ = Data.dict es ep := d
        cases d'
    have nsK : ∀ {b : Addr} {m : Str → Option Value}, s₁.heap.Ns b m → (hidT s₁.heap H).Ns b m := fun {b m} ⟨o, es, ep, e, d, r⟩ => ⟨o, es, ep, base_of e (noA e d), d, r⟩
    have hKb : K.In (hidT s₁.heap H) := fun b o e => base_of (KX b o e) (by
      cases q : H b with
      | none => rfl
      | some u =>
        have e' : b = a := hA b (by rw [q]; simp)
        subst e'
        rw [hK (by rw [q]; simp)] at e; cases e)
    have hM : Mod K mg (hidT s₁.heap H) := ⟨hKb, nsK hns, ⟨mb, nsK hb, hbb⟩, let ⟨mc, h1, h2⟩ := hlim; ⟨mc, nsK h1, h2⟩⟩
    have e0 : Env0 P w K mg (hidT s₁.heap H) callerA [] s₁ H := ⟨rfl, hM, fun b o e => of_hidT e, Nat.le_of_eq (hidT_size _ _), trivial, fun b hb => absurd (show b ∈ ([] : List Addr) from hb) (by simp), hok, .of_eq hg⟩
    refine codeAny_mono ((F _ hKb (nsK hns)).run callerA [] s₁ H ⟨[.ref a], []⟩ [.ref a] [.ref a] _ _ hr e0 (hbind s₁ (.ref a)) (.cons rfl .nil) (hsp H hO hS)) fun r s' h => ?_
    cases r with
    | error e => exact (hCX H e s' h).elim
    | ok fl =>
      cases fl with
      | next => exact False.elim h
      | brk => exact False.elim h
      | cont => exact False.elim h
      | ret u =>
        obtain ⟨v, H', os, bare, un, hok', r', q⟩ := h
        have q' : v = .bl true := q
        subst q'
        obtain rfl : u = Value.bool true := r'
        refine ⟨rfl, OldK.of_keep fun b o e => ?_, os, bare⟩
        cases q : H b with
        | none => exact un.keep b o e q (by intro z; exact absurd (show b ∈ ([] : List Addr) from z) (by simp)) (by simp)
        | some u =>
          rcases hO b with z | ⟨ob, xs, z⟩
          · rw [q] at z; cases z
          · have z2 := un.frzs b ob _ z
            obtain ⟨e1, _⟩ := hok b _ z
            obtain ⟨e2, _⟩ := hok' b _ z2
            rw [e] at e1; cases e1
            exact e2
  cases hk : K.lookup a with
  | some o =>
    -- the script is one of the module's own objects
    have e := KX a o hk
    rw [ha] at e
    cases e
    refine core (fun _ => none) (fun _ => .inl rfl) (.inr ⟨_, vs.toArray, _, hk, rfl, rfl, rfl, by rw [List.size_toArray, lenV]; exact hl, by simpa using rv⟩) (fun b u z => by have z' : (none : Option HO) = some u := z; cases z') (fun b z => absurd rfl z) fun z => absurd rfl z
  | none =>
    refine core (fun b => if b = a then some (.frz { cls := .type "list", data := .seq vs.toArray } (.lst (ns.map V.int))) else none) (fun b => ?_) (.inl (.inr ⟨{ cls := .type "list", data := .seq vs.toArray }, if_pos rfl⟩)) (fun b u z => ?_) (fun b z => ?_) fun _ => hk
    · by_cases hb : b = a
      · exact .inr ⟨_, _, if_pos hb⟩
      · exact .inl (if_neg hb)
    · by_cases hb : b = a
      · have z' := (if_pos hb).symm.trans z
        cases z'
        subst hb
        exact ⟨ha, by rw [List.length_map]; exact hl, vs, _, rv, ha⟩
      · have z' := (if_neg hb).symm.trans z
        cases z'
    · by_cases hb : b = a
      · exact hb
      · exact absurd (if_neg hb) z
end L2

namespace L2
open PySem PySem.Spec PyProof.Rows

theorem walk_of {l : PySem.W.OpenLaw} {n k : Nat} {q : Program} {loose : List Str} {XP : (Str → Option Value) → Heap → Prop} {YP : World → Heap → Prop} {d : DefRec} {K : Params → PySem.W.Frag} {CX : World → CXT} {sp : World → Sp} {x : Str}
    (hn : l.most = some n) (hn2 : n ≤ sizeLine) (hdf : d.params.defaults = []) (hr : Room k callerA)
    (hY : ∀ (w : World) (h : Heap), YP w h → (K w.params).In h)
    (F : ∀ (w : World) (mg : Str → Option Value) (fa : Addr) (h : Heap), (K w.params).In h → h.Ns mainGlobals mg → mg d.name = some (.ref fa) →
      ∃ fd : FuncData, (∀ (s : Shared) (u : Value), BindsTo s fd ⟨[u], []⟩ [(x, u)]) ∧
        ∀ base : Heap, (K w.params).In base → base.Ns mainGlobals mg → FnOk l.prog w (K w.params) mg base (CX w) k fa fd [x] (sp w))
    (hsp : ∀ (w : World) (H : Hp) (a : Addr) (ns : List Int), ns.length ≤ n → Only H → SqL (K w.params) H a (ns.map V.int) → sp w [.ref a] H (fun v _ => v = .bl true) fun _ _ _ => False)
    (hCX : ∀ (w : World) (H : Hp) (s : Shared) (e : Value) (s' : Shared), CX w [] H s (fun _ _ _ => False) e s' → False) :
    PySem.W.WalkO q loose XP YP l.row.toRowW d [] (fun f vs => PySem.call f vs) := by
  refine Att.attach_call hn hdf fun w s₀ s₁ mg mb fa o pm cd doc a vs ns G Y ho hd hcd hmg hobj hints hlen hg => ?_
  have KX := hY w _ Y
  obtain ⟨fd, hb, hF⟩ := F w mg fa _ KX G.T.g hmg
  exact law_call KX G.T.g G.T.b G.T.builtins G.T.nolimit hg hobj hints (Nat.le_trans hlen hn2) hr hF hb (fun H hO hS => hsp w H a ns hlen hO hS) fun H e s' => hCX w H s₁ e s'

end L2




namespace L2
open PySem PySem.Spec PyProof.Rows



def inClass (s : Stmt) (j : Nat) : Stmt := match s with
  | .ClassDef _ _ _ body _ _ _ _ _ _ _ => body.getD j (.Pass ⟨0, 0, 0, 0⟩)
  | _ => .Pass ⟨0, 0, 0, 0⟩
def defArgs (s : Stmt) : Arguments := match s with
  | .FunctionDef _ a _ _ _ _ _ _ _ _ => a
  | _ => { posonlyargs := [], args := [], vararg := none, kwonlyargs := [], kw_defaults := [], kwarg := none, defaults := [] }
def defBody (s : Stmt) : List Stmt := match s with
  | .FunctionDef _ _ b _ _ _ _ _ _ _ => b
  | _ => []
def defScope (s : Stmt) : Scope := match s with
  | .FunctionDef _ _ _ _ _ _ sc _ _ _ => sc
  | _ => { kind := .function, names := [], isGenerator := false, isCoroutine := false }


abbrev CX0 : CXT := fun _ _ _ _ _ _ => False
abbrev E0 : XK := fun _ _ _ => False
structure Fun (K : PySem.W.Frag) (x qual : Str) (st : Stmt) (f : Addr) (fd : FuncData) : Prop where
  ex : ∃ (oc : Value) (od : Option Addr) (kV doc pm : Value) (an : Option Addr) (cdv ct : Value) (osl : Array (Option Value)),
    fd = PySem.W.fnOf x qual (defArgs st) (defBody st) (defScope st) .none kV doc pm an cdv ct ∧ K.lookup f = some ⟨oc, od, .func fd, osl⟩ ∧ PySem.W.codeIn K cdv qual = true
  kp : PySem.W.keepIn K (.ref f) = true
section
variable {P : Program} {w : World} {K : PySem.W.Frag} {mg : Str → Option Value} {base : Heap}

theorem Fun.ok {x qual : Str} {st : Stmt} {f : Addr} {fd : FuncData} {N ps : List Str} {k : Nat} {sp : Sp} (F : Fun K x qual st f fd) (S : FnScope N ps (defScope st)) (len : ∀ vs H Q E, sp vs H Q E → vs.length = ps.length)
    (hbody : ∀ (cdv : Value) (A : Around) (outer : List Env) (s : Shared) (H : Hp) (vs : List V) (Q : VK) (E : XK), Room k (A.deeper (envOfC qual (defScope st) s.heap.objs.size f cdv)) → sp vs H Q E →
      ∃ t, PSs (cxOf CX0 P w K mg base N qual (defScope st) f cdv A outer s H E).nox (defBody st) t ∧ t { nx := fun _ H' => Q .non H', rt := Q } (start N vs) H) : FnOk P w K mg base CX0 (k + 1) f fd ps sp := by
  obtain ⟨oc, od, kV, doc, pm, an, cdv, ct, osl, rfl, lk, hcd⟩ := F.ex
  refine fn_of lk hcd S len fun A outer s H vs Q E hr hsp => ?_
  obtain ⟨t, h, q⟩ := hbody cdv A outer s H vs Q E hr hsp
  exact ⟨t, h.nox, q⟩

theorem Fun.binds {x qual : Str} {st : Stmt} {f : Addr} {fd : FuncData} {ps : List Str} (F : Fun K x qual st f fd)
    (h : ∀ (kV doc pm : Value) (an : Option Addr) (cdv ct : Value) (us : List Value), us.length = ps.length → bindArgs (PySem.W.fnOf x qual (defArgs st) (defBody st) (defScope st) .none kV doc pm an cdv ct) ⟨us, []⟩ = pure (ps.zip us)) : Binds K fd ps [] := by
  obtain ⟨oc, od, kV, doc, pm, an, cdv, ct, osl, rfl, lk, hcd⟩ := F.ex
  exact .all (h kV doc pm an cdv ct)
theorem fun_mk {x qual : Str} {st : Stmt} {f : Addr} {oc : Value} {od an : Option Addr} {osl : Array (Option Value)} {kV doc pm cdv ct : Value} (l : K.lookup f = some ⟨oc, od, .func (PySem.W.fnOf x qual (defArgs st) (defBody st) (defScope st) .none kV doc pm an cdv ct), osl⟩)
    (c : PySem.W.codeIn K cdv qual = true) (k : PySem.W.keepIn K (.ref f) = true) : Fun K x qual st f (PySem.W.fnOf x qual (defArgs st) (defBody st) (defScope st) .none kV doc pm an cdv ct) := ⟨⟨oc, od, kV, doc, pm, an, cdv, ct, osl, rfl, l, c⟩, k⟩
end
section
variable {X : Cx}
theorem pv (i : Nat) {x : Str} {pos : Pos} (hN : X.N[i]? = some x := by rfl) (hv : Vis X.env.scope x := by first | exact Or.inl rfl | exact Or.inr (Or.inl rfl) | exact Or.inr (Or.inr rfl)) (hd : (x == ("__debug__" : Str)) = false := by decide)
    (hcd : (x == ("__classdict__" : Str)) = false := by decide) : PE X (.Name x pos) (tVar i) := pe_var hN hv hd hcd
end


theorem iteF {A B : Prop} (h : B) : if false = true then A else B := by
  rw [if_neg Bool.false_ne_true]
  exact h
theorem iteT {A B : Prop} (h : A) : if true = true then A else B := by
  rw [if_pos rfl]
  exact h
theorem ite2 {c A B : Prop} [Decidable c] (h1 : c → A) (h2 : ¬ c → B) : if c then A else B := by
  by_cases h : c
  · rw [if_pos h]
    exact h1 h
  · rw [if_neg h]
    exact h2 h
def Same (H H' : Hp) : Prop := ∀ b o, H b = some o → H' b = some o
theorem Same.refl (H : Hp) : Same H H := fun _ _ h => h
theorem Same.trans {H H1 H2 : Hp} (a : Same H H1) (b : Same H1 H2) : Same H H2 := fun c o h => b c o (a c o h)
theorem Same.free {H H' : Hp} (e : Same H H') {l : Addr} (h : H' l = Option.none) : H l = Option.none := by
  cases q : H l with
  | none => rfl
  | some o =>
    rw [e l o q] at h
    cases h
theorem Same.seq {K : PySem.W.Frag} {H H' : Hp} {a : Addr} {xs : List V} (e : Same H H') (h : SqL K H a xs) : SqL K H' a xs := by
  rcases h with (h | ⟨o, h⟩) | h
  · exact .inl (.inl (e _ _ h))
  · exact .inl (.inr ⟨o, e _ _ h⟩)
  · exact .inr h

end L2


set_option Elab.async false
set_option linter.all false
set_option maxRecDepth 100000
set_option maxHeartbeats 1000000
namespace L2
open PySem PySem.Spec PyProof.Rows


theorem closure_in {env : Env} : ∀ (names : List (Str × NameKind)) (cs0 : List (Str × Addr)), (∀ y ∈ names, y.2 = .free → ∃ c, env.cells.lookup y.1 = some c) →
    ∃ cl, (forIn names cs0 (fun (x : Str × NameKind) r => (do
      match x with
      | (name, kind) => if (kind == NameKind.free) = true then do let a ← cellOf env name; pure (ForInStep.yield ((name, a) :: r)) else pure (ForInStep.yield r)) : _ → _ → Sem (ForInStep (List (Str × Addr))))) = pure cl ∧
      (∀ p ∈ cl, p ∈ cs0 ∨ env.cells.lookup p.1 = some p.2) ∧ (∀ p ∈ cs0, p ∈ cl) ∧ (∀ y ∈ names, y.2 = .free → ∃ c, (y.1, c) ∈ cl)
  | [], cs0, _ => ⟨cs0, rfl, fun p h => .inl h, fun p h => h, fun y h => by cases h⟩
  | (n, k) :: r, cs0, h => by
    by_cases hk : k = .free
    · subst hk
      obtain ⟨c, hc⟩ := h (n, .free) (.head _) rfl
      obtain ⟨cl, e, h1, h2, h3⟩ := closure_in r ((n, c) :: cs0) fun y hy => h y (.tail _ hy)
      refine ⟨cl, ?_, fun p hp => ?_, fun p hp => h2 p (.tail _ hp), fun y hy hf => ?_⟩
      · rw [List.forIn_cons]
        have e1 : cellOf env n = pure c := by unfold cellOf; rw [hc]
        simp only [beq_self_eq_true, if_true, e1, pure_bind]
        exact e
      · rcases h1 p hp with q | q
        · rcases List.mem_cons.mp q with q | q
          · subst q; exact .inr hc
          · exact .inl q
        · exact .inr q
      · rcases List.mem_cons.mp hy with q | q
        · subst q; exact ⟨c, h2 _ (.head _)⟩
        · exact h3 y q hf
    · obtain ⟨cl, e, h1, h2, h3⟩ := closure_in r cs0 fun y hy => h y (.tail _ hy)
      refine ⟨cl, ?_, h1, h2, fun y hy hf => ?_⟩
      · rw [List.forIn_cons]
        have e1 : (k == NameKind.free) = false := by cases k <;> first | rfl | exact absurd rfl hk
        simp only [e1, Bool.false_eq_true, if_false, pure_bind]
        exact e
      · rcases List.mem_cons.mp hy with q | q
        · subst q; exact absurd hf hk
        · exact h3 y q hf
theorem lookup_relabel_inv {env : Env} : ∀ {names : List (Str × NameKind)} {x : Str} {k : NameKind}, (names.map fun (n, k) => if (k == NameKind.free && env.scope.kind == .function && env.kindOf n == some .cell) then (n, NameKind.cell) else (n, k)).lookup x = some k →
    ∃ k', names.lookup x = some k' ∧ (k = k' ∨ (k' = .free ∧ k = .cell))
  | [], _, _, h => by simp at h
  | (n, k0) :: r, x, k, h => by
    by_cases hx : x = n
    · subst hx
      refine ⟨k0, by simp, ?_⟩
      simp only [List.map_cons] at h
      split at h
      · rename_i hc
        simp only [Bool.and_eq_true, beq_iff_eq] at hc
        simp only [List.lookup_cons_self, Option.some.injEq] at h
        exact .inr ⟨hc.1.1, h.symm⟩
      · simp only [List.lookup_cons_self, Option.some.injEq] at h
        exact .inl h.symm
    · have hb : (x == n) = false := by simpa using hx
      simp only [List.map_cons] at h
      have e2 : ∀ k1, ((n, k1) :: r).lookup x = r.lookup x := fun k1 => by simp [List.lookup_cons, hb]
      split at h <;> (simp only [List.lookup_cons, hb] at h; obtain ⟨k', h1, h2⟩ := lookup_relabel_inv h; exact ⟨k', by rw [e2]; exact h1, h2⟩)


def compCx (X : Cx) (Nc : List Str) (scope : Scope) (cl : List (Str × Addr)) (C : Addr) (s2 : Shared) (H2 : Hp) (fp : List Addr) : Cx where
  prog := X.prog
  w := X.w
  K := X.K
  mg := X.mg
  base := X.base
  A := X.A
  N := Nc
  s₀ := s2
  H₀ := H2
  env := compEnvC scope cl C X.env
  outer := X.stack
  stack := X.stack
  ex := fp
  fn := fun _ => false
  calm := X.calm
  pn := []
  xe := fun _ _ => False

def iniC (js : List (Option Nat)) (σ : St) : St := js.map fun j => match j with
  | none => none
  | some i => (σ[i]?).join

def takesC (N Nc : List Str) (scope : Scope) : List (Option Nat) → Nat → Bool
  | [], i => i == Nc.length
  | none :: r, i => takesC N Nc scope r (i + 1)
  | some j :: r, i => (match Nc[i]?, N[j]? with
    | some x, some y => x == y && scope.names.lookup x == some .free
    | _, _ => false) && takesC N Nc scope r (i + 1)
theorem takesC_len {N Nc : List Str} {scope : Scope} : ∀ {js : List (Option Nat)} {i : Nat}, takesC N Nc scope js i = true → i + js.length = Nc.length
  | [], i, h => by simpa [takesC] using h
  | none :: r, i, h => by
    have := takesC_len (js := r) (i := i + 1) (by simpa [takesC] using h)
    simp only [List.length_cons]; omega
  | some j :: r, i, h => by
    simp only [takesC, Bool.and_eq_true] at h
    have := takesC_len (js := r) (i := i + 1) h.2
    simp only [List.length_cons]; omega
theorem takesC_at {N Nc : List Str} {scope : Scope} : ∀ {js : List (Option Nat)} {i k j : Nat}, takesC N Nc scope js i = true → js[k]? = some (some j) → ∃ x, Nc[i + k]? = some x ∧ N[j]? = some x ∧ scope.names.lookup x = some .free
  | [], i, k, j, h, e => by simp at e
  | none :: r, i, 0, j, h, e => by simp at e
  | none :: r, i, k + 1, j, h, e => by
    obtain ⟨x, h1, h2, h3⟩ := takesC_at (js := r) (i := i + 1) (k := k) (j := j) (by simpa [takesC] using h) (by simpa using e)
    exact ⟨x, by rw [← h1]; congr 1; omega, h2, h3⟩
  | some j0 :: r, i, 0, j, h, e => by
    simp only [takesC, Bool.and_eq_true] at h
    simp only [List.getElem?_cons_zero, Option.some.injEq] at e
    subst e
    cases e1 : Nc[i]? with
    | none => rw [e1] at h; simp at h
    | some x =>
      cases e2 : N[j0]? with
      | none => rw [e1, e2] at h; simp at h
      | some y =>
        rw [e1, e2] at h
        simp only [Bool.and_eq_true, beq_iff_eq] at h
        exact ⟨x, by simpa using e1, by rw [h.1.1], h.1.2⟩
  | some j0 :: r, i, k + 1, j, h, e => by
    simp only [takesC, Bool.and_eq_true] at h
    obtain ⟨x, h1, h2, h3⟩ := takesC_at (js := r) (i := i + 1) (k := k) (j := j) h.2 (by simpa using e)
    exact ⟨x, by rw [← h1]; congr 1; omega, h2, h3⟩

section
variable {X : Cx}
theorem lookup_mem {names : List (Str × NameKind)} {x : Str} {k : NameKind} (h : names.lookup x = some k) : (x, k) ∈ names := PySem.mem_of_lookup h


theorem codeAny_compLoop_all {prog : Program} {w : World} {A : Around} {R : Result → Shared → Prop} {s : Shared} {elt target iter : Expr} {ifs : List Expr} {scope : Scope} {pos : Pos} {it acc : Value} {env : Env} (I : Nat → Shared → Prop)
    (turn : ∀ n s, I n s → wpAny (model prog w) A (pyNext it) (fun r s₁ => match r with
      | none => R (.ok .next) s₁
      | some v => wpAny (model prog w) A (letOwnedTupleGo target it v) (fun _ s₁ => wpAny (model prog w) A (assign target env v) (fun _ s₂ =>
          wpAny (model prog w) A (forIn ifs true fun c r => if r = true then do let ok ← isTrue c env (eval c env); pure (ForInStep.yield ok) else pure (ForInStep.yield r)) (fun ok s₃ =>
            if ok = true then wpAny (model prog w) A (eval elt env) (fun x s₄ =>
              wpAny (model prog w) A (call (.builtin "list.append") [acc, x]) (fun _ s₅ => ∃ m, m < n ∧ I m s₅) (fun _ _ => False) s₄) (fun _ _ => False) s₃
            else ∃ m, m < n ∧ I m s₃) (fun _ _ => False) s₂) (fun _ _ => False) s₁) (fun _ _ => False) s₁) (fun _ _ => False) s)
    (n : Nat) (h : I n s) :
    codeAny (model prog w) A (.compLoop (.ListComp elt [⟨target, iter, ifs, 0⟩] scope pos) 0 it acc env) R s := by
  refine codeAny_loop rfl I (fun n s hI => ?_) n h
  show wpAny _ A ((compTurn (.ListComp elt [⟨target, iter, ifs, 0⟩] scope pos) 0 it acc env).onRaise (fun x => do noteFrame x env; theTreesLotGoes x)) _ _ s
  refine wpAny_noted ?_
  rw [compTurn_list]
  refine wpAny_bind (wpAny_standAt (wpAny_bind (wpAny_mono (turn n s hI) (fun r s₁ h₁ => ?_) fun _ _ h' => h'.elim)))
  cases r with
  | none => exact wpAny_pure h₁
  | some v =>
    refine wpAny_bind (wpAny_mono h₁ (fun _ s₁' h₁ => ?_) fun _ _ h' => h'.elim)
    refine wpAny_bind (wpAny_mono h₁ (fun _ s₂ h₂ => wpAny_bind (wpAny_mono h₂ (fun ok s₃ h₃ => ?_) fun _ _ h' => h'.elim)) fun _ _ h' => h'.elim)
    cases ok with
    | false => exact wpAny_pure ⟨rfl, h₃⟩
    | true =>
      exact wpAny_bind (wpAny_bind (wpAny_mono h₃ (fun x s₄ h₄ => wpAny_bind (wpAny_mono h₄ (fun _ s₅ h₅ => wpAny_pure (wpAny_pure ⟨rfl, h₅⟩)) fun _ _ h' => h'.elim)) fun _ _ h' => h'.elim))


def PIfs (X : Cx) (ifs : List Expr) (t : TT) : Prop :=
  ∀ (pins : List (Addr × Obj)) (s : Shared) (σ : St) (H : Hp) (Q : Bool → Hp → Prop), Inv X pins σ H s → t σ H Q →
    wpAny (model X.prog X.w) X.A (forIn ifs true fun c r => if r = true then do let ok ← isTrue c X.env (eval c X.env); pure (ForInStep.yield ok) else pure (ForInStep.yield r)) (TP X pins σ Q) X.xe s
def tYes : TT := fun _ H Q => Q true H
theorem pifs_nil : PIfs X [] tYes := fun pins s σ H Q I h => wpAny_tests_nil ⟨H, I, h⟩
theorem pifs_one {c : Expr} {t : TT} (h : PT X c t) : PIfs X [c] t := fun pins s σ H Q I hq => wpAny_tests_one (h pins s σ H Q I hq)


def KeepOn (L : List Nat) (σ σ' : St) : Prop := σ'.length = σ.length ∧ ∀ k, k ∉ L → σ'[k]? = σ[k]?
def OnlyG (g : TG) (L : List Nat) : Prop := ∀ v σ H (Q Q' : St → Hp → Prop), (∀ σ' H', KeepOn L σ σ' → Q σ' H' → Q' σ' H') → g v σ H Q → g v σ H Q'
def OnlyGs (g : TGs) (L : List Nat) : Prop := ∀ v σ H (Q Q' : St → Hp → Prop), (∀ σ' H', KeepOn L σ σ' → Q σ' H' → Q' σ' H') → g v σ H Q → g v σ H Q'
theorem KeepOn.refl {L : List Nat} {σ : St} : KeepOn L σ σ := ⟨rfl, fun _ _ => rfl⟩
theorem KeepOn.trans {L L' : List Nat} {a b c : St} (x : KeepOn L a b) (y : KeepOn L' b c) : KeepOn (L ++ L') a c :=
  ⟨y.1.trans x.1, fun k hk => (y.2 k fun z => hk (List.mem_append_right _ z)).trans (x.2 k fun z => hk (List.mem_append_left _ z))⟩
theorem only_name {i : Nat} : OnlyG (gName i) [i] := fun v σ H Q Q' hq h => hq _ _ ⟨by simp, fun k hk => by
  rw [List.getElem?_set_ne]
  intro z; subst z; exact hk (by simp)⟩ h
theorem only_nil : OnlyGs gNil [] := fun v σ H Q Q' hq h => ⟨h.1, hq _ _ KeepOn.refl h.2⟩
theorem only_cons {t : TG} {u : TGs} {L L' : List Nat} (h1 : OnlyG t L) (h2 : OnlyGs u L') : OnlyGs (gCons t u) (L ++ L') := fun v σ H Q Q' hq h => by
  obtain ⟨x, r, e, h⟩ := h
  exact ⟨x, r, e, h1 _ _ _ _ _ (fun σ' H' k1 q => h2 _ _ _ _ _ (fun σ2 H2 k2 q2 => hq _ _ (k1.trans k2) q2) q) h⟩
theorem only_tup {K : PySem.W.Frag} {n : Nat} {t : TGs} {L : List Nat} (h : OnlyGs t L) : OnlyG (gTup K n t) L := fun v σ H Q Q' hq q => by
  obtain ⟨a, xs, e1, e2, e3, q⟩ := q
  exact ⟨a, xs, e1, e2, e3, h _ _ _ _ _ hq q⟩


def tComp (wi : TI) (g : TG) (tt : TT) (te : TE) (js : List (Option Nat)) : TE := fun σ H Q => wi σ H fun J H1 => ∃ W : Nat → Nat → List V → Hp → Prop, (∃ m, W 0 m [] H1) ∧ ∀ i m acc H, W i m acc H →
  (J.stop i H ∧ acc.length ≤ sizeLine ∧ ∀ p, H p = none → Q (.ref p) (upd H p (.lst acc))) ∨
  (J.go i H ∧ acc.length < sizeLine ∧ ∀ x H', J.yld i H x H' → g x (iniC js σ) H' fun σ2 H2 => tt σ2 H2 fun b H3 => if b = true then te σ2 H3 fun v H4 => ∃ m', m' < m ∧ W (i + 1) m' (acc ++ [v]) H4 else ∃ m', m' < m ∧ W (i + 1) m' acc H3)


theorem sameBut_refl {C : Addr} {h : Heap} : Heap.SameBut C h h := by
  first | exact Heap.SameBut.refl | exact ⟨rfl, fun _ _ => rfl⟩

end
end L2


set_option Elab.async false
set_option linter.all false
set_option maxRecDepth 100000
set_option maxHeartbeats 1000000
namespace L2
open PySem PySem.Spec PyProof.Rows PySem.W PySem.Builtin.ObjectAttr PySem.Builtin.Getset_descriptor


def ExAt (x C : Addr) (h : Heap) : Prop := ∃ o, h.get? x = some o ∧ o.cls = .ref C

structure ExK (K : Frag) (C : Addr) : Prop where
  dk : hasDictIn K C = true
  ga : findIn K (.ref C) "__getattribute__" = some (some (.builtin "BaseException.__getattribute__"))
  gt : findIn K (.ref C) "__getattr__" = some none
  cl : findIn K (.ref C) "__class__" = some (some (.builtin "object.__class__"))
  gg : specialIn K (.builtin "object.__class__") "__get__" = some (some (.builtin "getset_descriptor.__get__"))
  tk : takesIn K (.builtin "object.__class__") = some true
  mo : mroIn K C (.type "object") = some true
  mb : mroIn K C (.type "BaseException") = some true
section
variable {K : Frag} {x C : Addr}
theorem ExAt.type {M : Model} {h : Heap} (I : ExAt x C h) : Looks M h (typeOf (.ref x)) (.ref C) := by
  obtain ⟨o, e, c⟩ := I
  exact c ▸ (Looks.ld e).andThen .now
theorem exa_find {M : Model} {h : Heap} (X : K.In h) (Z : ExK K C) : Looks M h (find (.ref x) (.ref C) "__class__") (.bind (.builtin "getset_descriptor.__get__") (.builtin "object.__class__")) := by
  have L3 := looks_takesIn (M := M) X Z.tk
  exact (looks_findIn (M := M) X Z.cl).andThen ((looks_specialIn X Z.gg).andThen
    ((show Looks M h (dataDescriptor? (some (.builtin "object.__class__")) (some (.builtin "getset_descriptor.__get__"))) (some (.builtin "getset_descriptor.__get__", .builtin "object.__class__")) from L3.andThen .now).andThen (Looks.tag .now)))
theorem exa_get {prog : Program} {w : World} {A : Around} {R : Result → Shared → Prop} {s : Shared} {tp : Value} (X : K.In s.heap) (I : ExAt x C s.heap) (Z : ExK K C) (hR : R (.ok (.ret (.ref C))) s) :
    codeAny (model prog w) A (.call (.builtin "getset_descriptor.__get__") ⟨[.builtin "object.__class__", .ref x, tp], []⟩) R s := by
  obtain ⟨hp, gn, dw, tk, os⟩ := s
  have L0 := I.type (M := model prog w)
  have L1 := looks_mroIn (M := model prog w) X Z.mo
  refine codeAny_call_builtin KF.slot_gs.plain KF.entry_gs (KF.slot_gs.check _ _ _ _ _ _ _ _ KF.type_class (KF.args_gs _ _ _) ?_)
  unfold Builtin.«getset_descriptor.__get__» descrGet; rw [dga_obj]; refine wpAny_bind (wpAny_pure ?_)
  unfold descrGetter descrCheckInstance descrNameAndClass isInstance; simp only [KF.owner_class]
  repeat lk
  refine ⟨Code.quiet_builtin _ (by decide +kernel), codeAny_builtin KF.entry_class ?_⟩; unfold Builtin.«object.__class__» shownTypeOf
  repeat lk
  exact hR
theorem exa_entry {prog : Program} {w : World} {A : Around} {E : Value → Shared → Prop} {s : Shared} {tk : Tok} {Q : Fin → Shared → Prop} (X : K.In s.heap) (I : ExAt x C s.heap) (Z : ExK K C) (hQ : Q (.done (.ret (.ref C))) s) :
    wpAny (model prog w) A (Builtin.«object.__getattribute__» ⟨[.ref x, .str "__class__" tk], []⟩) Q E s := by
  obtain ⟨hp, gn, dw, t, os⟩ := s
  have L0 := I.type (M := model prog w)
  have L2 := exa_find (M := model prog w) (x := x) X Z
  unfold Builtin.«object.__getattribute__»
  refine wpAny_bind (wpAny_pure (wpAny_bind (wpAny_pure (wpAny_bind (L0.at (wpAny_bind (L2.at ?_)))))))
  show wpAny _ _ (holding _ (call _ _) >>= ret) _ _ _
  exact wpAny_bind (wpAny_holding (wpAny_call (exa_get (s := ⟨hp, gn, dw, t, os⟩) X I Z (wpAny_pure hQ))))
theorem exa_check {M : Model} {A : Around} {E : Value → Shared → Prop} {s : Shared} {nameV : Value} {Q : Unit → Shared → Prop} (X : K.In s.heap) (I : ExAt x C s.heap) (Z : ExK K C) (hq : Q () s) :
    wpAny M A (checkBuiltinCall "BaseException.__getattribute__" ⟨[.ref x, nameV], []⟩) Q E s := by
  obtain ⟨hp, gn, dw, t, os⟩ := s
  have hk : builtinKind "BaseException.__getattribute__" = some .slot := by decide +kernel
  have hsplit : splitId "BaseException.__getattribute__" = some ("BaseException", "__getattribute__") := by decide +kernel
  have L0 := I.type (M := M)
  have L1 := looks_mroIn (M := M) X Z.mb
  have ha := F.args_bexc_ga (.ref x) nameV
  simp only [checkBuiltinCall, hk, hsplit]
  refine wpAny_bind ?_
  unfold isInstance
  refine wpAny_bind (L0.at (L1.at ?_))
  repeat (first | assumption | wp_step)
theorem exa_class {prog : Program} {w : World} {A : Around} {E : Value → Shared → Prop} {s : Shared} {Q : Option Value → Shared → Prop} (X : K.In s.heap) (I : ExAt x C s.heap) (Z : ExK K C) (hQ : Q (some (.ref C)) { s with toks := s.toks + 1 }) :
    wpAny (model prog w) A (getAttr? (.ref x) "__class__") Q E s := by
  obtain ⟨hp, gn, dw, tk, os⟩ := s
  have L0 := I.type (M := model prog w)
  have L1 := looks_findIn (M := model prog w) X Z.ga
  have L3 := looks_findIn (M := model prog w) X Z.gt
  have hb := (F.attrBase_ValueError.ga).bind (.ref x)
  unfold getAttr? getAttrBy? getAttrBy; refine wpAny_bind (wpAny_mkText (wpAny_bind (wpAny_attempt (wpAny_holding (wpAny_bind (L0.at (wpAny_bind (L1.at ?_))))))))
  show wpAny _ _ (getAttrByItsOwn _ _ _ _ _ _) _ _ _
  unfold getAttrByItsOwn hookBefore
  refine wpAny_bind (L3.at ?_)
  refine wpAny_bind (wpAny_attempt (wpAny_holding ?_))
  unfold callGetattribute
  show wpAny _ _ (boundAndCalled _ _ _) _ _ _
  unfold boundAndCalled
  rw [hb]
  refine wpAny_bind (wpAny_pure ?_)
  refine wpAny_call ?_
  refine codeAny_call_builtin F.attrBase_ValueError.ga.plain F.entry_bexc_ga (exa_check (s := ⟨hp, gn, dw, tk + 1, os⟩) X I Z (exa_entry (s := ⟨hp, gn, dw, tk + 1, os⟩) X I Z ?_))
  exact handed_on rfl (wpAny_pure hQ)
theorem exa_kit (Z : ExK K C) : KitX K (.ref x) (.ref C) (ExAt x C) where
  ty := fun _ _ _ I => I.type
  it := fun _ _ X _ => by
    obtain ⟨cdD, hcD, _⟩ := any_some Z.dk
    unfold clsIn at hcD
    split at hcD
    · rename_i c' d' cd' sl' ho
      intro A' Q' E' s' k q
      unfold isType loadHead; exact wpAny_bind (wpAny_loadPart (k _ _ (X _ _ ho)) (wpAny_pure q))
    · cases hcD
  ne := fun h tp dd its n sl X htp => by
    obtain ⟨cdD, hcD, _⟩ := any_some Z.dk
    refine Bool.eq_false_iff.mpr fun q => ?_
    have e : C = tp := Value.ref.inj (beq_iff_eq.mp q); subst e
    unfold clsIn at hcD
    split at hcD
    · rename_i c' d' cd' sl' ho
      have z := (X _ _ ho).symm.trans htp; cases z
    · cases hcD
  ca := fun X I k => exa_class X I Z k
end


def ExcO (e C : Addr) : HO := .ext (ExAt e C)

def tyIs (K : Frag) (H : Hp) (x : V) (c : Value) (b : Bool) : Prop :=
  (∃ t, TyOf K H x t ∧ kitOne K t c = some b) ∨ ∃ e C, x = .ref e ∧ H e = some (ExcO e C) ∧ ExK K C ∧ kitOne K (.ref C) c = some b

def cOf : V → Option Value
  | .ref a => some (.ref a)
  | .ty n => some (.type n)
  | _ => none
section
variable {X : Cx}
def rIsi (K : Frag) : List V → Hp → VK → Prop := fun xs H Q => ∃ x v c b, xs = [x, v] ∧ cOf v = some c ∧ tyIs K H x c b ∧ Q (.bl b) H
theorem call_isi : CallR X (.builtin "isinstance") (rIsi X.K) := by
  intro pins s σ H xs us Q I r h
  obtain ⟨x, v, c, b, rfl, hc, ht, q⟩ := h
  obtain ⟨u, u2, rfl, ru, ru2⟩ := r.two
  have e2 : u2 = c := by
    cases v with
    | ref a => have := (show u2 = Value.ref a from ru2); cases hc; exact this
    | ty n => have := (show u2 = Value.type n from ru2); cases hc; exact this
    | _ => cases hc
  subst e2
  have fin : ∀ tk, EP X pins σ Q (.bool b) { s with toks := tk } := fun tk => ⟨.bl b, H, I.tok tk, rfl, q⟩
  rcases ht with ⟨t, ty, e⟩ | ⟨e, C, rfl, hH, Z, e1⟩
  · exact isinst_ok I ru ty e fin
  · cases (show u = Value.ref e from ru)
    obtain ⟨p, _, _⟩ := (show ObjOk X.prog X.w H s.heap e (ExcO e C) from I.hok e _ hH)
    exact kia_one (exa_kit Z) I.kIn p e1 (fun z => nomatch z) fin
end
end L2


set_option Elab.async false
set_option linter.all false
set_option maxRecDepth 100000
set_option maxHeartbeats 1000000
namespace L2
open PySem PySem.Spec PyProof.Rows


theorem ObjOk.has {P : Program} {w : World} {H : Hp} {h : Heap} {a : Addr} {o : HO} (x : ObjOk P w H h a o) : ∃ u, h.get? a = some u := by
  induction o with
  | lst xs => obtain ⟨_, _, _, _, e⟩ := x; exact ⟨_, e⟩
  | tup xs => obtain ⟨_, _, _, o, e, _⟩ := x; exact ⟨_, e⟩
  | dK kvs => obtain ⟨_, _, _, _, o, _, _, e, _⟩ := x; exact ⟨_, e⟩
  | dT kvs => obtain ⟨_, _, _, _, o, _, _, e, _⟩ := x; exact ⟨_, e⟩
  | set S n => obtain ⟨o, _, _, _, e, _⟩ := x; exact ⟨_, e⟩
  | ins C dx fs => obtain ⟨_, _, _, e, _⟩ := x; exact ⟨_, e⟩
  | own y => exact x
  | xd fs => obtain ⟨_, ⟨_, _, _, e, _⟩, _⟩ := x; exact ⟨_, e⟩
  | rng lo hi => obtain ⟨_, _, _, e⟩ := x; exact ⟨_, e⟩
  | frz ob u _ => obtain ⟨e, _⟩ := x; exact ⟨_, e⟩
  | tbl ps => exact ⟨_, x⟩
  | met f y => exact ⟨_, x⟩
  | ext φ => obtain ⟨_, e, _⟩ := x; exact e


structure Fly (P : Program) (w : World) (outer : List Env) (H : Hp) (s : Shared) (H' : Hp) (B : Heap) (e : Addr) (C a0 : Value) (s' : Shared) : Prop where
  os : s'.os = s.os
  bare : AllBare s'.gens
  fly : Heap.FlyingW B outer e C a0 s'.heap
  hok : HOk P w H' B
  keep : ∀ b o, s.heap.get? b = some o → H b = none → b ∉ frs outer → B.get? b = some o
  slot : ∀ b o, s.heap.get? b = some o → b ∈ frs outer → (∀ vs, o.data ≠ .fields vs) → ∃ sl, s'.heap.get? b = some { o with slots := sl }
  free : ∀ b o, s.heap.get? b = some o → H b = none → H' b = none
  there : ∀ b o, s.heap.get? b = some o → b ∉ frs outer → ∃ o', B.get? b = some o'
  tups : ∀ b xs, H b = some (.tup xs) → H' b = some (.tup xs)
  frzs : ∀ b o u, H b = some (.frz o u) → H' b = some (.frz o u)
  tbls : ∀ b ps, H b = some (.tbl ps) → ∃ more, H' b = some (.tbl (ps ++ more))
def CXE (P : Program) (w : World) : CXT := fun outer H s E ev s' => ∃ e C a0 H' B, ev = .ref e ∧ Fly P w outer H s H' B e C a0 s' ∧ E C none H'
theorem passE {P : Program} {w : World} {X : Cx} : Passes (CXE P w) X E0 := fun _ _ _ _ _ _ _ ⟨_, _, _, _, _, _, _, z⟩ => z.elim

section
variable {P : Program} {w : World} {K : PySem.W.Frag} {mg : Str → Option Value} {base : Heap} {N : List Str} {qual : Str} {scope : Scope} {f : Addr} {cd : Value} {A : Around} {outer : List Env} {s : Shared} {H : Hp} {E : XK}

theorem raise_leaves {pins : List (Addr × Obj)} {σ : St} {H1 : Hp} {s1 : Shared} {h' : Heap} {e : Addr} {C : Value} {vs : List Value} (I : Inv (cxOf (CXE P w) P w K mg base N qual scope f cd A outer s H E) pins σ H1 s1)
    (hx : Heap.MadeExcOf s1.heap h' e C vs) (hE : E C none H1) : (cxOf (CXE P w) P w K mg base N qual scope f cd A outer s H E).xe (.ref e) { s1 with heap := h' } := by
  let env := envOfC qual scope s.heap.objs.size f cd
  let B := PySem.W.hideAll s1.heap (frs (env :: outer))
  have hin : ∀ en ∈ (env :: outer), ∀ b, en.frame = some b → b ∈ frs (env :: outer) := fun en he b hb => List.mem_filterMap.mpr ⟨en, he, hb⟩
  have st : s1.heap.FunFrames base (env :: outer) := I.stack
  have loc : ∀ b, b ∈ frs (env :: outer) → b = s.heap.objs.size ∨ b ∈ frs outer := fun b hb => List.mem_cons.mp (I.stkSub b hb)
  have old : ∀ b o, s.heap.get? b = some o → b ∉ frs outer → b ∉ frs (env :: outer) := fun b o q nb hb => by
    rcases loc b hb with z | z
    · exact absurd (Heap.lt_size q) (by rw [z]; exact Nat.lt_irrefl _)
    · exact nb z
  have un : Un (frs outer) [] H H1 s.heap s1.heap := I.base
  have hokB : HOk P w H1 B := fun a o q => by
    have nf : ∀ b o, H1 b = some o → b ∉ frs (env :: outer) := fun b o z hb => by
      have := I.stkFree b hb
      rw [this] at z; cases z
    refine (I.hok a o q).stay (fun b u hb z => ?_) (fun _ z => z) fun _ _ z => z
    rcases hb with hb | hb
    · rw [hb] at z ⊢; exact PySem.W.hideAll_get _ z (nf a o q)
    · exact PySem.W.hideAll_get _ z (nf b _ hb)
  refine wpAny_leaves_madeW (base := B) (h := s1.heap) (env := env) (outer := outer) (L := s.heap.objs.size) I.ok.frames rfl (fun b o q => PySem.W.of_hideAll _ q) (PySem.W.funFrames_hide st hin) hx fun h2 t x1 x2 x3 x4 => ?_
  refine ⟨e, C, .ref t, H1, B, rfl, ⟨I.os, I.bare, x1, hokB, fun b o q n nb => ?_, fun b o q hb hd => ?_, fun b o q n => un.free b o q n (by simp), fun b o q nb => ?_, un.tups, un.frzs, un.tbls⟩, hE⟩
  · exact PySem.W.hideAll_get _ (un.keep b o q n nb (by simp)) (old b o q nb)
  · obtain ⟨sl, z⟩ := un.slot b o q (I.ok.frf b hb) hb (by simp)
    obtain ⟨sl2, z2⟩ := x4 b _ (hx.keeps _ _ z) hd
    exact ⟨sl2, z2⟩
  · obtain ⟨o', z⟩ := un.there b o q (by simp)
    exact ⟨o', PySem.W.hideAll_get _ z (old b o q nb)⟩

theorem pass_on : Passes (CXE P w) (cxOf (CXE P w) P w K mg base N qual scope f cd A outer s H E) E := by
  intro pins σ H1 s1 ev s2 I h
  obtain ⟨e, C, a0, H', B, rfl, F, hE⟩ := h
  let env := envOfC qual scope s.heap.objs.size f cd
  have un : Un (frs outer) [] H H1 s.heap s1.heap := I.base
  have loc : ∀ b, b ∈ frs (env :: outer) → b = s.heap.objs.size ∨ b ∈ frs outer := fun b hb => List.mem_cons.mp (I.stkSub b hb)
  have old : ∀ b o, s.heap.get? b = some o → b ∉ frs outer → b ∉ frs (env :: outer) := fun b o q nb hb => by
    rcases loc b hb with z | z
    · exact absurd (Heap.lt_size q) (by rw [z]; exact Nat.lt_irrefl _)
    · exact nb z
  refine wpAny_leaves_onW (env := env) (outer := outer) (L := s.heap.objs.size) I.ok.frames rfl F.fly fun h2 x1 x2 => ?_
  refine ⟨e, C, a0, H', B, rfl, ⟨F.os.trans I.os, F.bare, x1, F.hok, fun b o q n nb => F.keep b o (un.keep b o q n nb (by simp)) (un.free b o q n (by simp)) (old b o q nb), fun b o q hb hd => ?_, fun b o q n => ?_, fun b o q nb => ?_, fun b xs z => F.tups b xs (un.tups b xs z), fun b o u z => F.frzs b o u (un.frzs b o u z), fun b ps z => ?_⟩, hE⟩
  · obtain ⟨sl, z⟩ := un.slot b o q (I.ok.frf b hb) hb (by simp)
    obtain ⟨en, he, hf⟩ := List.mem_filterMap.mp hb
    obtain ⟨sl2, z2⟩ := F.slot b _ z (List.mem_filterMap.mpr ⟨en, .tail _ he, hf⟩) hd
    obtain ⟨sl3, z3⟩ := x2 b _ z2 hd
    exact ⟨sl3, z3⟩
  · by_cases hb : b ∈ frs outer
    · have h1 : H1 b = none := un.free b o q n (by simp)
      obtain ⟨sl, z⟩ := un.slot b o q n hb (by simp)
      exact F.free b _ z h1
    · exact F.free b o (un.keep b o q n hb (by simp)) (un.free b o q n (by simp))
  · obtain ⟨o', z⟩ := un.there b o q (by simp)
    exact F.there b o' z (old b o q nb)
  · obtain ⟨m1, z1⟩ := un.tbls b ps z
    obtain ⟨m2, z2⟩ := F.tbls b _ z1
    exact ⟨m1 ++ m2, by rw [← Array.append_assoc]; exact z2⟩
end


abbrev bmV : List Value := [.type "ValueError", .type "Exception", .type "BaseException", .type "object"]
abbrev newV : String := "ValueError.__new__"
theorem own_mk {K : PySem.W.Frag} {h : Heap} {mg : Str → Option Value} {x : Str} {C : Addr} (X : K.In h) (hm : mg x = some (.ref C)) (q : PySem.W.excIn K C bmV newV = true) : OwnCls x C bmV newV mg h := by
  refine ⟨hm, ?_⟩
  unfold PySem.W.excIn at q; split at q
  · rename_i dd cd sl ho
    split at q
    · rename_i C' bm k0 k1 k2 k3 n k5 hmm hs
      simp only [Bool.and_eq_true, beq_iff_eq, Bool.not_eq_true'] at q; obtain ⟨⟨⟨⟨⟨rfl, rfl⟩, hdel⟩, ht⟩, hok⟩, hni⟩ := q
      obtain ⟨nm, bs, mro, ns, qn, hd, sn, sub, ab, col, del⟩ := cd; dsimp only at hmm hdel hok hni; subst hmm hdel
      have hsl : sl = #[k0, k1, k2, k3, some (.builtin newV), k5] := by obtain ⟨l⟩ := sl; simp only at hs; rw [hs]
      subst hsl; exact ⟨bm, ns, nm, qn, bs, hd, sn, sub, ab, col, dd, k0, k1, k2, k3, k5, _, X _ _ ho, .of_isNs (PySem.W.isNs_of_in X hok), PySem.W.nsMap_none_of_in X hok hni, PySem.W.tail_of_in X ht⟩
    · cases q
  · cases q
section
variable {X : Cx}
def tRaise (C : Addr) (E : XK) (t : TA) : TS := fun _ σ H => t σ H fun vs H1 => vs.length ≤ sizeLine ∧ E (.ref C) none H1
theorem ps_raise {x : Str} {C : Addr} {np cpos pos : Pos} {e0 : Expr} {es : List Expr} {t : TA} {E : XK} (hc : X.calm = true) (hg : Gl X x) (hm : X.mg x = some (.ref C)) (q : PySem.W.excIn X.K C bmV newV = true) (ha : PA X (e0 :: es) t)
    (hx : ∀ pins σ H s h' e vs, Inv X pins σ H s → Heap.MadeExcOf s.heap h' e (.ref C) vs → E (.ref C) none H → X.xe (.ref e) { s with heap := h' })
    (he : starEach (e0 :: es) X.env = (false, eval e0 X.env) :: starEach es X.env := by rfl) (hpl : (backTo cpos (starEach es X.env)).any (·.1) = false := by rfl) (hd : (x == ("__debug__" : Str)) = false := by decide) :
    PS X (.Raise (some (.Call (.Name x np) (e0 :: es) [] cpos)) none pos) (tRaise C E t) := by
  intro pins s σ H D I h
  obtain ⟨tl, Nn, nm, qn, bs, hdct, sn, sub, ab, col, dd, k0, k1, k2, k3, k5, mN, hC, hN, hni, T⟩ := (own_mk (x := x) I.mod.kin hm q).obj
  refine wpAny_Raise_call_subT (C := C) (nm := nm) (q := qn) (N := Nn) (bs := bs) (bm := tl) (hdct := hdct) (sn := sn) (sub := sub) (ab := ab) (col := col) (dd := dd) (k0 := k0) (k1 := k1) (k2 := k2) (k3 := k3) (k5 := k5)
    PySem.F.excBase_ValueError (mN := mN) (T.hasType PySem.F.excBase_ValueError.hasBase) (I.ok.hd hc) (by rw [he]; show (false || (backTo cpos (starEach es X.env)).any (·.1)) = false; rw [hpl]; rfl) hni (ld_glob I hg hm ⟨rfl, ?_⟩ hd)
  have h2 := ha cpos pins s σ H _ I h
  rw [he] at h2 ⊢
  exact Calls.evalArgs_plain (thn h2 fun us s2 ⟨vs, H2, I2, r, z, q2⟩ => ⟨rfl, by rw [← r.length]; exact z, I2.bk _ _ hC, hN.keeps I2.bk, T.keeps I2.bk, fun h' e hm' => hx pins σ H2 s2 h' e us I2 hm' q2⟩)
end
end L2


set_option Elab.async false
set_option linter.all false
set_option maxRecDepth 100000
set_option maxHeartbeats 1000000
namespace L2
open PySem PySem.Spec PyProof.Rows



section
variable {X : Cx}
def tCallX (sp : Sp) (E : St → XK) (t : TA) : TE := fun σ H Q => t σ H fun vs H1 => sp vs H1 Q (E σ)
end


section
variable {P : Program} {w : World} {K : PySem.W.Frag} {mg : Str → Option Value} {base : Heap}
theorem Fun.okX {x qual : Str} {st : Stmt} {f : Addr} {fd : FuncData} {N ps : List Str} {k : Nat} {sp : Sp} (F : Fun K x qual st f fd) (S : FnScope N ps (defScope st)) (len : ∀ vs H Q E, sp vs H Q E → vs.length = ps.length)
    (hbody : ∀ (cdv : Value) (A : Around) (outer : List Env) (s : Shared) (H : Hp) (vs : List V) (Q : VK) (E : XK), Room k (A.deeper (envOfC qual (defScope st) s.heap.objs.size f cdv)) → sp vs H Q E →
      ∃ t, PSs (cxOf (CXE P w) P w K mg base N qual (defScope st) f cdv A outer s H E) (defBody st) t ∧ t { nx := fun _ H' => Q .non H', rt := Q } (start N vs) H) : FnOk P w K mg base (CXE P w) (k + 1) f fd ps sp := by
  obtain ⟨oc, od, kV, doc, pm, an, cdv, ct, osl, rfl, lk, hcd⟩ := F.ex
  exact fn_of lk hcd S len fun A outer s H vs Q E hr hsp => hbody cdv A outer s H vs Q E hr hsp
end
end L2


set_option Elab.async false
set_option linter.all false
set_option maxRecDepth 100000
set_option maxHeartbeats 1000000
namespace L2
open PySem PySem.Spec PyProof.Rows PySem.W



theorem ints_of : ∀ {ns : List Int} {us : List Value}, Vals (ns.map V.int) us → ∃ xs : Array (Int × Tok), us.toArray = intItems xs ∧ xs.toList.map (·.1) = ns
  | [], _, .nil => ⟨#[], by simp [intItems], rfl⟩
  | n :: ns, _, .cons (b := u) r t => by
    obtain ⟨tk, rfl⟩ := (show ∃ t, u = Value.int n t from r)
    obtain ⟨xs, e1, e2⟩ := ints_of t
    refine ⟨#[(n, tk)] ++ xs, ?_, by simp [e2]⟩
    have : ∀ (l : List Value), (Value.int n tk :: l).toArray = #[Value.int n tk] ++ l.toArray := fun l => by simp
    rw [this, e1]
    simp [intItems]
section
variable {X : Cx}
theorem op_mulX : OpR X (binaryOp .Mult) (rI IntMulOk fun i j => .int (i * j)) := opI fun _ _ _ _ _ _ _ hc q => mul_int q hc
def rSum (K : Frag) : List V → Hp → VK → Prop := fun xs H Q => ∃ (p : Addr) (ns : List Int), xs = [.ref p] ∧ SqL K H p (ns.map V.int) ∧ Q (.int ns.sum) H
def rCount : V → List V → Hp → VK → Prop := fun x vs H Q => ∃ l xs y, x = .ref l ∧ vs = [y] ∧ H l = some (.lst xs) ∧ (∃ b, y = .bl b) ∧ (∀ z ∈ xs, ∃ b, z = .bl b) ∧ Q (.int (xs.countP fun z => decide (z = y))) H
def Itv (K : Frag) (a : Addr) (n : Nat) : It :=
  ⟨fun i H => i < n ∧ ∃ xs, SqL K H a xs ∧ xs.length = n, fun i H x H' => H' = H ∧ ∀ xs, SqL K H a xs → xs[n - 1 - i]? = some x, fun i _ => n ≤ i⟩
def iRev (K : Frag) (ta : TA) : TI := fun σ H R => ta σ H fun vs H1 => ∃ a xs, vs = [.ref a] ∧ SqL K H1 a xs ∧ R (Itv K a xs.length) H1
def PJ (X : Cx) (es : List (Sem Value)) (t : St → Hp → (Hp → Prop) → Prop) : Prop :=
  ∀ (out : Str) (pins : List (Addr × Obj)) (s : Shared) (σ : St) (H : Hp) (Q : Hp → Prop), out.length + 2000 * es.length ≤ 100000 → Inv X pins σ H s → t σ H Q →
    wpAny (model X.prog X.w) X.A (joinParts out es) (fun u s' => ∃ y tk H', u = .str y tk ∧ Inv X pins σ H' s' ∧ Q H') X.xe s
theorem pj_nil : PJ X [] (fun _ H Q => Q H) := fun out pins s σ H Q hl I h =>
  joinParts_nil ⟨out, _, H, rfl, I.tok _, h⟩ (by simp at hl; exact Nat.le_trans hl (by decide))
theorem pj_text {x : Str} {j : Nat} {pos : Pos} {es : List (Sem Value)} {t : St → Hp → (Hp → Prop) → Prop} (hx : x.length ≤ 2000) (h : PJ X es t) : PJ X (eval (.Constant (.str x) j pos) X.env :: es) t := by
  intro out pins s σ H Q hl I hq
  have hl' : (out ++ x).length + 2000 * es.length ≤ 100000 := by rw [PySem.strLen_append]; simp at hl; omega
  refine joinParts_cons (Calls.Constant_str ⟨Nat.le_trans (Nat.le_trans (Nat.le_add_right _ _) hl') (by decide), ?_⟩)
  exact h _ pins _ σ H Q hl' (I.tok _) hq

theorem log_small {i : Int} (h0 : 0 ≤ i) (h1 : i < 10 ^ 18) : i.natAbs.log2 < 1920 := by
  by_cases hz : i.natAbs = 0
  · rw [hz]; decide
  · have h3 : i.natAbs < 2 ^ 60 := by
      have : (2 : Nat) ^ 60 = 1152921504606846976 := by decide
      have h2 : (10 : Int) ^ 18 = 1000000000000000000 := by decide
      omega
    exact Nat.lt_of_lt_of_le ((Nat.log2_lt hz).mpr h3) (by decide)
theorem pj_int {e : Expr} {pos : Pos} {es : List (Sem Value)} {te : TE} {t : St → Hp → (Hp → Prop) → Prop} (he : PE X e te) (h : PJ X es t) : PJ X (eval (.FormattedValue e (-1) none pos) X.env :: es) (fun σ H Q => te σ H fun x H1 => ∃ i : Int, x = .int i ∧ (0 ≤ i ∧ i < 10 ^ 18) ∧ t σ H1 Q) := by
  intro out pins s σ H Q hl I hq
  refine joinParts_cons (FormattedValue_plain (thn (he pins s σ H _ I hq) fun u s1 ⟨x, H1, I1, r1, i, ex, ⟨h0, h1⟩, q⟩ => ?_))
  subst ex
  obtain ⟨tk, rfl⟩ := (show ∃ t, u = Value.int i t from r1)
  refine wpAny_formatField_int (log_small h0 h1) ?_
  have hx : (Str.ofString (toString i)).length ≤ 18 := toString_length_le h0 (by decide) h1
  have hl' : (out ++ Str.ofString (toString i)).length + 2000 * es.length ≤ 100000 := by rw [PySem.strLen_append]; simp at hl; omega
  refine ⟨Nat.le_trans (Nat.le_trans (Nat.le_add_right _ _) hl') (by decide), ?_⟩
  exact h _ pins _ σ H1 Q hl' (I1.tok _) q
theorem each_len (env : Env) : ∀ l : List Expr, (evalEach l env).length = l.length
  | [] => rfl
  | e :: r => by
    have : evalEach (e :: r) env = eval e env :: evalEach r env := rfl
    rw [this, List.length_cons, List.length_cons, each_len env r]
theorem pe_joined {e1 e2 : Expr} {rest : List Expr} {pos : Pos} {t : St → Hp → (Hp → Prop) → Prop} (h : PJ X (eval e1 X.env :: eval e2 X.env :: evalEach rest X.env) t) (hn : rest.length ≤ 20 := by decide) :
    PE X (.JoinedStr (e1 :: e2 :: rest) pos) (fun σ H Q => t σ H fun H1 => ∀ y, Q (.str y) H1) := by
  intro pins s σ H Q I hq
  have hle := each_len X.env rest
  refine JoinedStr_many (thn (h Str.empty pins s σ H _ (by simp only [List.length_cons, hle]; show 0 + _ ≤ _; omega) I hq) fun u s' ⟨y, tk, H', e, I', q⟩ => ?_)
  subst e
  exact ⟨.str y, H', I', ⟨tk, rfl⟩, q y⟩
end
end L2


set_option Elab.async false
set_option linter.all false
set_option maxRecDepth 100000
set_option maxHeartbeats 1000000
namespace L2
open PySem PySem.Spec PyProof.Rows PySem.W


def clsAt (mg : Str → Option Value) (x : Str) : Addr := match mg x with
  | some (.ref C) => C
  | _ => 0
def tokAt (mg : Str → Option Value) (x : Str) : Tok := match mg x with
  | some (.int _ t) => t
  | _ => default
def Callee (P : Program) (w : World) (K : Frag) (mg : Str → Option Value) (base : Heap) (x : Str) (k : Nat) (ps : List Str) (sp : Sp) : Prop :=
  ∃ f fd, mg x = some (.ref f) ∧ keepIn K (.ref f) = true ∧ Binds K fd ps [] ∧ FnOk P w K mg base (CXE P w) k f fd ps sp
section
variable {X : Cx}
theorem ps_nox {st : Stmt} {t : TS} (h : PS X.nox st t) : PS X st t := fun pins s σ H D I hw =>
  wpAny_mono (h pins s σ H D (I.wish _) hw) (fun _ _ q => q.unwish) fun _ _ z => False.elim z
theorem pe_callF {x : Str} {k : Nat} {ps : List Str} {sp : Sp} {E : XK} {e : Expr} {es : List Expr} {t : TA} {p pos : Pos} (C : Callee X.prog X.w X.K X.mg X.base x k ps sp) (hr : Room k X.A) (hg : Gl X x) (hx : Passes (CXE X.prog X.w) X E)
    (ha : PA X (e :: es) t) (hdb : (x == ("__debug__" : Str)) = false := by decide) (he : starEach (e :: es) X.env = (false, eval e X.env) :: starEach es X.env := by rfl) (hpl : (backTo pos (starEach es X.env)).any (·.1) = false := by rfl) :
    PE X (.Call (.Name x p) (e :: es) [] pos) (tCall sp [] E t) := by
  obtain ⟨f, fd, hm, hk, hb, F⟩ := C
  exact pe_call F hr hg hm hk hb .nil hx ha hdb he hpl
theorem raisesE {P : Program} {w : World} {K : Frag} {mg : Str → Option Value} {base : Heap} {N : List Str} {qual : Str} {scope : Scope} {f : Addr} {cd : Value} {A : Around} {outer : List Env} {s0 : Shared} {H0 : Hp} {E : XK} {C : Addr} :
    ∀ pins σ H s h' e vs, Inv (cxOf (CXE P w) P w K mg base N qual scope f cd A outer s0 H0 E) pins σ H s → Heap.MadeExcOf s.heap h' e (.ref C) vs → E (.ref C) none H → (cxOf (CXE P w) P w K mg base N qual scope f cd A outer s0 H0 E).xe (.ref e) { s with heap := h' } :=
  fun _ _ _ _ _ _ _ I hx hE => raise_leaves I hx hE
end
theorem bt_max : bootBuiltins "max" = some (.builtin "max") := by decide +kernel
theorem bt_min : bootBuiltins "min" = some (.builtin "min") := by decide +kernel
theorem bt_isinstance : bootBuiltins "isinstance" = some (.builtin "isinstance") := by decide +kernel
theorem bt_list : bootBuiltins "list" = some (.type "list") := by decide +kernel
theorem bt_tuple : bootBuiltins "tuple" = some (.type "tuple") := by decide +kernel
theorem bt_int : bootBuiltins "int" = some (.type "int") := by decide +kernel
theorem bt_bool : bootBuiltins "bool" = some (.type "bool") := by decide +kernel
end L2


set_option Elab.async false
set_option linter.all false
set_option maxRecDepth 100000
set_option maxHeartbeats 1000000
namespace L2
open PySem PySem.Spec PyProof.Rows PySem.W


section
variable {X : Cx} {pins : List (Addr × Obj)} {σ : St} {H : Hp} {s : Shared} {h' : Heap}

theorem Inv.turnedL {t' : Nat} {fp : List Addr} (I : Inv X pins σ H s) (k : ∀ b o, b ∉ fp → s.heap.get? b = some o → h'.get? b = some o) (hf : ∀ b ∈ fp, FpOk X pins H b) : Inv X pins σ H { s with heap := h', toks := t' } := by
  have nit : ∀ b u, H b = some u → b ∉ fp := fun b u e z => by rw [(hf b z).1] at e; cases e
  refine I.step (g' := s.gens) (d' := s.drawn) (ch := fp) (fun b hb => ?_) (fun b o _ _ hc e _ => k b o hc e) (fun b o _ _ hc e _ => ⟨o.slots, k b o hc e⟩) (fun _ _ _ _ n => n)
    (fun b o hc e => ⟨o, k b o hc e⟩) (fun _ _ e => e) (fun _ _ _ e => e) (fun b ps e => ⟨#[], by rw [e]; simp⟩) (fun m hm => ?_) (fun b u e => ?_) I.bare
  · obtain ⟨_, f1, _, f3, f4, f5⟩ := hf b hb
    exact ⟨f3, f1, f4, f5⟩
  · obtain ⟨o, es, ep, ho, r⟩ := hm
    exact ⟨o, es, ep, k _ o (fun z => (hf _ z).2.1 rfl) ho, r⟩
  · refine (I.hok b u e).stay (fun c v hc q => k c v ?_ q) (fun _ q => q) fun _ _ q => q
    rcases hc with z | z
    · rw [z]; exact nit b u e
    · exact nit c _ z

def Itz (K : Frag) (a b : Addr) : It :=
  ⟨fun i H => ∃ xs ys x y, SqL K H a xs ∧ SqL K H b ys ∧ xs[i]? = some x ∧ ys[i]? = some y,
   fun i H v H' => ∃ p x y, H p = none ∧ v = .ref p ∧ H' = upd H p (.tup [x, y]) ∧ (∀ xs, SqL K H a xs → xs[i]? = some x) ∧ ∀ ys, SqL K H b ys → ys[i]? = some y,
   fun i H => ∃ xs ys, SqL K H a xs ∧ SqL K H b ys ∧ (xs.length ≤ i ∨ ys.length ≤ i)⟩
def iZip (K : Frag) (ta : TA) : TI := fun σ H R => ta σ H fun vs H1 => ∃ a b xs ys, vs = [.ref a, .ref b] ∧ SqL K H1 a xs ∧ SqL K H1 b ys ∧ R (Itz K a b) H1
theorem boot_zip' : bootBuiltins "zip" = some (.type "zip") := by decide +kernel
end
end L2


set_option Elab.async false
set_option linter.all false
set_option maxRecDepth 100000
set_option maxHeartbeats 1000000
namespace L2
open PySem PySem.Spec PyProof.Rows PySem.W


theorem cxK {CX : CXT} {P : Program} {w : World} {K : Frag} {mg : Str → Option Value} {base : Heap} {N : List Str} {qual : Str} {scope : Scope} {f : Addr} {cd : Value} {A : Around} {outer : List Env} {s : Shared} {H : Hp} {E : XK} :
    (cxOf CX P w K mg base N qual scope f cd A outer s H E).K = K := rfl
theorem Same.upd {H H1 : Hp} {p : Addr} {o : HO} (h : H p = none) (e : Same H H1) : Same H (upd H1 p o) := fun b u z => by
  rw [upd_ne (ne_of_none z h)]; exact e b u z
theorem Same.upd' {H H1 : Hp} {p : Addr} {o : HO} (e : Same H H1) (h : H1 p = none) : Same H (L2.upd H1 p o) := e.upd (e.free h)
theorem pg_tupK {X : Cx} {K : Frag} {es : List Expr} {pos : Pos} {k : Nat} {t : TGs} {n : Nat} (hK : X.K = K) (hc : X.calm = true) (h : PGs X es t)
    (hn : (assignEach es X.env).length = n := by rfl) (hst : (assignEach es X.env).findIdx? (·.1) = none := by rfl) : PG X (.Tuple es k pos) (gTup K n t) := hK ▸ pg_tup hc h hn hst

def LoopR (J : It) (g : TG) (tb : TS) (D : Ends) (σ : St) (H1 : Hp) : Prop := ∃ W : Nat → Nat → St → Hp → Prop, (∃ m, W 0 m σ H1) ∧ ∀ i m σ H, W i m σ H →
  (J.stop i H ∧ D.nx σ H) ∨ (J.go i H ∧ ∃ N : St → Hp → Prop, (∀ σ' H', N σ' H' → ∃ m', m' < m ∧ W (i + 1) m' σ' H') ∧ ∀ x H', J.yld i H x H' → g x σ H' fun σ2 H2 => tb { D with nx := N, ct := N, bk := D.nx } σ2 H2)
theorem tFor_eq {wi : TI} {g : TG} {tb : TS} {D : Ends} {σ : St} {H : Hp} : tFor wi g tb D σ H = wi σ H fun J H1 => LoopR J g tb D σ H1 := rfl
def WhileR (c : TT) (tb : TS) (D : Ends) (σ : St) (H : Hp) : Prop := tWhile c tb D σ H
theorem tWhile_eq {c : TT} {tb : TS} {D : Ends} {σ : St} {H : Hp} : tWhile c tb D σ H = WhileR c tb D σ H := rfl
def CompR (J : It) (g : TG) (tt : TT) (te : TE) (σ0 : St) (Q : VK) (H1 : Hp) : Prop := ∃ W : Nat → Nat → List V → Hp → Prop, (∃ m, W 0 m [] H1) ∧ ∀ i m acc H, W i m acc H →
  (J.stop i H ∧ acc.length ≤ sizeLine ∧ ∀ p, H p = none → Q (.ref p) (upd H p (.lst acc))) ∨
  (J.go i H ∧ acc.length < sizeLine ∧ ∀ x H', J.yld i H x H' → g x σ0 H' fun σ2 H2 => tt σ2 H2 fun b H3 => if b = true then te σ2 H3 fun v H4 => ∃ m', m' < m ∧ W (i + 1) m' (acc ++ [v]) H4 else ∃ m', m' < m ∧ W (i + 1) m' acc H3)
theorem tComp_eq {wi : TI} {g : TG} {tt : TT} {te : TE} {js : List (Option Nat)} {σ : St} {H : Hp} {Q : VK} : tComp wi g tt te js σ H Q = wi σ H fun J H1 => CompR J g tt te (iniC js σ) Q H1 := rfl

def CW (n : Nat) (vals : Nat → V) (H1 : Hp) (i m : Nat) (acc : List V) (H : Hp) : Prop := m = n - i ∧ i ≤ n ∧ acc = (List.range i).map vals ∧ Same H1 H
theorem CW.next {n : Nat} {vals : Nat → V} {H1 H : Hp} {i : Nat} {v : V} (hi : i < n) (hv : v = vals i) (s : Same H1 H) : ∃ m', m' < n - i ∧ CW n vals H1 (i + 1) m' ((List.range i).map vals ++ [v]) H :=
  ⟨n - (i + 1), by omega, rfl, hi, by rw [List.range_succ, List.map_append, hv]; rfl, s⟩
theorem comp_map {J : It} {n : Nat} {H1 : Hp} {g : TG} {tt : TT} {te : TE} {σ0 : St} {Q : VK} (vals : Nat → V) (hn : n < sizeLine) (hgo : ∀ i H, Same H1 H → i < n → J.go i H) (hstop : ∀ H, Same H1 H → J.stop n H)
    (hb : ∀ i x H H', i < n → Same H1 H → J.yld i H x H' → g x σ0 H' fun σ2 H2 => tt σ2 H2 fun b H3 => if b = true then te σ2 H3 fun v H4 => ∃ m', m' < n - i ∧ CW n vals H1 (i + 1) m' ((List.range i).map vals ++ [v]) H4 else ∃ m', m' < n - i ∧ CW n vals H1 (i + 1) m' ((List.range i).map vals) H3)
    (hk : ∀ l H', Same H1 H' → H' l = none → Q (.ref l) (upd H' l (.lst ((List.range n).map vals)))) :
    CompR J g tt te σ0 Q H1 := by
  refine ⟨CW n vals H1, ⟨n, rfl, Nat.zero_le _, rfl, Same.refl _⟩, ?_⟩
  rintro i m acc H ⟨rfl, hi, rfl, s⟩
  by_cases h : i < n
  · refine .inr ⟨hgo i H s h, by simpa using Nat.lt_trans h hn, fun x H' y => hb i x H H' h s y⟩
  · have e : i = n := by omega
    subst e
    exact .inl ⟨hstop H s, by simpa using Nat.le_of_lt hn, fun p hp => hk p H s hp⟩
theorem atI_at {α : Type} {xs : List α} {i : Int} {j : Nat} (h : i = (j : Int)) (hj : j < xs.length) : atI xs i = some xs[j] := by
  subst h
  unfold atI ixN
  rw [if_pos (by omega), if_pos (by omega)]
  simp
theorem atI_all {α : Type} {xs : List α} {i : Int} (C : α → Prop) (h0 : 0 ≤ i) (h1 : i < xs.length) (h : ∀ x ∈ xs, C x) : ∃ v, atI xs i = some v ∧ C v := by
  obtain ⟨j, rfl⟩ := Int.eq_ofNat_of_zero_le h0
  have hj : j < xs.length := by omega
  exact ⟨xs[j], atI_at rfl hj, h _ (List.getElem_mem hj)⟩
theorem mul_r {a b : Int} (h1 : -(2 ^ 64) < b) (h2 : b < 2 ^ 64) : IntMulOk a b := IntMulOk.of_right (intBits_le_64 h1 h2)
theorem mul_l {a b : Int} (h1 : -(2 ^ 64) < a) (h2 : a < 2 ^ 64) : IntMulOk a b := IntMulOk.of_left (intBits_le_64 h1 h2)
theorem big_mul {a b : Int} (ha : Builtin.Int.intBits a ≤ 2 ^ 20) (hb : Builtin.Int.intBits b ≤ 2 ^ 20) : IntMulOk a b := IntMulOk.of_bits ha hb
theorem cp18 : CPow 10 18 := by unfold CPow; decide
theorem cp59 : CPow 10 59 := by unfold CPow; decide
def PoolAt (H : Hp) (p : Addr) : Prop := ∃ x y : Int, H p = some (.lst [.int x, .int y]) ∧ 0 ≤ x ∧ 0 ≤ y ∧ y < 2147483647
def Exc (p : Addr) (H H' : Hp) : Prop := ∀ b o, b ≠ p → H b = some o → H' b = some o
theorem Same.exc {H H1 H2 : Hp} {p : Addr} (s : Same H H1) (h : H p = none) (e : Exc p H1 H2) : Same H H2 := fun b o z => e b o (ne_of_none z h) (s b o z)
theorem Same.toExc {H H' : Hp} {p : Addr} (s : Same H H') : Exc p H H' := fun b o _ z => s b o z
theorem Exc.upd {H : Hp} {p : Addr} {o : HO} : Exc p H (L2.upd H p o) := fun b u n z => by rw [upd_ne n]; exact z
theorem PoolAt.ne {H : Hp} {p q : Addr} (P : PoolAt H p) (h : H q = none) : q ≠ p := by
  obtain ⟨x, y, e, _⟩ := P
  exact (ne_of_none e h).symm
theorem PoolAt.same {H H' : Hp} {p : Addr} (P : PoolAt H p) (s : Same H H') : PoolAt H' p := by
  obtain ⟨x, y, e, r⟩ := P
  exact ⟨x, y, s _ _ e, r⟩
theorem PoolAt.upd {H : Hp} {p q : Addr} {o : HO} (P : PoolAt H p) (h : H q = none) : PoolAt (L2.upd H q o) p := P.same ((Same.refl H).upd h)
theorem tyV_list {K : Frag} {H : Hp} {p : Addr} {xs : List V} (h : H p = some (.lst xs)) : tyV K "list" (.ref p) H := .inl ⟨rfl, _, SqL.of h⟩
theorem scal_ii {i j : Int} : scal (.int i) (.int j) = true := rfl
theorem scal_bb {i j : Bool} : scal (.bl i) (.bl j) = true := rfl
theorem scal_ss {i j : Str} : scal (.str i) (.str j) = true := rfl
theorem scal_nn : scal .non .non = true := rfl
theorem scal_ni {i : Int} : scal .non (.int i) = true := rfl
theorem scal_in {i : Int} : scal (.int i) .non = true := rfl
section
variable {X : Cx}
def rLen (K : Frag) : List V → Hp → VK → Prop := fun xs H Q => ∃ p ys, xs = [.ref p] ∧ (SqL K H p ys ∨ SqT K H p ys) ∧ Q (.int ys.length) H
theorem call_lenK {K : Frag} (hK : X.K = K) : CallR X (.builtin "len") (rLen K) := by subst hK; exact call_len_seq
def rLof (K : Frag) : List V → Hp → VK → Prop := fun xs H Q => ∃ p ys, xs = [.ref p] ∧ (SqL K H p ys ∨ SqT K H p ys) ∧ ∀ l, H l = none → Q (.ref l) (upd H l (.lst ys))
theorem call_listK {K : Frag} (hK : X.K = K) : CallR X (.type "list") (rLof K) := by subst hK; exact call_list_of
def rTof (K : Frag) : List V → Hp → VK → Prop := fun xs H Q => ∃ p ys, xs = [.ref p] ∧ ((SqL K H p ys ∧ ∀ l, H l = none → Q (.ref l) (upd H l (.tup ys))) ∨ (SqT K H p ys ∧ Q (.ref p) H))
theorem call_tupK {K : Frag} (hK : X.K = K) : CallR X (.type "tuple") (rTof K) := by subst hK; exact call_tuple_of
theorem call_isiK {K : Frag} (hK : X.K = K) : CallR X (.builtin "isinstance") (rIsi K) := by subst hK; exact call_isi
end
theorem kit_self {K : Frag} {t : Value} : kitOne K t t = some true := by unfold kitOne; simp
theorem ty_ii {K : Frag} {H : Hp} {i : Int} : tyIs K H (.int i) (.type "int") true := .inl ⟨_, .int i, by with_unfolding_all rfl⟩
theorem ty_ib {K : Frag} {H : Hp} {i : Int} : tyIs K H (.int i) (.type "bool") false := .inl ⟨_, .int i, by with_unfolding_all rfl⟩
theorem cOf_ref {a : Addr} {x : Value} : (cOf (.ref a) = some x) = (.ref a = x) := by simp [cOf]
theorem cOf_ty {n : String} {x : Value} : (cOf (.ty n) = some x) = (.type n = x) := by simp [cOf]
end L2


set_option Elab.async false
set_option linter.all false
set_option maxRecDepth 100000
set_option maxHeartbeats 1000000
namespace L2
open PySem PySem.Spec PyProof.Rows PySem.W


section
variable {X : Cx} {e st : Expr} {te ts : TE} {pos p2 : Pos}
end
end L2


set_option Elab.async false
set_option linter.all false
set_option maxRecDepth 100000
set_option maxHeartbeats 1000000
namespace L2
open PySem PySem.Spec PyProof.Rows PySem.W


theorem cut_to1 (xs : List V) : cutV xs none (some 1) = xs.take 1 := by
  unfold cutV HT.sIx
  cases xs <;> simp
def Rows (H : Hp) (l : Addr) (rs : List (List Int)) : Prop := ∃ as : List Addr, H l = some (.lst (as.map V.ref)) ∧ l ∉ as ∧ as.length = rs.length ∧ ∀ i (h1 : i < as.length) (h2 : i < rs.length), H as[i] = some (.lst (rs[i].map V.int))
theorem Rows.same {H H' : Hp} {l : Addr} {rs : List (List Int)} (R : Rows H l rs) (s : Same H H') : Rows H' l rs := by
  obtain ⟨as, e, n, hl, h⟩ := R
  exact ⟨as, s _ _ e, n, hl, fun i h1 h2 => s _ _ (h i h1 h2)⟩
theorem Rows.at {K : Frag} {H : Hp} {l : Addr} {rs : List (List Int)} (R : Rows H l rs) {i : Nat} (h : i < rs.length) : ∃ xs a, SqL K H l xs ∧ atI xs (i : Int) = some (.ref a) ∧ H a = some (.lst (rs[i].map V.int)) := by
  obtain ⟨as, e, n, hl, hh⟩ := R
  have hi : i < as.length := by omega
  refine ⟨_, as[i], SqL.of e, ?_, hh i hi h⟩
  rw [atI_at rfl (by simpa using hi)]; simp
theorem Rows.push {H : Hp} {l p : Addr} {rs : List (List Int)} {r : List Int} {as : List Addr} (e : H l = some (.lst (as.map V.ref))) (n : l ∉ as) (hl : as.length = rs.length) (h : ∀ i (h1 : i < as.length) (h2 : i < rs.length), H as[i] = some (.lst (rs[i].map V.int)))
    (hp : H p = some (.lst (r.map V.int))) (np : p ≠ l) : Rows (upd H l (.lst (as.map V.ref ++ [.ref p]))) l (rs ++ [r]) := by
  refine ⟨as ++ [p], by rw [upd_same]; simp, ?_, by simp [hl], fun i h1 h2 => ?_⟩
  · simp only [List.mem_append, List.mem_singleton, not_or]
    exact ⟨n, fun z => np z.symm⟩
  · by_cases hi : i < as.length
    · have e1 : (as ++ [p])[i] = as[i] := List.getElem_append_left hi
      have e2 : (rs ++ [r])[i] = rs[i]'(by omega) := List.getElem_append_left (by omega)
      rw [e1, e2, upd_ne]
      · exact h i hi (by omega)
      · intro z; exact n (z ▸ List.getElem_mem hi)
    · have e1 : (as ++ [p])[i] = p := by rw [List.getElem_append_right (by omega)]; simp
      have e2 : (rs ++ [r])[i] = r := by rw [List.getElem_append_right (by omega)]; simp
      rw [e1, e2, upd_ne np]; exact hp
end L2


set_option Elab.async false
set_option linter.all false
set_option maxRecDepth 100000
set_option maxHeartbeats 1000000
namespace L2
open PySem PySem.Spec PyProof.Rows PySem.W


inductive EqD (K : Frag) (H : Hp) : Nat → V → V → Bool → Prop
  | flat {n : Nat} {x y : V} (fx : flatV x = true) (fy : flatV y = true) : EqD K H n x y (eqV x y)
  | lst {n : Nat} {a b : Addr} {xs ys : List V} (e : Nat → Bool) (hx : SqL K H a xs) (hy : SqL K H b ys) (hl : xs.length = ys.length) (h : ∀ j x y, xs[j]? = some x → ys[j]? = some y → EqD K H n x y (e j)) : EqD K H (n + 1) (.ref a) (.ref b) ((List.range xs.length).all e)
  | len {n : Nat} {a b : Addr} {xs ys : List V} (hx : SqL K H a xs) (hy : SqL K H b ys) (hl : xs.length ≠ ys.length) : EqD K H (n + 1) (.ref a) (.ref b) false
  | tup {n : Nat} {a b : Addr} {xs ys : List V} (e : Nat → Bool) (hx : SqT K H a xs) (hy : SqT K H b ys) (h : ∀ j x y, xs[j]? = some x → ys[j]? = some y → EqD K H n x y (e j)) : EqD K H (n + 1) (.ref a) (.ref b) ((List.range (min xs.length ys.length)).all e && xs.length == ys.length)
theorem eqV_refl {x : V} (h : flatV x = true) : eqV x x = true := by
  cases x <;> first
    | rfl
    | (simp [eqV]; done)
    | cases h
section
variable {X : Cx} {pins : List (Addr × Obj)} {σ : St} {H : Hp} {s : Shared}
theorem eqd_refl (I : Inv X pins σ H s) {n : Nat} {x y : V} {b : Bool} (h : EqD X.K H n x y b) : x = y → b = true := by
  induction h with
  | flat fx fy => rintro rfl; exact eqV_refl fx
  | lst e hx hy hl h ih =>
    intro z
    cases z
    have := I.list_inj hx hy
    subst this
    refine List.all_eq_true.mpr fun j hj => ?_
    have hj' := List.mem_range.mp hj
    exact ih j _ _ (List.getElem?_eq_getElem hj') (List.getElem?_eq_getElem hj') rfl
  | len hx hy hl =>
    intro z
    cases z
    have := I.list_inj hx hy
    subst this
    exact absurd rfl hl
  | tup e hx hy h ih =>
    intro z
    cases z
    have := I.tuple_inj hx hy
    subst this
    rw [Nat.min_self]
    have : (List.range _).all e = true := List.all_eq_true.mpr fun j hj => by
      have hj' := List.mem_range.mp hj
      exact ih j _ _ (List.getElem?_eq_getElem hj') (List.getElem?_eq_getElem hj') rfl
    rw [this]; simp
theorem eqd_at (I : Inv X pins σ H s) {n : Nat} {x y : V} {b : Bool} (h : EqD X.K H n x y b) : ∀ (A : Around) (u v : Value), A.units + n < cLine → RelV x u → RelV y v → SeqAt.EqAt A s u v b := by
  induction h with
  | flat fx fy => intro A u v _ ru rv; exact eqAt_V ru rv fx fy
  | @lst n a b xs ys e hx hy hl h ih =>
    intro A u v hu ru rv
    have hb := eqd_refl I (.lst e hx hy hl h)
    cases ru
    cases rv
    by_cases hab : a = b
    · subst hab
      rw [hb rfl]; exact SeqAt.EqAt.same _
    · obtain ⟨is1, r1, p1, _⟩ := I.list hx
      obtain ⟨is2, r2, p2, _⟩ := I.list hy
      have e1 := r1.length
      have e2 := r2.length
      have key := SeqAt.RcAt.lists (A := A) (s := s) (e := e) p1.isList p2.isList (by simp; omega) (by omega) fun j h1 h2 => by
        have h1' : j < xs.length := by simpa [e1] using h1
        have h2' : j < ys.length := by simpa [e2] using h2
        obtain ⟨u, hu1, ru⟩ := r1.get (List.getElem?_eq_getElem h1')
        obtain ⟨v, hv1, rv⟩ := r2.get (List.getElem?_eq_getElem h2')
        have eu : is1.toArray[j] = u := by simpa using (List.getElem?_eq_some_iff.mp hu1).2
        have ev : is2.toArray[j] = v := by simpa using (List.getElem?_eq_some_iff.mp hv1).2
        rw [eu, ev]
        exact ih j _ _ (List.getElem?_eq_getElem h1') (List.getElem?_eq_getElem h2') A.in1 u v (by show A.units + 1 + n < cLine; omega) ru rv
      have e3 : is1.toArray.size = xs.length := by simp [e1]
      rw [e3] at key
      exact SeqAt.EqAt.of_refs hab key
  | @len n a b xs ys hx hy hl =>
    intro A u v hu ru rv
    cases ru
    cases rv
    have hab : a ≠ b := fun z => by subst z; exact hl (congrArg List.length (I.list_inj hx hy))
    obtain ⟨is1, r1, p1, _⟩ := I.list hx
    obtain ⟨is2, r2, p2, _⟩ := I.list hy
    have e1 := r1.length
    have e2 := r2.length
    exact SeqAt.EqAt.of_refs hab (SeqAt.RcAt.lists_lengths p1.isList p2.isList (by simp; omega) (by omega))
  | @tup n a b xs ys e hx hy h ih =>
    intro A u v hu ru rv
    have hb := eqd_refl I (.tup e hx hy h)
    cases ru
    cases rv
    by_cases hab : a = b
    · subst hab
      rw [hb rfl]; exact SeqAt.EqAt.same _
    · obtain ⟨is1, r1, p1, _⟩ := I.tuple hx
      obtain ⟨is2, r2, p2, _⟩ := I.tuple hy
      have e1 := r1.length
      have e2 := r2.length
      have key := SeqAt.RcAt.tuples (A := A) (s := s) (e := e) p1 p2 (by omega) fun j h1 h2 => by
        have h1' : j < xs.length := by simpa [e1] using h1
        have h2' : j < ys.length := by simpa [e2] using h2
        obtain ⟨u, hu1, ru⟩ := r1.get (List.getElem?_eq_getElem h1')
        obtain ⟨v, hv1, rv⟩ := r2.get (List.getElem?_eq_getElem h2')
        have eu : is1.toArray[j] = u := by simpa using (List.getElem?_eq_some_iff.mp hu1).2
        have ev : is2.toArray[j] = v := by simpa using (List.getElem?_eq_some_iff.mp hv1).2
        rw [eu, ev]
        exact ih j _ _ (List.getElem?_eq_getElem h1') (List.getElem?_eq_getElem h2') A.in1 u v (by show A.units + 1 + n < cLine; omega) ru rv
      have e3 : is1.toArray.size = xs.length := by simp [e1]
      have e4 : is2.toArray.size = ys.length := by simp [e2]
      rw [e3, e4] at key
      exact SeqAt.EqAt.of_refs hab key
end
def rEqD (K : Frag) (neg : Bool) : R2 := fun x y H Q => ∃ a b k, x = .ref a ∧ y = .ref b ∧ EqD K H 3 x y k ∧ Q (.bl (if neg then !k else k)) H
section
variable {X : Cx}
theorem op_eqD {K : Frag} (hK : X.K = K) {k : Nat} (hr : Room k X.A) : OpR X (compareOp .Eq) (rEqD K false) := by
  subst hK
  have hu0 := hr.un
  intro pins s σ H x y v u Q I rx ry h
  obtain ⟨a, b, k, rfl, rfl, h, q⟩ := h
  cases rx
  cases ry
  cases h with
  | flat fx fy => cases fx
  | @lst n _ _ xs ys e hx hy hl h =>
    obtain ⟨is1, r1, p1, _⟩ := I.list hx
    obtain ⟨is2, r2, p2, _⟩ := I.list hy
    have e1 := r1.length
    have e2 := r2.length
    have e3 : is1.toArray.size = xs.length := by simp [e1]
    refine SeqAt.eq_listAt (e := e) p1.isList p2.isList (by simp; omega) (by omega) (fun j h1 h2 => ?_) ⟨.bl _, H, I, rfl, by rw [e3]; exact q⟩
    have h1' : j < xs.length := by simpa [e1] using h1
    have h2' : j < ys.length := by simpa [e2] using h2
    obtain ⟨u, hu1, ru⟩ := r1.get (List.getElem?_eq_getElem h1')
    obtain ⟨v, hv1, rv⟩ := r2.get (List.getElem?_eq_getElem h2')
    have eu : is1.toArray[j] = u := by simpa using (List.getElem?_eq_some_iff.mp hu1).2
    have ev : is2.toArray[j] = v := by simpa using (List.getElem?_eq_some_iff.mp hv1).2
    rw [eu, ev]
    exact eqd_at I (h j _ _ (List.getElem?_eq_getElem h1') (List.getElem?_eq_getElem h2')) X.A.in1 u v (by show X.A.units + 1 + 2 < cLine; omega) ru rv
  | @len n _ _ xs ys hx hy hl =>
    obtain ⟨is1, r1, p1, _⟩ := I.list hx
    obtain ⟨is2, r2, p2, _⟩ := I.list hy
    have e1 := r1.length
    have e2 := r2.length
    exact SeqAt.eq_list_lengthsAt p1.isList p2.isList (by simp; omega) (by omega) ⟨.bl _, H, I, rfl, q⟩
  | @tup n _ _ xs ys e hx hy h =>
    obtain ⟨is1, r1, p1, _⟩ := I.tuple hx
    obtain ⟨is2, r2, p2, _⟩ := I.tuple hy
    have e1 := r1.length
    have e2 := r2.length
    have e3 : is1.toArray.size = xs.length := by simp [e1]
    have e4 : is2.toArray.size = ys.length := by simp [e2]
    refine SeqAt.eq_tupleAt (e := e) p1 p2 (by omega) (fun j h1 h2 => ?_) ⟨.bl _, H, I, rfl, by rw [e3, e4]; exact q⟩
    have h1' : j < xs.length := by simpa [e1] using h1
    have h2' : j < ys.length := by simpa [e2] using h2
    obtain ⟨u, hu1, ru⟩ := r1.get (List.getElem?_eq_getElem h1')
    obtain ⟨v, hv1, rv⟩ := r2.get (List.getElem?_eq_getElem h2')
    have eu : is1.toArray[j] = u := by simpa using (List.getElem?_eq_some_iff.mp hu1).2
    have ev : is2.toArray[j] = v := by simpa using (List.getElem?_eq_some_iff.mp hv1).2
    rw [eu, ev]
    exact eqd_at I (h j _ _ (List.getElem?_eq_getElem h1') (List.getElem?_eq_getElem h2')) X.A.in1 u v (by show X.A.units + 1 + 2 < cLine; omega) ru rv
theorem op_neD {K : Frag} (hK : X.K = K) {k : Nat} (hr : Room k X.A) : OpR X (compareOp .NotEq) (rEqD K true) := by
  subst hK
  have hu0 := hr.un
  intro pins s σ H x y v u Q I rx ry h
  obtain ⟨a, b, k, rfl, rfl, h, q⟩ := h
  cases rx
  cases ry
  cases h with
  | flat fx fy => cases fx
  | @lst n _ _ xs ys e hx hy hl h =>
    obtain ⟨is1, r1, p1, _⟩ := I.list hx
    obtain ⟨is2, r2, p2, _⟩ := I.list hy
    have e1 := r1.length
    have e2 := r2.length
    have e3 : is1.toArray.size = xs.length := by simp [e1]
    refine SeqAt.RcNeAt.lists (e := e) p1.isList p2.isList (by simp; omega) (by omega) (fun j h1 h2 => ?_) _ _ _ _ ⟨.bl _, H, I, rfl, by rw [e3]; exact q⟩
    have h1' : j < xs.length := by simpa [e1] using h1
    have h2' : j < ys.length := by simpa [e2] using h2
    obtain ⟨u, hu1, ru⟩ := r1.get (List.getElem?_eq_getElem h1')
    obtain ⟨v, hv1, rv⟩ := r2.get (List.getElem?_eq_getElem h2')
    have eu : is1.toArray[j] = u := by simpa using (List.getElem?_eq_some_iff.mp hu1).2
    have ev : is2.toArray[j] = v := by simpa using (List.getElem?_eq_some_iff.mp hv1).2
    rw [eu, ev]
    exact eqd_at I (h j _ _ (List.getElem?_eq_getElem h1') (List.getElem?_eq_getElem h2')) X.A.in1 u v (by show X.A.units + 1 + 2 < cLine; omega) ru rv
  | @len n _ _ xs ys hx hy hl =>
    obtain ⟨is1, r1, p1, _⟩ := I.list hx
    obtain ⟨is2, r2, p2, _⟩ := I.list hy
    have e1 := r1.length
    have e2 := r2.length
    exact SeqAt.RcNeAt.lists_lengths p1.isList p2.isList (by simp; omega) (by omega) _ _ _ _ ⟨.bl _, H, I, rfl, q⟩
  | @tup n _ _ xs ys e hx hy h =>
    obtain ⟨is1, r1, p1, _⟩ := I.tuple hx
    obtain ⟨is2, r2, p2, _⟩ := I.tuple hy
    have e1 := r1.length
    have e2 := r2.length
    have e3 : is1.toArray.size = xs.length := by simp [e1]
    have e4 : is2.toArray.size = ys.length := by simp [e2]
    refine SeqAt.RcNeAt.tuples (e := e) p1 p2 (by omega) (fun j h1 h2 => ?_) _ _ _ _ ⟨.bl _, H, I, rfl, by rw [e3, e4]; exact q⟩
    have h1' : j < xs.length := by simpa [e1] using h1
    have h2' : j < ys.length := by simpa [e2] using h2
    obtain ⟨u, hu1, ru⟩ := r1.get (List.getElem?_eq_getElem h1')
    obtain ⟨v, hv1, rv⟩ := r2.get (List.getElem?_eq_getElem h2')
    have eu : is1.toArray[j] = u := by simpa using (List.getElem?_eq_some_iff.mp hu1).2
    have ev : is2.toArray[j] = v := by simpa using (List.getElem?_eq_some_iff.mp hv1).2
    rw [eu, ev]
    exact eqd_at I (h j _ _ (List.getElem?_eq_getElem h1') (List.getElem?_eq_getElem h2')) X.A.in1 u v (by show X.A.units + 1 + 2 < cLine; omega) ru rv
end

def IsI (v : V) (i : Int) : Prop := v = .int i
def IsL (K : Frag) (H : Hp) {α : Type} (P : V → α → Prop) (v : V) (as : List α) : Prop := ∃ a xs, v = .ref a ∧ SqL K H a xs ∧ xs.length = as.length ∧ ∀ (j : Nat) (x : V) (y : α), xs[j]? = some x → as[j]? = some y → P x y
def IsT (K : Frag) (H : Hp) {α : Type} (P : V → α → Prop) (v : V) (as : List α) : Prop := ∃ a xs, v = .ref a ∧ SqT K H a xs ∧ xs.length = as.length ∧ ∀ (j : Nat) (x : V) (y : α), xs[j]? = some x → as[j]? = some y → P x y
def EqP (K : Frag) (H : Hp) (n : Nat) {α : Type} [DecidableEq α] (P : V → α → Prop) : Prop := ∀ x y a b, P x a → P y b → EqD K H n x y (decide (a = b))
theorem eqp_int {K : Frag} {H : Hp} {n : Nat} : EqP K H n IsI := by
  rintro x y a b rfl rfl
  have := EqD.flat (K := K) (H := H) (n := n) (x := .int a) (y := .int b) rfl rfl
  have e : eqV (.int a) (.int b) = decide (a = b) := by simp [eqV, Bool.beq_eq_decide_eq]
  rw [← e]; exact this
theorem all_eq {α : Type} [DecidableEq α] (as bs : List α) (h : as.length = bs.length) : (List.range as.length).all (fun j => decide (as[j]? = bs[j]?)) = decide (as = bs) := by
  rw [Bool.eq_iff_iff, List.all_eq_true, decide_eq_true_iff]
  constructor
  · intro q
    refine List.ext_getElem? fun j => ?_
    by_cases hj : j < as.length
    · simpa using q j (List.mem_range.mpr hj)
    · rw [List.getElem?_eq_none (by omega), List.getElem?_eq_none (by omega)]
  · rintro rfl j _; simp
theorem eqp_lst {K : Frag} {H : Hp} {n : Nat} {α : Type} [DecidableEq α] {P : V → α → Prop} (h : EqP K H n P) : EqP K H (n + 1) (IsL K H P) := by
  rintro x y as bs ⟨a, xs, rfl, hx, lx, px⟩ ⟨b, ys, rfl, hy, ly, py⟩
  by_cases hl : as.length = bs.length
  · rw [← all_eq as bs hl, ← lx]
    refine .lst _ hx hy (by omega) fun j x y h1 h2 => ?_
    have j1 := (List.getElem?_eq_some_iff.mp h1).1
    have j2 := (List.getElem?_eq_some_iff.mp h2).1
    have ha : as[j]? = some as[j] := List.getElem?_eq_getElem (by omega)
    have hb : bs[j]? = some bs[j] := List.getElem?_eq_getElem (by omega)
    have := h x y _ _ (px j _ _ h1 ha) (py j _ _ h2 hb)
    rw [ha, hb]
    simpa using this
  · have e : decide (as = bs) = false := by simp; intro z; exact hl (congrArg List.length z)
    rw [e]
    exact .len hx hy (by omega)
theorem eqp_tup {K : Frag} {H : Hp} {n : Nat} {α : Type} [DecidableEq α] {P : V → α → Prop} (h : EqP K H n P) : EqP K H (n + 1) (IsT K H P) := by
  rintro x y as bs ⟨a, xs, rfl, hx, lx, px⟩ ⟨b, ys, rfl, hy, ly, py⟩
  have key := EqD.tup (K := K) (H := H) (n := n) (fun j => decide (as[j]? = bs[j]?)) hx hy fun j x y h1 h2 => by
    have j1 := (List.getElem?_eq_some_iff.mp h1).1
    have j2 := (List.getElem?_eq_some_iff.mp h2).1
    have ha : as[j]? = some as[j] := List.getElem?_eq_getElem (by omega)
    have hb : bs[j]? = some bs[j] := List.getElem?_eq_getElem (by omega)
    have := h x y _ _ (px j _ _ h1 ha) (py j _ _ h2 hb)
    rw [ha, hb]
    simpa using this
  have e : ((List.range (min xs.length ys.length)).all (fun j => decide (as[j]? = bs[j]?)) && xs.length == ys.length) = decide (as = bs) := by
    rw [lx, ly]
    by_cases hl : as.length = bs.length
    · rw [← hl, Nat.min_self, all_eq as bs hl]; simp
    · have e : decide (as = bs) = false := by simp; intro z; exact hl (congrArg List.length z)
      rw [e]
      simp [hl]
  rw [e] at key
  exact key
theorem isL_ints {K : Frag} {H : Hp} {a : Addr} {ns : List Int} (h : SqL K H a (ns.map V.int)) : IsL K H IsI (.ref a) ns := ⟨a, _, rfl, h, by simp, fun j x y h1 h2 => by
  rw [List.getElem?_map, h2] at h1
  exact (Option.some.inj h1).symm⟩
theorem isT_ints {K : Frag} {H : Hp} {a : Addr} {ns : List Int} (h : SqT K H a (ns.map V.int)) : IsT K H IsI (.ref a) ns := ⟨a, _, rfl, h, by simp, fun j x y h1 h2 => by
  rw [List.getElem?_map, h2] at h1
  exact (Option.some.inj h1).symm⟩
end L2


set_option Elab.async false
set_option linter.all false
set_option maxRecDepth 100000
set_option maxHeartbeats 1000000
namespace L2
open PySem PySem.Spec PyProof.Rows PySem.W


section
variable {X : Cx}
def tRngV (ta : TA) : TE := fun σ H Q => ta σ H fun vs H1 => ∃ j : Int, vs = [.int j] ∧ -(2 ^ 62) ≤ j ∧ j < 2 ^ 62 ∧ ∀ p, H1 p = none → Q (.ref p) (upd H1 p (.rng 0 j))
def rLstR : List V → Hp → VK → Prop := fun xs H Q => ∃ p j, xs = [.ref p] ∧ H p = some (.rng 0 j) ∧ 0 ≤ j ∧ j ≤ 1000 ∧ ∀ l, H l = none → Q (.ref l) (upd H l (.lst ((List.range j.toNat).map fun (i : Nat) => V.int (i : Int))))
def rAll (K : Frag) : List V → Hp → VK → Prop := fun xs H Q => ∃ (p : Addr) (bs : List Bool), xs = [.ref p] ∧ SqL K H p (bs.map V.bl) ∧ Q (.bl (bs.all id)) H
def rAny (K : Frag) : List V → Hp → VK → Prop := fun xs H Q => ∃ (p : Addr) (bs : List Bool), xs = [.ref p] ∧ SqL K H p (bs.map V.bl) ∧ Q (.bl (bs.any id)) H
theorem all_ix (bs : List Bool) : (List.range bs.length).all (fun i => bs.getD i false) = bs.all id := by
  rw [Bool.eq_iff_iff, List.all_eq_true, List.all_eq_true]
  constructor
  · intro h x hx
    obtain ⟨j, hj, rfl⟩ := List.getElem_of_mem hx
    have := h j (List.mem_range.mpr hj)
    simpa [List.getD_eq_getElem?_getD, hj] using this
  · intro h j hj
    have hj' := List.mem_range.mp hj
    have := h _ (List.getElem_mem hj')
    simpa [List.getD_eq_getElem?_getD, hj'] using this
theorem truth_bools {prog : Program} {w : World} {A : Around} {bs : List Bool} {its : List Value} (r : Vals (bs.map V.bl) its) : TruthOf prog w A (fun i v => its.toArray[i]? = some v) (fun i => bs.getD i false) := by
  intro i v s Q E hv hq
  have hv' : its[i]? = some v := by simpa using hv
  have hl := r.length
  have hi : i < bs.length := by
    have := (List.getElem?_eq_some_iff.mp hv').1
    rw [List.length_map] at hl; omega
  obtain ⟨u, hu, ru⟩ := r.get (i := i) (x := V.bl bs[i]) (by rw [List.getElem?_map, List.getElem?_eq_getElem hi]; rfl)
  rw [hv'] at hu
  cases hu
  cases ru
  refine wpAny_truthy_bool ?_
  simpa [List.getD_eq_getElem?_getD, hi] using hq
theorem call_all {K : Frag} (hK : X.K = K) (hc : X.calm = true) : CallR X (.builtin "all") (rAll K) := by
  subst hK
  intro pins s σ H xs us Q I r h
  obtain ⟨p, bs, rfl, hp, q⟩ := h
  obtain ⟨u, rfl, ru⟩ := r.one
  cases (show u = Value.ref p from ru)
  obtain ⟨its, r', pl, hz⟩ := I.list hp
  have hl := r'.length
  refine call_all_walk (wpAny_pyIter_list pl.isList ?_)
  have hne : p ≠ s.heap.objs.size := by obtain ⟨o, e, _⟩ := pl.isList; exact Nat.ne_of_lt (Heap.lt_size e)
  refine ⟨s.heap.objs.size, _, _, _, _, _, fun i => bs.getD i false, rfl, Walks.list (A := X.A.in1) (show X.A.in1.handled = none from I.ok.hd hc) _ p hne its.toArray, ⟨⟨_, Heap.get?_push_size _ rfl, rfl, rfl⟩, pl.isList.push _⟩, truth_bools r', fun h' tk kp => ?_⟩
  have e1 : its.toArray.size = bs.length := by rw [List.size_toArray]; rw [List.length_map] at hl; omega
  rw [e1, all_ix]
  exact ⟨.bl _, H, I.kept (t' := tk) fun b o e => kp b o (by simp; exact Nat.ne_of_lt (Heap.lt_size e)) (Heap.get?_push_of_some _ e), rfl, q⟩
def ipM : TIp := fun x y H Q => ∃ i j, x = .int i ∧ y = .int j ∧ IntMulOk i j ∧ Q (.int (i * j)) H
def rIxQ (K : Frag) : R2 := fun x y H Q => ∃ p xs i v, x = .ref p ∧ y = .int i ∧ (SqL K H p xs ∨ SqT K H p xs) ∧ atI xs i = some v ∧ Q v H
theorem ix_q {K : Frag} (hK : X.K = K) : IxR X (rIxQ K) := by
  subst hK
  intro value slice pins s σ H x y v u Q I rx ry h hs
  refine (ix_list.or ix_tup) (value := value) (slice := slice) pins s σ H x y v u Q I rx ry ?_ hs
  obtain ⟨p, xs, i, v, rfl, rfl, hq, ha, q⟩ := h
  rcases hq with hq | hq
  · exact .inl ⟨p, xs, i, v, rfl, rfl, hq, ha, q⟩
  · exact .inr ⟨p, xs, i, v, rfl, rfl, hq, ha, q⟩
theorem bt_all : bootBuiltins "all" = some (.builtin "all") := by decide +kernel
end
end L2


set_option Elab.async false
set_option linter.all false
set_option maxRecDepth 100000
set_option maxHeartbeats 1000000
namespace L2
open PySem PySem.Spec PyProof.Rows PySem.W


def IsLow (f : Nat → Int) (a b p : Nat) : Prop := a ≤ p ∧ p ≤ b ∧ (∀ q, a ≤ q → q < p → f p < f q) ∧ ∀ q, p < q → q ≤ b → f p ≤ f q
theorem IsLow.unique {f : Nat → Int} {a b p q : Nat} (h : IsLow f a b p) (k : IsLow f a b q) : p = q := by
  obtain ⟨h1, h2, h3, h4⟩ := h
  obtain ⟨k1, k2, k3, k4⟩ := k
  rcases Nat.lt_trichotomy p q with z | z | z
  · have := k3 p h1 z
    have := h4 q z k2
    omega
  · exact z
  · have := h3 q k1 z
    have := k4 p z h2
    omega
theorem IsLow.join {f : Nat → Int} {a m a' b p q : Nat} (h : IsLow f a m p) (k : IsLow f a' b q) (h1 : a ≤ a') (h2 : a' ≤ m + 1) (h3 : m ≤ b) : IsLow f a b (if f q < f p then q else p) := by
  obtain ⟨p1, p2, p3, p4⟩ := h
  obtain ⟨q1, q2, q3, q4⟩ := k
  have pm : ∀ r, a ≤ r → r ≤ m → f p ≤ f r := fun r r1 r2 => by
    rcases Nat.lt_trichotomy r p with z | z | z
    · exact Int.le_of_lt (p3 r r1 z)
    · rw [z]; exact Int.le_refl _
    · exact p4 r z r2
  have qm : ∀ r, a' ≤ r → r ≤ b → f q ≤ f r := fun r r1 r2 => by
    rcases Nat.lt_trichotomy r q with z | z | z
    · exact Int.le_of_lt (q3 r r1 z)
    · rw [z]; exact Int.le_refl _
    · exact q4 r z r2
  split
  · rename_i hlt
    refine ⟨by omega, q2, fun r r1 r2 => ?_, fun r r1 r2 => qm r (by omega) r2⟩
    by_cases z : a' ≤ r
    · exact q3 r z r2
    · have := pm r r1 (by omega); omega
  · rename_i hle
    refine ⟨p1, by omega, p3, fun r r1 r2 => ?_⟩
    by_cases z : r ≤ m
    · exact p4 r r1 z
    · have := qm r (by omega) r2; omega
def lowF (f : Nat → Int) (a : Nat) : Nat → Nat
  | 0 => a
  | c + 1 => if f (a + c + 1) < f (lowF f a c) then a + c + 1 else lowF f a c
theorem isLow_one (f : Nat → Int) (a : Nat) : IsLow f a a a := ⟨Nat.le_refl _, Nat.le_refl _, fun q h1 h2 => by omega, fun q h1 h2 => by omega⟩
theorem lowF_is (f : Nat → Int) (a c : Nat) : IsLow f a (a + c) (lowF f a c) := by
  induction c with
  | zero => exact isLow_one f a
  | succ c ih =>
    rw [lowF]
    exact ih.join (isLow_one f (a + c + 1)) (by omega) (by omega) (by omega)
def nth (ns : List Int) (i : Nat) : Int := ns.getD i 0
theorem nth_at {ns : List Int} {i : Nat} (h : i < ns.length) : atI (ns.map V.int) (i : Int) = some (V.int (nth ns i)) := by
  rw [atI_at rfl (by simpa using h)]
  simp [nth, List.getD_eq_getElem?_getD, h]
theorem lowF_lt (f : Nat → Int) (a c : Nat) : a ≤ lowF f a c ∧ lowF f a c ≤ a + c := ⟨(lowF_is f a c).1, (lowF_is f a c).2.1⟩

def Tall (n i : Nat) : Prop := n < 2 ^ i ∧ ∀ j, j < i → 2 ^ j ≤ n
theorem Tall.unique {n i j : Nat} (h : Tall n i) (k : Tall n j) : i = j := by
  rcases Nat.lt_trichotomy i j with z | z | z
  · have := k.2 i z; have := h.1; omega
  · exact z
  · have := h.2 j z; have := k.1; omega

def WI (N : Nat) (Pv : Nat → St → Hp → Prop) (m : Nat) (σ : St) (H : Hp) : Prop := ∃ i, m = N - i ∧ i ≤ N ∧ Pv i σ H
theorem WI.next {N : Nat} {Pv : Nat → St → Hp → Prop} {i : Nat} : ∀ σ' H', (i + 1 ≤ N ∧ Pv (i + 1) σ' H') → ∃ m', m' < N - i ∧ WI N Pv m' σ' H' := fun σ' H' h => ⟨N - (i + 1), by omega, i + 1, rfl, h.1, h.2⟩
theorem while_i {c : TT} {tb : TS} {D : Ends} {σ : St} {H : Hp} (N : Nat) (Pv : Nat → St → Hp → Prop) (h0 : Pv 0 σ H)
    (hs : ∀ i σ H, i ≤ N → Pv i σ H → c σ H fun b H1 => if b = true then ∃ Nx : St → Hp → Prop, (∀ σ' H', Nx σ' H' → ∃ m', m' < N - i ∧ WI N Pv m' σ' H') ∧ tb { D with nx := Nx, ct := Nx, bk := D.nx } σ H1 else D.nx σ H1) : WhileR c tb D σ H := by
  refine ⟨WI N Pv, ⟨N, 0, rfl, Nat.zero_le _, h0⟩, ?_⟩
  rintro m σ H ⟨i, rfl, hi, p⟩
  exact hs i σ H hi p
theorem Same.seqT {K : Frag} {H H' : Hp} {a : Addr} {xs : List V} (e : Same H H') (h : SqT K H a xs) : SqT K H' a xs := by
  rcases h with (h | ⟨o, h⟩) | h
  · exact .inl (.inl (e _ _ h))
  · exact .inl (.inr ⟨o, e _ _ h⟩)
  · exact .inr h
theorem Same.q {K : Frag} {H H' : Hp} {a : Addr} {xs : List V} (e : Same H H') (h : SqL K H a xs ∨ SqT K H a xs) : SqL K H' a xs ∨ SqT K H' a xs := h.imp e.seq e.seqT
theorem Exc.trans {p : Addr} {H H1 H2 : Hp} (a : Exc p H H1) (b : Exc p H1 H2) : Exc p H H2 := fun c o n z => b c o n (a c o n z)
theorem Exc.free {p q : Addr} {H H' : Hp} (e : Exc p H H') (n : q ≠ p) (h : H' q = none) : H q = none := by
  cases z : H q with
  | none => rfl
  | some o => rw [e q o n z] at h; cases h
theorem Exc.updN {p q : Addr} {H H' : Hp} {o : HO} (e : Exc p H H') (h : H q = none) : Exc p H (L2.upd H' q o) := fun b u n z => by
  rw [upd_ne (ne_of_none z h)]; exact e b u n z
theorem Exc.same {p : Addr} {H H1 H2 : Hp} (a : Exc p H H1) (s : Same H1 H2) : Exc p H H2 := a.trans s.toExc

def RowsN (H0 H : Hp) (l : Addr) (rs : List (List Int)) : Prop := ∃ as : List Addr, H l = some (.lst (as.map V.ref)) ∧ l ∉ as ∧ as.length = rs.length ∧ (∀ i (h1 : i < as.length) (h2 : i < rs.length), H as[i] = some (.lst (rs[i].map V.int))) ∧ H0 l = none ∧ ∀ a ∈ as, H0 a = none
theorem RowsN.rows {H0 H : Hp} {l : Addr} {rs : List (List Int)} (R : RowsN H0 H l rs) : Rows H l rs := by
  obtain ⟨as, h1, h2, h3, h4, _⟩ := R
  exact ⟨as, h1, h2, h3, h4⟩
theorem RowsN.same {H0 H H' : Hp} {l : Addr} {rs : List (List Int)} (R : RowsN H0 H l rs) (s : Same H H') : RowsN H0 H' l rs := by
  obtain ⟨as, e, n, hl, h, z⟩ := R
  exact ⟨as, s _ _ e, n, hl, fun i h1 h2 => s _ _ (h i h1 h2), z⟩
theorem RowsN.from {H0 H1 H : Hp} {l : Addr} {rs : List (List Int)} (R : RowsN H1 H l rs) (s : Same H0 H1) : RowsN H0 H l rs := by
  obtain ⟨as, e, n, hl, h, z1, z2⟩ := R
  exact ⟨as, e, n, hl, h, s.free z1, fun a ha => s.free (z2 a ha)⟩
theorem RowsN.push {H0 H : Hp} {l p : Addr} {rs : List (List Int)} {r : List Int} {as : List Addr} (e : H l = some (.lst (as.map V.ref))) (n : l ∉ as) (hl : as.length = rs.length) (h : ∀ i (h1 : i < as.length) (h2 : i < rs.length), H as[i] = some (.lst (rs[i].map V.int)))
    (z1 : H0 l = none) (z2 : ∀ a ∈ as, H0 a = none) (hp : H p = some (.lst (r.map V.int))) (np : p ≠ l) (zp : H0 p = none) : RowsN H0 (upd H l (.lst (as.map V.ref ++ [.ref p]))) l (rs ++ [r]) := by
  obtain ⟨bs, q1, q2, q3, q4⟩ := Rows.push e n hl h hp np
  rw [upd_same] at q1
  have e2 : bs = as ++ [p] := by
    have q1' : (as ++ [p]).map V.ref = bs.map V.ref := by
      have := HO.lst.inj (Option.some.inj q1)
      simpa using this
    have inj : ∀ (u v : List Addr), u.map V.ref = v.map V.ref → u = v := by
      intro u
      induction u with
      | nil => intro v hv; cases v with | nil => rfl | cons _ _ => cases hv
      | cons x u ih =>
        intro v hv
        cases v with
        | nil => cases hv
        | cons y v =>
          rw [List.map_cons, List.map_cons] at hv
          injection hv with h1 h2
          injection h1 with h1
          rw [h1, ih v h2]
    exact (inj _ _ q1').symm
  subst e2
  refine ⟨as ++ [p], upd_same.trans (by simp), q2, q3, q4, z1, fun a ha => ?_⟩
  rcases List.mem_append.mp ha with ha | ha
  · exact z2 a ha
  · have : a = p := by simpa using ha
    rw [this]; exact zp
theorem RowsN.nil {H : Hp} {p : Addr} (hp : H p = none) : RowsN H (upd H p (.lst [])) p [] := ⟨[], upd_same, by simp, rfl, fun i h1 h2 => absurd h1 (by simp), hp, fun a ha => nomatch ha⟩
end L2


set_option Elab.async false
set_option linter.all false
set_option maxRecDepth 100000
set_option maxHeartbeats 1000000
namespace L2
open PySem PySem.Spec PyProof.Rows PySem.W


section
variable {X : Cx} {a b c d : Expr} {ta tb tc td : TE} {pos : Pos}
def tChain3 (r r' r'' : R2) (ta tb tc td : TE) : TE := fun σ H Q => ta σ H fun x H1 => tb σ H1 fun y H2 => r x y H2 fun z H3 => ∃ k, z = .bl k ∧
  (if k = true then tc σ H3 fun y' H4 => r' y y' H4 fun z' H5 => ∃ k', z' = .bl k' ∧ (if k' = true then td σ H5 fun y'' H6 => r'' y' y'' H6 Q else Q (.bl false) H5) else Q (.bl false) H3)
def rBits : V → List V → Hp → VK → Prop := fun x vs H Q => ∃ i, x = .int i ∧ vs = [] ∧ Q (.int (Builtin.Int.intBits i : Nat)) H
def iSeq (K : Frag) (tl : TE) : TI := fun σ H R => tl σ H fun x H1 => ∃ a, x = .ref a ∧ (((∃ xs, SqL K H1 a xs) ∧ R (Itl K a) H1) ∨ ((∃ xs, SqT K H1 a xs) ∧ R (Itt K a) H1))
theorem pi_seq {tg l : Expr} {tl : TE} {K : Frag} (hK : X.K = K) (hl : PE X l tl) : PI X tg l (iSeq K tl) := by
  subst hK
  intro pins s σ H R I h
  refine thn (hl pins s σ H _ I h) fun v s1 ⟨x, H1, I1, r1, q1⟩ => ?_
  obtain ⟨a, e, q1⟩ := q1
  subst e
  cases r1
  rcases q1 with ⟨⟨xs, hq⟩, q⟩ | ⟨⟨xs, hq⟩, q⟩
  · obtain ⟨its, rv, p, hz⟩ := I1.list hq
    refine wpAny_pyIter_list p.isList ?_
    refine ⟨s1.heap.objs.size, [s1.heap.objs.size], _, _, H1, rfl, I1.kept (t' := s1.toks) fun b o e => Heap.get?_push_of_some _ e, turn_list a _, ⟨_, Heap.get?_push_size _ rfl, rfl, rfl⟩, fun b hb => ?_, q⟩
    have e : b = s1.heap.objs.size := by simpa using hb
    subst e
    exact I1.fpOk (Nat.le_refl _) (I1.hok.fresh (Nat.le_refl _))
  · obtain ⟨its, rv, p, hz⟩ := I1.tuple hq
    refine wpAny_pyIter_tuple (show s1.heap.IsTuple a its.toArray from p) ?_
    refine ⟨s1.heap.objs.size, [s1.heap.objs.size], _, _, H1, rfl, I1.kept (t' := s1.toks) fun b o e => Heap.get?_push_of_some _ e, turn_tuple a _, ⟨_, Heap.get?_push_size _ rfl, rfl, rfl⟩, fun b hb => ?_, q⟩
    have e : b = s1.heap.objs.size := by simpa using hb
    subst e
    exact I1.fpOk (Nat.le_refl _) (I1.hok.fresh (Nat.le_refl _))
end

def CA (n : Nat) (Pv : Nat → List V → Hp → Prop) (i m : Nat) (acc : List V) (H : Hp) : Prop := m = n - i ∧ i ≤ n ∧ acc.length ≤ i ∧ Pv i acc H
theorem CA.take {n : Nat} {Pv : Nat → List V → Hp → Prop} {i : Nat} {acc : List V} {v : V} {H : Hp} (hi : i < n) (hl : acc.length ≤ i) (h : Pv (i + 1) (acc ++ [v]) H) : ∃ m', m' < n - i ∧ CA n Pv (i + 1) m' (acc ++ [v]) H := ⟨n - (i + 1), by omega, rfl, hi, by simp; omega, h⟩
theorem CA.skip {n : Nat} {Pv : Nat → List V → Hp → Prop} {i : Nat} {acc : List V} {H : Hp} (hi : i < n) (hl : acc.length ≤ i) (h : Pv (i + 1) acc H) : ∃ m', m' < n - i ∧ CA n Pv (i + 1) m' acc H := ⟨n - (i + 1), by omega, rfl, hi, by omega, h⟩
theorem comp_inv {J : It} {n : Nat} {H1 : Hp} {g : TG} {tt : TT} {te : TE} {σ0 : St} {Q : VK} (Pv : Nat → List V → Hp → Prop) (hn : n < sizeLine) (h0 : Pv 0 [] H1) (hgo : ∀ i acc H, Pv i acc H → i < n → J.go i H) (hstop : ∀ acc H, Pv n acc H → J.stop n H)
    (hb : ∀ i x acc H H', i < n → acc.length ≤ i → Pv i acc H → J.yld i H x H' → g x σ0 H' fun σ2 H2 => tt σ2 H2 fun b H3 => if b = true then te σ2 H3 fun v H4 => ∃ m', m' < n - i ∧ CA n Pv (i + 1) m' (acc ++ [v]) H4 else ∃ m', m' < n - i ∧ CA n Pv (i + 1) m' acc H3)
    (hk : ∀ l acc H', Pv n acc H' → acc.length ≤ n → H' l = none → Q (.ref l) (upd H' l (.lst acc))) : CompR J g tt te σ0 Q H1 := by
  refine ⟨CA n Pv, ⟨n, rfl, Nat.zero_le _, Nat.le_refl _, h0⟩, ?_⟩
  rintro i m acc H ⟨rfl, hi, hl, p⟩
  by_cases h : i < n
  · exact .inr ⟨hgo i acc H p h, by omega, fun x H' y => hb i x acc H H' h hl p y⟩
  · have e : i = n := by omega
    subst e
    exact .inl ⟨hstop acc H p, by omega, fun q hq => hk q acc H p hl hq⟩

def IsQ (K : Frag) (H : Hp) {α : Type} (P : V → α → Prop) (v : V) (as : List α) : Prop := ∃ a xs, v = .ref a ∧ (SqL K H a xs ∨ SqT K H a xs) ∧ xs.length = as.length ∧ ∀ (j : Nat) (x : V) (y : α), xs[j]? = some x → as[j]? = some y → P x y
theorem IsQ.mono {K : Frag} {H H' : Hp} {α : Type} {P P' : V → α → Prop} {v : V} {as : List α} (h : IsQ K H P v as) (s : Same H H') (hp : ∀ x y, P x y → P' x y) : IsQ K H' P' v as := by
  obtain ⟨a, xs, e, q, l, r⟩ := h
  exact ⟨a, xs, e, s.q q, l, fun j x y h1 h2 => hp _ _ (r j x y h1 h2)⟩
theorem IsI.list {xs : List V} {ns : List Int} (hl : xs.length = ns.length) (h : ∀ (j : Nat) (x : V) (y : Int), xs[j]? = some x → ns[j]? = some y → IsI x y) : xs = ns.map V.int := by
  refine List.ext_getElem (by simpa using hl) fun j h1 h2 => ?_
  have h2' : j < ns.length := by simpa using h2
  rw [List.getElem_map]
  exact h j _ _ (List.getElem?_eq_getElem h1) (List.getElem?_eq_getElem h2')
theorem IsQ.at {K : Frag} {H : Hp} {α : Type} {P : V → α → Prop} {a : Addr} {as : List α} (h : IsQ K H P (.ref a) as) {j : Nat} (hj : j < as.length) : ∃ xs x, (SqL K H a xs ∨ SqT K H a xs) ∧ atI xs (j : Int) = some x ∧ P x as[j] := by
  obtain ⟨b, xs, e, q, l, r⟩ := h
  cases e
  have hj' : j < xs.length := by omega
  exact ⟨xs, xs[j], q, atI_at rfl hj', r j _ _ (List.getElem?_eq_getElem hj') (List.getElem?_eq_getElem hj)⟩

def ItemsOf2 (F : List V → HO) (H : Hp) (rs : List (List Int)) (acc : List V) : Prop := acc.length = rs.length ∧ ∀ (j : Nat) (x : V) (ns : List Int), acc[j]? = some x → rs[j]? = some ns → ∃ a, x = .ref a ∧ H a = some (F (ns.map V.int))
theorem Rows.walk {K : Frag} {H1 : Hp} {d : Addr} {rs : List (List Int)} (R : Rows H1 d rs) : (∀ i H, Same H1 H → i < rs.length → (Itl K d).go i H) ∧ (∀ H, Same H1 H → (Itl K d).stop rs.length H) ∧
    ∀ i x H H' (h : i < rs.length), Same H1 H → (Itl K d).yld i H x H' → H' = H ∧ ∃ a, x = .ref a ∧ H a = some (.lst (rs[i].map V.int)) := by
  obtain ⟨as, e, n, hl, hh⟩ := R
  refine ⟨fun i H s hi => ⟨_, V.ref (as[i]'(by omega)), SqL.of (s _ _ e), by simp [show i < as.length by omega]⟩, fun H s => ⟨_, SqL.of (s _ _ e), by simp [hl]⟩, fun i x H H' hi s y => ?_⟩
  obtain ⟨e1, y⟩ := y
  have h1 := y _ (SqL.of (s _ _ e))
  have hia : i < as.length := by omega
  rw [List.getElem?_map, List.getElem?_eq_getElem hia] at h1
  exact ⟨e1, as[i], (Option.some.inj h1).symm, s _ _ (hh i hia hi)⟩
theorem IsQ.same {K : Frag} {H H' : Hp} {v : V} {rs : List (List Int)} (h : IsQ K H (IsQ K H IsI) v rs) (s : Same H H') : IsQ K H' (IsQ K H' IsI) v rs := h.mono s fun x y q => q.mono s fun _ _ z => z

theorem IsQ.walk {K : Frag} {H1 : Hp} {l : Addr} {rs : List (List Int)} {R : It → Hp → Prop} (h : IsQ K H1 (IsQ K H1 IsI) (.ref l) rs)
    (hk : ∀ J : It, (∀ i H, Same H1 H → i < rs.length → J.go i H) → (∀ H, Same H1 H → J.stop rs.length H) → (∀ i x H H' (h : i < rs.length), Same H1 H → J.yld i H x H' → H' = H ∧ IsQ K H IsI x rs[i]) → R J H1) :
    ((∃ xs, SqL K H1 l xs) ∧ R (Itl K l) H1) ∨ ((∃ xs, SqT K H1 l xs) ∧ R (Itt K l) H1) := by
  obtain ⟨b, xs, e, q, hl, r⟩ := h
  cases e
  rcases q with q | q
  · refine .inl ⟨⟨_, q⟩, hk _ (fun i H s hi => ⟨xs, xs[i]'(by omega), s.seq q, List.getElem?_eq_getElem (by omega)⟩) (fun H s => ⟨xs, s.seq q, by omega⟩) fun i x H H' hi s y => ?_⟩
    obtain ⟨e1, y⟩ := y
    exact ⟨e1, (r i x _ (y _ (s.seq q)) (List.getElem?_eq_getElem hi)).mono s fun _ _ z => z⟩
  · refine .inr ⟨⟨_, q⟩, hk _ (fun i H s hi => ⟨xs, xs[i]'(by omega), s.seqT q, List.getElem?_eq_getElem (by omega)⟩) (fun H s => ⟨xs, s.seqT q, by omega⟩) fun i x H H' hi s y => ?_⟩
    obtain ⟨e1, y⟩ := y
    exact ⟨e1, (r i x _ (y _ (s.seqT q)) (List.getElem?_eq_getElem hi)).mono s fun _ _ z => z⟩

theorem ItemsOf2.same {F : List V → HO} {H H' : Hp} {rs : List (List Int)} {acc : List V} (h : ItemsOf2 F H rs acc) (s : Same H H') : ItemsOf2 F H' rs acc := ⟨h.1, fun j x ns h1 h2 => by obtain ⟨a, e1, e2⟩ := h.2 j x ns h1 h2; exact ⟨a, e1, s _ _ e2⟩⟩
theorem PoolAt.some {H : Hp} {p : Addr} (P : PoolAt H p) : H p ≠ none := fun z => by obtain ⟨x, y, e, _⟩ := P; rw [z] at e; cases e
end L2


set_option Elab.async false
set_option linter.all false
set_option maxRecDepth 100000
set_option maxHeartbeats 1000000
namespace L2
open PySem PySem.Spec PyProof.Rows PySem.W


section
variable {X : Cx}
def rInsert : V → List V → Hp → VK → Prop := fun x vs H Q => ∃ l xs i y, x = .ref l ∧ vs = [.int i, y] ∧ H l = some (.lst xs) ∧ 0 ≤ i ∧ i < 2 ^ 62 ∧ xs.length < sizeLine ∧ Q .non (upd H l (.lst (xs.take i.toNat ++ y :: xs.drop i.toNat)))
theorem Vals.takeN : ∀ {xs : List V} {us : List Value} (k : Nat), Vals xs us → Vals (xs.take k) (us.take k)
  | _, _, 0, _ => by simp; exact .nil
  | _, _, _ + 1, .nil => .nil
  | _, _, k + 1, .cons r h => .cons r (Vals.takeN k h)
theorem Vals.dropN : ∀ {xs : List V} {us : List Value} (k : Nat), Vals xs us → Vals (xs.drop k) (us.drop k)
  | _, _, 0, h => by simpa using h
  | _, _, _ + 1, .nil => .nil
  | _, _, k + 1, .cons _ h => Vals.dropN k h
theorem mt_insert : MtM X "list.insert" rInsert := by
  intro pins s σ H x vs v us Q I rx rv h
  obtain ⟨l, xs, i, y, rfl, rfl, hH, h1, h2, hz, q⟩ := h
  cases rx
  obtain ⟨u, u2, rfl, ru, ru2⟩ := rv.two
  obtain ⟨t, rfl⟩ := ru
  obtain ⟨z, its, n, r, hl, e⟩ := I.lstM hH
  have hf : ¬ (!Builtin.List.listFitsIndex i) = true := by
    unfold Builtin.List.listFitsIndex
    have a1 : decide (-(2 ^ 63 : Int) ≤ i) = true := decide_eq_true (by omega)
    have a2 : decide (i < (2 ^ 63 : Int)) = true := decide_eq_true (by omega)
    rw [a1, a2]; decide
  refine call_meets F.slot_list_insert ⟨_, e, rfl⟩ F.entry_list_insert (F.args_list_insert_3 _ _ _) (AutoListH.list_insert_list_int_val_1 l its.toArray n i t u2 hf (by rw [List.size_toArray]; omega)) ⟨e, ?_⟩
  refine ⟨.non, _, I.lset (its' := its.take i.toNat ++ u2 :: its.drop i.toNat) (ys := xs.take i.toNat ++ y :: xs.drop i.toNat) hH e ?_ ((r.takeN _).append (.cons ru2 (r.dropN _))) ?_, rfl, q⟩
  · show ((its.toArray.extract 0 (if i < 0 then (i + ((its.toArray.size : Nat) : Int)).toNat else min i.toNat its.toArray.size)).push u2 ++ its.toArray.extract (if i < 0 then (i + ((its.toArray.size : Nat) : Int)).toNat else min i.toNat its.toArray.size)) = _
    rw [if_neg (by omega)]
    have e1 : its.take (min i.toNat its.length) = its.take i.toNat := by
      by_cases hh : i.toNat ≤ its.length
      · rw [Nat.min_eq_left hh]
      · rw [Nat.min_eq_right (by omega), List.take_of_length_le (by omega), List.take_of_length_le (by omega)]
    have e2 : its.drop (min i.toNat its.length) = its.drop i.toNat := by
      by_cases hh : i.toNat ≤ its.length
      · rw [Nat.min_eq_left hh]
      · rw [Nat.min_eq_right (by omega), List.drop_of_length_le (by omega), List.drop_of_length_le (by omega)]
    apply Array.ext'
    simp [e1, e2]
    exact List.take_of_length_le (by rw [List.length_drop]; omega)
  · rw [List.length_append, List.length_cons, List.length_take, List.length_drop]; omega
def rIndex (K : Frag) : V → List V → Hp → VK → Prop := fun x vs H Q => ∃ (l : Addr) (ns : List Int) (k : Int), x = .ref l ∧ vs = [.int k] ∧ SqL K H l (ns.map V.int) ∧ ns.length ≤ 100000 ∧ k ∈ ns ∧ Q (.int (ns.idxOf k : Nat)) H
theorem mt_index {K : Frag} (hK : X.K = K) : MtM X "list.index" (rIndex K) := by
  subst hK
  intro pins s σ H x vs v us Q I rx rv h
  obtain ⟨l, ns, k, rfl, rfl, hH, hz, hk, q⟩ := h
  cases rx
  obtain ⟨u, rfl, ru⟩ := rv.one
  obtain ⟨t, rfl⟩ := ru
  obtain ⟨its, r, pl, _⟩ := I.list hH
  have hi : IntsAre its ns := intsAre_of r
  have hlen := r.length
  rw [List.length_map] at hlen
  obtain ⟨⟨cls, dd, data, sl⟩, ho, hc, n, hd⟩ := pl.isList
  simp only at hc hd
  subst hc hd
  have hj : ns.idxOf k < ns.length := List.idxOf_lt_length_iff.mpr hk
  refine call_meets F.slot_list_index ⟨_, ho, rfl⟩ F.entry_list_index (F.args_list_index_2 _ _)
    (SeqAt.list_indexAt l its.toArray n dd sl (.int k t) (isInt k) (ns.idxOf k) (by rw [List.size_toArray]; omega) (by omega) ?_ ?_) ⟨ho, fun y hy => (eq_isInt k t hi y (by simpa using hy)).at _ _, ⟨.int _, H, I.tok _, ⟨_, rfl⟩, q⟩⟩
  · show isInt k its[ns.idxOf k] = true
    rw [isInt_at k hi _ (by omega) hj]
    simpa using List.getElem_idxOf hj
  · intro j hjs hlt
    show isInt k its[j] = false
    rw [isInt_at k hi j (by simpa using hjs) (by omega)]
    exact ne_of_lt_idxOf hlt _
end
def rIntB : List V → Hp → VK → Prop := fun xs H Q => ∃ k, xs = [.bl k] ∧ Q (.int (if k = true then 1 else 0)) H
def PotAt (H : Hp) (p : Addr) : Prop := ∃ x : Int, H p = some (.lst [.int x]) ∧ 0 ≤ x
theorem PotAt.ne {H : Hp} {p q : Addr} (P : PotAt H p) (h : H q = none) : q ≠ p := by
  obtain ⟨x, e, _⟩ := P
  exact (ne_of_none e h).symm
theorem PotAt.same {H H' : Hp} {p : Addr} (P : PotAt H p) (s : Same H H') : PotAt H' p := by
  obtain ⟨x, e, r⟩ := P
  exact ⟨x, s _ _ e, r⟩
theorem PotAt.upd {H : Hp} {p q : Addr} {o : HO} (P : PotAt H p) (h : H q = none) : PotAt (L2.upd H q o) p := P.same ((Same.refl H).upd h)
theorem PotAt.updN {H : Hp} {p q : Addr} {o : HO} (P : PotAt H p) (h : q ≠ p) : PotAt (L2.upd H q o) p := by
  obtain ⟨x, e, r⟩ := P
  exact ⟨x, by rw [upd_ne h.symm]; exact e, r⟩
theorem PotAt.some {H : Hp} {p : Addr} (P : PotAt H p) : H p ≠ none := fun z => by obtain ⟨x, e, _⟩ := P; rw [z] at e; cases e
theorem cp60 : CPow 10 60 := by unfold CPow; decide
theorem qm1 : IntMulOk (10 ^ Int.toNat 60) (10 ^ Int.toNat 60) := big_mul (by decide +kernel) (by decide +kernel)
theorem qm2 : IntMulOk (10 ^ Int.toNat 60 * 10 ^ Int.toNat 60) (10 ^ Int.toNat 60) := big_mul (by decide +kernel) (by decide +kernel)
theorem qm3 : IntMulOk (10 ^ Int.toNat 60 * 10 ^ Int.toNat 60 * 10 ^ Int.toNat 60) (10 ^ Int.toNat 60) := big_mul (by decide +kernel) (by decide +kernel)
theorem qm4 : (0 : Int) < 10 ^ Int.toNat 60 * 10 ^ Int.toNat 60 * 10 ^ Int.toNat 60 * 10 ^ Int.toNat 60 := by decide +kernel
end L2


set_option Elab.async false
set_option linter.all false
set_option maxRecDepth 100000
set_option maxHeartbeats 1000000
namespace L2


def IsPrev (f : Nat → Int) (p q : Nat) : Prop := q < p ∧ f q ≤ f p ∧ ∀ r, q < r → r < p → f p < f r
def IsNext (f : Nat → Int) (n p r : Nat) : Prop := p < r ∧ r < n ∧ f r < f p ∧ ∀ s, p < s → s < r → f p ≤ f s
def NoPrev (f : Nat → Int) (p : Nat) : Prop := ∀ q, q < p → f p < f q
def NoNext (f : Nat → Int) (n p : Nat) : Prop := ∀ r, p < r → r < n → f p ≤ f r

def ElderIs (f : Nat → Int) (n p : Nat) (e : Int) : Prop :=
  (NoPrev f p ∧ NoNext f n p ∧ e = -1) ∨ (∃ q, IsPrev f p q ∧ NoNext f n p ∧ e = q) ∨ (∃ r, NoPrev f p ∧ IsNext f n p r ∧ e = r) ∨
  ∃ q r, IsPrev f p q ∧ IsNext f n p r ∧ e = if f q ≤ f r then (r : Int) else q
theorem exists_last {P : Nat → Prop} [DecidablePred P] (i : Nat) : ∀ d r, r + d = i → P r → ∃ t, r ≤ t ∧ t ≤ i ∧ P t ∧ ∀ s, t < s → s ≤ i → ¬ P s := by
  intro d
  induction d with
  | zero => intro r e h; exact ⟨r, Nat.le_refl _, by omega, h, fun s h1 h2 => by omega⟩
  | succ d ih =>
    intro r e h
    by_cases hx : ∃ t, r < t ∧ t ≤ i ∧ P t
    · obtain ⟨t, h1, h2, h3⟩ := hx
      -- step to r + 1 by cases
      by_cases h4 : P (r + 1)
      · obtain ⟨u, u1, u2, u3, u4⟩ := ih (r + 1) (by omega) h4
        exact ⟨u, by omega, u2, u3, u4⟩
      · -- go on from the next one
        have gen : ∀ k t, t + k = i → r < t → P t → ∃ u, r ≤ u ∧ u ≤ i ∧ P u ∧ ∀ s, u < s → s ≤ i → ¬ P s := by
          intro k
          induction k with
          | zero => intro t e h1 h3; exact ⟨t, by omega, by omega, h3, fun s h1 h2 => by omega⟩
          | succ k ihk =>
            intro t e h1 h3
            by_cases hy : ∃ s, t < s ∧ s ≤ i ∧ P s
            · -- the last one of the rest
              have key : ∀ m, m ≤ i → (∃ s, t < s ∧ s ≤ m ∧ P s) → ∃ u, t < u ∧ u ≤ m ∧ P u ∧ ∀ s, u < s → s ≤ m → ¬ P s := by
                intro m
                induction m with
                | zero => rintro _ ⟨s, h5, h6, _⟩; omega
                | succ m ihm =>
                  rintro hm ⟨s, h5, h6, h7⟩
                  by_cases hp : P (m + 1)
                  · exact ⟨m + 1, by omega, Nat.le_refl _, hp, fun s h1 h2 => by omega⟩
                  · have hs : s ≤ m := by
                      rcases Nat.lt_or_ge m s with z | z
                      · have : s = m + 1 := by omega
                        rw [this] at h7; exact absurd h7 hp
                      · exact z
                    obtain ⟨u, u1, u2, u3, u4⟩ := ihm (by omega) ⟨s, h5, hs, h7⟩
                    refine ⟨u, u1, by omega, u3, fun s' h1 h2 => ?_⟩
                    by_cases e : s' = m + 1
                    · rw [e]; exact hp
                    · exact u4 s' h1 (by omega)
              obtain ⟨u, u1, u2, u3, u4⟩ := key i (Nat.le_refl _) hy
              exact ⟨u, by omega, u2, u3, u4⟩
            · exact ⟨t, by omega, by omega, h3, fun s h1 h2 h5 => hy ⟨s, h1, h2, h5⟩⟩
        exact gen (i - t) t (by omega) h1 h3
    · exact ⟨r, Nat.le_refl _, by omega, h, fun s h1 h2 h3 => hx ⟨s, h1, h2, h3⟩⟩

theorem last_below {P : Nat → Prop} [DecidablePred P] {n r : Nat} (hr : r < n) (h : P r) : ∃ t, r ≤ t ∧ t < n ∧ P t ∧ ∀ s, t < s → s < n → ¬ P s := by
  obtain ⟨t, h1, h2, h3, h4⟩ := exists_last (P := P) (n - 1) (n - 1 - r) r (by omega) h
  exact ⟨t, h1, by omega, h3, fun s a b => h4 s a (by omega)⟩
def Spine (f : Nat → Int) (i : Nat) (sp : List Nat) : Prop := sp.Pairwise (· < ·) ∧ ∀ q, q ∈ sp ↔ q < i ∧ ∀ r, q < r → r < i → f q ≤ f r
theorem prev_or (f : Nat → Int) (p : Nat) : NoPrev f p ∨ ∃ q, IsPrev f p q := by
  by_cases h : ∃ q, q < p ∧ f q ≤ f p
  · obtain ⟨q, h1, h2⟩ := h
    obtain ⟨t, _, t2, t3, t4⟩ := last_below (P := fun q => f q ≤ f p) h1 h2
    exact .inr ⟨t, t2, t3, fun r a b => by have := t4 r a b; omega⟩
  · exact .inl fun q hq => by
      have : ¬ (f q ≤ f p) := fun z => h ⟨q, hq, z⟩
      omega

theorem prev_open {f : Nat → Int} {i p q : Nat} (hp : p < i) (ho : ∀ r, p < r → r < i → f p ≤ f r) (h : IsPrev f p q) : (∀ r, q < r → r < i → f q ≤ f r) ∧ ∀ s, q < s → s < p → ¬ ∀ r, s < r → r < i → f s ≤ f r := by
  obtain ⟨h1, h2, h3⟩ := h
  refine ⟨fun r a b => ?_, fun s a b z => ?_⟩
  · rcases Nat.lt_trichotomy r p with c | c | c
    · have := h3 r a c; omega
    · rw [c]; exact h2
    · have := ho r c b; omega
  · have := z p b hp
    have := h3 s a b
    omega
theorem spine_step {f : Nat → Int} {i : Nat} {A B : List Nat} (hs : Spine f i (A ++ B)) (hA : ∀ q ∈ A, f q ≤ f i) (hB : ∀ q ∈ B, f i < f q) :
    Spine f (i + 1) (A ++ [i]) ∧ ElderIs f (i + 1) i (match A.getLast? with | some q => (q : Int) | none => -1) ∧ ∀ p e, p < i → ElderIs f i p e → ElderIs f (i + 1) p (if B.head? = some p then (i : Int) else e) := by
  obtain ⟨hso, hm⟩ := hs
  have hAB := List.pairwise_append.mp hso
  have noNx : NoNext f (i + 1) i := fun r a b => by omega
  refine ⟨⟨?_, fun q => ?_⟩, ?_, fun p e hp he => ?_⟩
  · refine List.pairwise_append.mpr ⟨hAB.1, List.pairwise_singleton _ _, fun a ha b hb => ?_⟩
    have : b = i := by simpa using hb
    rw [this]
    exact ((hm a).mp (List.mem_append_left _ ha)).1
  · rw [List.mem_append, List.mem_singleton]
    constructor
    · rintro (h | h)
      · obtain ⟨h1, h2⟩ := (hm q).mp (List.mem_append_left _ h)
        refine ⟨by omega, fun r a b => ?_⟩
        by_cases e : r = i
        · rw [e]; exact hA q h
        · exact h2 r a (by omega)
      · subst h; exact ⟨by omega, fun r a b => by omega⟩
    · rintro ⟨h1, h2⟩
      by_cases e : q = i
      · exact .inr e
      · have hq : q ∈ A ++ B := (hm q).mpr ⟨by omega, fun r a b => h2 r a (by omega)⟩
        rcases List.mem_append.mp hq with h | h
        · exact .inl h
        · have := hB q h
          have := h2 i (by omega) (by omega)
          omega
  · -- the elder of i
    rcases prev_or f i with h | ⟨q, h⟩
    · have hA0 : A = [] := by
        cases A with
        | nil => rfl
        | cons a r =>
          have h1 := ((hm a).mp (by simp)).1
          have := hA a (by simp)
          have := h a h1
          omega
      rw [hA0]
      exact .inl ⟨h, noNx, rfl⟩
    · have ho : ∀ r, q < r → r < i → f q ≤ f r := fun r a b => by have := h.2.2 r a b; have := h.2.1; omega
      have hqA : q ∈ A := by
        rcases List.mem_append.mp ((hm q).mpr ⟨h.1, ho⟩) with z | z
        · exact z
        · have := hB q z; have := h.2.1; omega
      have hlast : A.getLast? = some q := by
        have hne : A ≠ [] := fun z => by rw [z] at hqA; cases hqA
        rw [List.getLast?_eq_some_getLast hne]
        congr 1
        have hl : A.getLast hne ∈ A := List.getLast_mem hne
        -- q ≤ last, and last is not past q
        by_cases e : A.getLast hne = q
        · exact e
        · exfalso
          have hlt : q < A.getLast hne := by
            have hd := List.dropLast_concat_getLast hne
            have hq2 : q ∈ A.dropLast := by
              rw [← hd] at hqA
              rcases List.mem_append.mp hqA with z | z
              · exact z
              · exact absurd (by simpa using z) (Ne.symm e)
            have hp2 := hAB.1
            rw [← hd] at hp2
            exact (List.pairwise_append.mp hp2).2.2 q hq2 _ (by simp)
          have h1 := ((hm (A.getLast hne)).mp (List.mem_append_left _ hl)).1
          have := h.2.2 _ hlt h1
          have := hA _ hl
          omega
      rw [hlast]
      exact .inr (.inl ⟨q, h, noNx, rfl⟩)
  · -- the elder of an earlier place
    have nxt : ∀ r, IsNext f i p r → IsNext f (i + 1) p r := fun r ⟨a, b, c, d⟩ => ⟨a, by omega, c, d⟩
    by_cases hop : NoNext f i p
    · have hmem : p ∈ A ++ B := (hm p).mpr ⟨hp, hop⟩
      by_cases hlt : f i < f p
      · have hnx : IsNext f (i + 1) p i := ⟨hp, by omega, hlt, fun s a b => hop s a b⟩
        have hpB : p ∈ B := by
          rcases List.mem_append.mp hmem with z | z
          · have := hA p z; omega
          · exact z
        obtain ⟨b0, Br, rfl⟩ : ∃ b0 Br, B = b0 :: Br := by
          cases B with
          | nil => cases hpB
          | cons b0 Br => exact ⟨b0, Br, rfl⟩
        have hhead : (b0 :: Br).head? = some b0 := rfl
        rw [hhead]
        rcases prev_or f p with hn | ⟨q, hq⟩
        · -- nothing ahead: p is the first of all
          have e0 : b0 = p := by
            by_cases z : b0 = p
            · exact z
            · exfalso
              have hpr : p ∈ Br := by
                rcases List.mem_cons.mp hpB with y | y
                · exact absurd y.symm z
                · exact y
              have hlt2 : b0 < p := (List.pairwise_cons.mp hAB.2.1).1 p hpr
              have := ((hm b0).mp (by simp)).2 p hlt2 hp
              have := hn b0 hlt2
              omega
          rw [if_pos (by rw [e0])]
          exact .inr (.inr (.inl ⟨i, hn, hnx, rfl⟩))
        · obtain ⟨hq1, hq2⟩ := prev_open hp hop hq
          have hqm : q ∈ A ++ b0 :: Br := (hm q).mpr ⟨Nat.lt_trans hq.1 hp, hq1⟩
          by_cases hqi : f q ≤ f i
          · -- q is kept: p is the first of B
            have e0 : b0 = p := by
              by_cases z : b0 = p
              · exact z
              · exfalso
                have hpr : p ∈ Br := by
                  rcases List.mem_cons.mp hpB with y | y
                  · exact absurd y.symm z
                  · exact y
                have hlt2 : b0 < p := (List.pairwise_cons.mp hAB.2.1).1 p hpr
                have hb0 := (hm b0).mp (by simp)
                have hqA : q ∈ A := by
                  rcases List.mem_append.mp hqm with y | y
                  · exact y
                  · have := hB q y; omega
                have hqb : q < b0 := hAB.2.2 q hqA b0 (by simp)
                exact hq2 b0 hqb hlt2 hb0.2
            rw [if_pos (by rw [e0])]
            refine .inr (.inr (.inr ⟨q, i, hq, hnx, ?_⟩))
            rw [if_pos hqi]
          · -- q goes, too: the elder stays
            have hqB : q ∈ b0 :: Br := by
              rcases List.mem_append.mp hqm with y | y
              · exact absurd (hA q y) hqi
              · exact y
            have hne : b0 ≠ p := by
              intro z
              subst z
              rcases List.mem_cons.mp hqB with y | y
              · have := hq.1; omega
              · have := (List.pairwise_cons.mp hAB.2.1).1 q y
                have := hq.1; omega
            rw [if_neg (by intro z; exact hne (Option.some.inj z))]
            have ee : e = q := by
              rcases he with ⟨h1, _, _⟩ | ⟨q', h1, _, h3⟩ | ⟨r, h1, _, _⟩ | ⟨q', r, _, h2, _⟩
              · have := h1 q hq.1; have := hq.2.1; omega
              · have : q' = q := by
                  rcases Nat.lt_trichotomy q' q with y | y | y
                  · have := h1.2.2 q y hq.1; have := hq.2.1; omega
                  · exact y
                  · have := hq.2.2 q' y h1.1; have := h1.2.1; omega
                rw [h3, this]
              · have := h1 q hq.1; have := hq.2.1; omega
              · have := hop r h2.1 h2.2.1; have := h2.2.2.1; omega
            refine .inr (.inr (.inr ⟨q, i, hq, hnx, ?_⟩))
            rw [if_neg hqi, ee]
      · -- still open: not of B
        have hnn : NoNext f (i + 1) p := fun r a b => by
          by_cases z : r = i
          · rw [z]; omega
          · exact hop r a (by omega)
        have hne : B.head? ≠ some p := fun z => by
          have : p ∈ B := List.mem_of_head? z
          have := hB p this
          omega
        rw [if_neg hne]
        rcases he with ⟨h1, _, h3⟩ | ⟨q, h1, _, h3⟩ | ⟨r, _, h2, _⟩ | ⟨q, r, _, h2, _⟩
        · exact .inl ⟨h1, hnn, h3⟩
        · exact .inr (.inl ⟨q, h1, hnn, h3⟩)
        · have := hop r h2.1 h2.2.1; have := h2.2.2.1; omega
        · have := hop r h2.1 h2.2.1; have := h2.2.2.1; omega
    · -- shut already
      have hne : B.head? ≠ some p := fun z => hop ((hm p).mp (List.mem_append_right _ (List.mem_of_head? z))).2
      rw [if_neg hne]
      rcases he with ⟨_, h2, _⟩ | ⟨q, _, h2, _⟩ | ⟨r, h1, h2, h3⟩ | ⟨q, r, h1, h2, h3⟩
      · exact absurd h2 hop
      · exact absurd h2 hop
      · exact .inr (.inr (.inl ⟨r, h1, nxt r h2, h3⟩))
      · exact .inr (.inr (.inr ⟨q, r, h1, nxt r h2, h3⟩))
end L2


set_option Elab.async false
set_option linter.all false
set_option maxRecDepth 100000
set_option maxHeartbeats 1000000
namespace L2
open PySem PySem.Spec PyProof.Rows PySem.W


theorem fm_congr {α β : Type} {f g : α → Option β} : ∀ {l : List α}, (∀ x ∈ l, f x = g x) → l.filterMap f = l.filterMap g
  | [], _ => rfl
  | x :: r, h => by rw [List.filterMap_cons, List.filterMap_cons, h x (List.mem_cons_self ..), fm_congr fun y hy => h y (List.mem_cons_of_mem _ hy)]
theorem keep_take (its : List Value) (k : Nat) (hk : k ≤ its.length) (start : Nat) : (its.zipIdx start).filterMap (fun xk => if (decide (((start + k : Nat) : Int) ≤ (xk.2 : Int)) && decide ((xk.2 : Int) < ((start + its.length : Nat) : Int)) && (((xk.2 : Int) - ((start + k : Nat) : Int)) % 1 == 0)) = true then none else some xk.1) = its.take k := by
  induction its generalizing k start with
  | nil => simp
  | cons x r ih =>
    rw [List.zipIdx_cons, List.filterMap_cons]
    cases k with
    | zero =>
      have h1 : (decide (((start + 0 : Nat) : Int) ≤ (start : Int)) && decide ((start : Int) < ((start + (x :: r).length : Nat) : Int)) && (((start : Int) - ((start + 0 : Nat) : Int)) % 1 == 0)) = true := by
        simp; omega
      simp only [h1, if_true]
      have := ih 0 (by omega) (start + 1)
      rw [List.take_zero] at this ⊢
      rw [← this]
      refine fm_congr fun xk hxk => ?_
      have hm := List.mem_zipIdx hxk
      have e1 : (decide (((start + 0 : Nat) : Int) ≤ (xk.2 : Int))) = (decide (((start + 1 + 0 : Nat) : Int) ≤ (xk.2 : Int))) := by
        rw [decide_eq_decide]; omega
      have e2 : ((start + (x :: r).length : Nat) : Int) = ((start + 1 + r.length : Nat) : Int) := by simp; omega
      have e3 : (((xk.2 : Int) - ((start + 0 : Nat) : Int)) % 1 == 0) = (((xk.2 : Int) - ((start + 1 + 0 : Nat) : Int)) % 1 == 0) := by simp [Int.emod_one]
      rw [e1, e2, e3]
    | succ k =>
      have h1 : (decide (((start + (k + 1) : Nat) : Int) ≤ (start : Int)) && decide ((start : Int) < ((start + (x :: r).length : Nat) : Int)) && (((start : Int) - ((start + (k + 1) : Nat) : Int)) % 1 == 0)) = false := by
        have : decide (((start + (k + 1) : Nat) : Int) ≤ (start : Int)) = false := decide_eq_false (by omega)
        rw [this]; rfl
      simp only [h1, Bool.false_eq_true, if_false]
      rw [List.take_succ_cons]
      congr 1
      have := ih k (by simpa using hk) (start + 1)
      rw [← this]
      refine fm_congr fun xk hxk => ?_
      have e1 : ((start + (k + 1) : Nat) : Int) = ((start + 1 + k : Nat) : Int) := by omega
      have e2 : ((start + (x :: r).length : Nat) : Int) = ((start + 1 + r.length : Nat) : Int) := by simp; omega
      rw [e1, e2]
section
variable {X : Cx} {e st : Expr} {te ts : TE} {pos pos1 p2 : Pos}
def tDelT (te ts : TE) : TS := fun D σ H => te σ H fun x H1 => ts σ H1 fun z H2 => ∃ (l : Addr) (xs : List V) (k : Nat), x = .ref l ∧ z = .int k ∧ H2 l = some (.lst xs) ∧ k ≤ xs.length ∧ D.nx σ (upd H2 l (.lst (xs.take k)))
theorem ps_delTail (he : PE X e te) (hs : PE X st ts) : PS X (.Delete [.Subscript e (.Slice (some st) none none p2) pos1] pos) (tDelT te ts) := by
  intro pins s σ H D I h
  refine wpAny_Delete (wpAny_deleteEach_cons ?_)
  show wpAny _ _ (eval e X.env >>= fun ov => holding [ov] (eval (.Slice (some st) none none p2) X.env) >>= fun iv => (do standAt pos1; holding [ov, iv] (delItem ov iv); release [ov, iv] [])) _ _ _
  refine wpAny_bind (thn (he pins s σ H _ I h) fun v s1 ⟨x, H1, I1, r1, q1⟩ => ?_)
  refine wpAny_bind (wpAny_holding ?_)
  refine wpAny_Slice ?_
  rw [evalPart_some]
  refine thn (hs pins s1 σ H1 _ I1 q1) fun vs s2 ⟨z, H2, I2, r2, l, xs, k, e1, e2, hx, hk, q⟩ => ?_
  subst e1 e2
  obtain ⟨tk, rfl⟩ := r2
  cases r1
  rw [evalPart_none]
  refine wpAny_pure ?_
  refine wpAny_pure ?_
  have I4 : Inv X pins σ H2 { s2 with heap := s2.heap.push { cls := .type "slice", data := .fields #[.int k tk, .none, .none] } } := I2.kept (t' := s2.toks) fun b ob q => Heap.get?_push_of_some _ q
  have hsl : ({ s2 with heap := s2.heap.push { cls := .type "slice", data := .fields #[.int k tk, .none, .none] } } : Shared).heap.get? s2.heap.objs.size = some { cls := .type "slice", data := .fields #[.int k tk, .none, .none] } := Heap.get?_push_size _ rfl
  obtain ⟨z, its, n, r, hlen, hob⟩ := I4.lstM hx
  generalize ({ s2 with heap := s2.heap.push { cls := .type "slice", data := .fields #[.int k tk, .none, .none] } } : Shared) = s4 at I4 hsl hob ⊢
  have hT : s4.TypeIs (.ref l) "list" := ⟨_, hob, rfl⟩
  have hTs : s4.TypeIs (.ref s2.heap.objs.size) "slice" := ⟨_, hsl, rfl⟩
  refine wpAny_bind (wpAny_standAt (wpAny_bind (wpAny_holding ?_)))
  refine wpAny_delItem_slot hT (by decide) F.slot_list_delitem (wpAny_call_entry F.slot_list_delitem hT F.entry_list_delitem ?_ (F.args_list_delitem_2 _ _))
  show wpAny _ _ (Builtin.List.listSubscript? (.ref s2.heap.objs.size) >>= _) _ _ s4
  refine wpAny_bind ?_; unfold Builtin.List.listSubscript?; refine wpAny_bind (wpAny_specialOf hTs slice_no_index ?_)
  simp only [Option.isNone_none, if_true]; refine wpAny_pure ?_
  show wpAny _ _ (typeOf (.ref s2.heap.objs.size) >>= _) _ _ s4
  refine wpAny_bind (wpAny_typeOf hTs ?_); rw [if_neg (by decide), listSliceParts_eq]
  refine wpAny_bind (wpAny_bind (wpAny_field hsl rfl (x := .none) rfl (wpAny_bind (wpAny_listPart (k := none) .none ?_)))); rw [if_neg (show ¬ ((rawPart none == rawInt 0) = true) from Bool.false_ne_true)]
  refine wpAny_bind (wpAny_field hsl rfl (x := .int k tk) rfl (wpAny_bind (wpAny_listPart (.int (k : Int) tk) ?_)))
  refine wpAny_bind (wpAny_field hsl rfl (x := .none) rfl (wpAny_bind (wpAny_listPart (k := none) .none (wpAny_pure ?_))))
  refine wpAny_bind (m := Builtin.List.listItems (.ref l)) ?_; unfold Builtin.List.listItems
  refine wpAny_bind (wpAny_seqItems hob rfl (wpAny_pure ?_)); refine wpAny_bind (wpAny_of_eq (sliceIndices_raw (some (k : Int)) none none its.toArray.size (by simp)) (wpAny_bind (wpAny_rule ?_)))
  have hb : sliceBounds (some (k : Int)) none none its.toArray.size = ((k : Int), ((its.length : Nat) : Int), 1) := by
    unfold sliceBounds
    simp
    omega
  rw [hb]
  have hf : ∀ f : Array Value → Array Value, (∀ ys : Array Value, f ys = (ys.toList.zipIdx.filterMap fun xk => if (decide ((k : Int) ≤ (xk.2 : Int)) && decide ((xk.2 : Int) < ((its.length : Nat) : Int)) && (((xk.2 : Int) - (k : Int)) % 1 == 0)) = true then none else some xk.1).toArray) → f its.toArray = (its.take k).toArray := fun f h => by
    rw [h]
    congr 1
    have := keep_take its k (by omega) 0
    simpa using this
  refine wpAny_bind (m := updateSeq l _) ?_
  refine wpAny_updateSeq (n := n) hob rfl ?_ (by rw [List.size_toArray]; omega) ?_
  · refine wpAny_bind (wpAny_letGo (wpAny_pure ⟨_, rfl, ?_⟩))
    refine wpAny_release (wpAny_deleteEach_nil ⟨σ, _, I4.lset hx hob (hf _ fun ys => rfl) (r.takeN k) ?_, q⟩)
    rw [List.length_take]; omega
  · rw [List.size_toArray]
    refine Nat.le_trans (List.length_filterMap_le _ _) ?_
    rw [List.length_zipIdx]
    show its.length ≤ sizeLine + 1
    omega
end
end L2


set_option Elab.async false
set_option linter.all false
set_option maxRecDepth 100000
set_option maxHeartbeats 1000000
namespace L2
open PySem PySem.Spec PyProof.Rows PySem.W


theorem IsPrev.unique {f : Nat → Int} {p q q' : Nat} (h : IsPrev f p q) (k : IsPrev f p q') : q = q' := by
  rcases Nat.lt_trichotomy q q' with z | z | z
  · have := h.2.2 q' z k.1; have := k.2.1; omega
  · exact z
  · have := k.2.2 q z h.1; have := h.2.1; omega
theorem IsNext.unique {f : Nat → Int} {n p r r' : Nat} (h : IsNext f n p r) (k : IsNext f n p r') : r = r' := by
  rcases Nat.lt_trichotomy r r' with z | z | z
  · have := k.2.2.2 r h.1 z; have := h.2.2.1; omega
  · exact z
  · have := h.2.2.2 r' k.1 z; have := k.2.2.1; omega
theorem IsPrev.no {f : Nat → Int} {p q : Nat} (h : IsPrev f p q) (k : NoPrev f p) : False := by have := k q h.1; have := h.2.1; omega
theorem IsNext.no {f : Nat → Int} {n p r : Nat} (h : IsNext f n p r) (k : NoNext f n p) : False := by have := k r h.1 h.2.1; have := h.2.2.1; omega
theorem ElderIs.unique {f : Nat → Int} {n p : Nat} {e e' : Int} (h : ElderIs f n p e) (k : ElderIs f n p e') : e = e' := by
  rcases h with ⟨h1, h2, h3⟩ | ⟨q, h1, h2, h3⟩ | ⟨r, h1, h2, h3⟩ | ⟨q, r, h1, h2, h3⟩ <;>
  rcases k with ⟨k1, k2, k3⟩ | ⟨q', k1, k2, k3⟩ | ⟨r', k1, k2, k3⟩ | ⟨q', r', k1, k2, k3⟩
  · rw [h3, k3]
  · exact (k1.no h1).elim
  · exact (k2.no h2).elim
  · exact (k1.no h1).elim
  · exact (h1.no k1).elim
  · rw [h3, k3, h1.unique k1]
  · exact (h1.no k1).elim
  · exact (k2.no h2).elim
  · exact (h2.no k2).elim
  · exact (k1.no h1).elim
  · rw [h3, k3, h2.unique k2]
  · exact (k1.no h1).elim
  · exact (h1.no k1).elim
  · exact (h2.no k2).elim
  · exact (h1.no k1).elim
  · rw [h3, k3, h1.unique k1, h2.unique k2]
def TreeIs (ns : List Int) (es : List Int) : Prop := es.length = ns.length ∧ ∀ p, p < ns.length → ElderIs (nth ns) ns.length p (es.getD p 0)
theorem TreeIs.unique {ns es es' : List Int} (h : TreeIs ns es) (k : TreeIs ns es') : es = es' := by
  refine List.ext_getElem (by rw [h.1, k.1]) fun j h1 h2 => ?_
  have hj : j < ns.length := by rw [← h.1]; exact h1
  have := (h.2 j hj).unique (k.2 j hj)
  simpa [List.getD_eq_getElem?_getD, h1, h2] using this

def GoodS (f : Nat → Int) (n : Nat) (a b e : Int) : Prop := 0 ≤ a ∧ a ≤ b + 1 ∧ b < n ∧ (∀ k : Nat, a = ((k + 1 : Nat) : Int) → ∀ q : Nat, a ≤ q → (q : Int) ≤ b → f k ≤ f q) ∧ (∀ k : Nat, b + 1 = (k : Int) → k < n → ∀ q : Nat, a ≤ q → (q : Int) ≤ b → f k < f q) ∧
  e = (if a = 0 then (if b + 1 = n then -1 else b + 1) else if b + 1 = n then a - 1 else if f (a - 1).toNat ≤ f (b + 1).toNat then b + 1 else a - 1)
theorem GoodS.elder {f : Nat → Int} {n : Nat} {a c : Nat} {e : Int} (h : GoodS f n a ((a + c : Nat) : Int) e) : ElderIs f n (lowF f a c) e := by
  obtain ⟨h0, h1, h2, h3, h4, h5⟩ := h
  obtain ⟨l1, l2, l3, l4⟩ := lowF_is f a c
  generalize lowF f a c = p at l1 l2 l3 l4
  have prevA : ∀ k, a = k + 1 → IsPrev f p k := fun k hk => ⟨by omega, h3 k (by omega) p (by omega) (by omega), fun r r1 r2 => l3 r (by omega) r2⟩
  have prev0 : a = 0 → NoPrev f p := fun z q hq => l3 q (by omega) hq
  have nextB : a + c + 1 < n → IsNext f n p (a + c + 1) := fun z => ⟨by omega, z, h4 (a + c + 1) (by omega) z p (by omega) (by omega), fun s s1 s2 => l4 s s1 (by omega)⟩
  have next0 : a + c + 1 = n → NoNext f n p := fun z r r1 r2 => l4 r r1 (by omega)
  by_cases za : a = 0
  · by_cases zb : a + c + 1 = n
    · refine .inl ⟨prev0 za, next0 zb, ?_⟩
      rw [h5, if_pos (by omega), if_pos (by omega)]
    · refine .inr (.inr (.inl ⟨a + c + 1, prev0 za, nextB (by omega), ?_⟩))
      rw [h5, if_pos (by omega), if_neg (by omega)]; omega
  · obtain ⟨k, hk⟩ : ∃ k, a = k + 1 := ⟨a - 1, by omega⟩
    by_cases zb : a + c + 1 = n
    · refine .inr (.inl ⟨k, prevA k hk, next0 zb, ?_⟩)
      rw [h5, if_neg (by omega), if_pos (by omega)]; omega
    · refine .inr (.inr (.inr ⟨k, a + c + 1, prevA k hk, nextB (by omega), ?_⟩))
      have e1 : ((a : Int) - 1).toNat = k := by omega
      have e2 : (((a + c : Nat) : Int) + 1).toNat = a + c + 1 := by omega
      rw [h5, if_neg (by omega), if_neg (by omega), e1, e2]
      split <;> omega
theorem GoodS.ahead {f : Nat → Int} {n : Nat} {a c : Nat} {e : Int} (h : GoodS f n a ((a + c : Nat) : Int) e) : GoodS f n a ((lowF f a c : Int) - 1) (lowF f a c) := by
  obtain ⟨h0, h1, h2, h3, h4, h5⟩ := h
  obtain ⟨l1, l2, l3, l4⟩ := lowF_is f a c
  generalize lowF f a c = p at l1 l2 l3 l4
  refine ⟨h0, by omega, by omega, fun k hk q q1 q2 => h3 k hk q q1 (by omega), fun k hk hkn q q1 q2 => ?_, ?_⟩
  · have : k = p := by omega
    subst this
    exact l3 q (by omega) (by omega)
  · by_cases za : a = 0
    · rw [if_pos (by omega), if_neg (by omega)]; omega
    · rw [if_neg (by omega), if_neg (by omega)]
      have e2 : ((p : Int) - 1 + 1).toNat = p := by omega
      have := h3 (a - 1) (by omega) p (by omega) (by omega)
      have e1 : ((a : Int) - 1).toNat = a - 1 := by omega
      rw [e1, e2, if_pos this]; omega
theorem GoodS.behind {f : Nat → Int} {n : Nat} {a c : Nat} {e : Int} (h : GoodS f n a ((a + c : Nat) : Int) e) : GoodS f n ((lowF f a c : Int) + 1) ((a + c : Nat) : Int) (lowF f a c) := by
  obtain ⟨h0, h1, h2, h3, h4, h5⟩ := h
  obtain ⟨l1, l2, l3, l4⟩ := lowF_is f a c
  generalize lowF f a c = p at l1 l2 l3 l4
  refine ⟨by omega, by omega, h2, fun k hk q q1 q2 => ?_, fun k hk hkn q q1 q2 => h4 k hk hkn q (by omega) q2, ?_⟩
  · have : k = p := by omega
    subst this
    exact l4 q (by omega) (by omega)
  · rw [if_neg (by omega)]
    by_cases zb : a + c + 1 = n
    · rw [if_pos (by omega)]; omega
    · rw [if_neg (by omega)]
      have e1 : ((p : Int) + 1 - 1).toNat = p := by omega
      have e2 : (((a + c : Nat) : Int) + 1).toNat = a + c + 1 := by omega
      have := h4 (a + c + 1) (by omega) (by omega) p (by omega) (by omega)
      rw [e1, e2, if_neg (by omega)]; omega

theorem elder_lists {f : Nat → Int} {n p : Nat} (hp : p < n) : ElderIs f n p
    (match ((List.range p).filter fun q => decide (f q ≤ f p)).getLast?, ((List.range (n - (p + 1))).filter fun j => decide (f (p + 1 + j) < f p)).head? with
      | none, none => -1
      | none, some j => ((p + 1 + j : Nat) : Int)
      | some q, none => q
      | some q, some j => if f q ≤ f (p + 1 + j) then ((p + 1 + j : Nat) : Int) else q) := by
  have hA : (((List.range p).filter fun q => decide (f q ≤ f p)).getLast? = none ∧ NoPrev f p) ∨ ∃ q, ((List.range p).filter fun q => decide (f q ≤ f p)).getLast? = some q ∧ IsPrev f p q := by
    induction p with
    | zero => exact .inl ⟨rfl, fun q hq => by omega⟩
    | succ p _ =>
      generalize p + 1 = P
      have key : ∀ m, m ≤ P → (((List.range m).filter fun q => decide (f q ≤ f P)).getLast? = none ∧ ∀ q, q < m → f P < f q) ∨ ∃ q, ((List.range m).filter fun q => decide (f q ≤ f P)).getLast? = some q ∧ q < m ∧ f q ≤ f P ∧ ∀ r, q < r → r < m → f P < f r := by
        intro m
        induction m with
        | zero => intro _; exact .inl ⟨rfl, fun q hq => by omega⟩
        | succ m ih =>
          intro hm
          rw [List.range_succ, List.filter_append]
          by_cases hle : f m ≤ f P
          · refine .inr ⟨m, ?_, by omega, hle, fun r r1 r2 => by omega⟩
            simp [hle]
          · have e : List.filter (fun q => decide (f q ≤ f P)) [m] = [] := by simp [hle]
            rw [e, List.append_nil]
            rcases ih (by omega) with ⟨i1, i2⟩ | ⟨q, i1, i2, i3, i4⟩
            · refine .inl ⟨i1, fun q hq => ?_⟩
              by_cases z : q = m
              · rw [z]; omega
              · exact i2 q (by omega)
            · refine .inr ⟨q, i1, by omega, i3, fun r r1 r2 => ?_⟩
              by_cases z : r = m
              · rw [z]; omega
              · exact i4 r r1 (by omega)
      rcases key P (Nat.le_refl _) with ⟨i1, i2⟩ | ⟨q, i1, i2, i3, i4⟩
      · exact .inl ⟨i1, i2⟩
      · exact .inr ⟨q, i1, i2, i3, i4⟩
  have hB : (((List.range (n - (p + 1))).filter fun j => decide (f (p + 1 + j) < f p)).head? = none ∧ NoNext f n p) ∨ ∃ j, ((List.range (n - (p + 1))).filter fun j => decide (f (p + 1 + j) < f p)).head? = some j ∧ IsNext f n p (p + 1 + j) := by
    have key : ∀ m, (((List.range m).filter fun j => decide (f (p + 1 + j) < f p)).head? = none ∧ ∀ j, j < m → f p ≤ f (p + 1 + j)) ∨ ∃ j, ((List.range m).filter fun j => decide (f (p + 1 + j) < f p)).head? = some j ∧ j < m ∧ f (p + 1 + j) < f p ∧ ∀ i, i < j → f p ≤ f (p + 1 + i) := by
      intro m
      induction m with
      | zero => exact .inl ⟨rfl, fun q hq => by omega⟩
      | succ m ih =>
        rw [List.range_succ, List.filter_append]
        rcases ih with ⟨i1, i2⟩ | ⟨j, i1, i2, i3, i4⟩
        · have e0 : List.filter (fun j => decide (f (p + 1 + j) < f p)) (List.range m) = [] := List.head?_eq_none_iff.mp i1
          rw [e0, List.nil_append]
          by_cases hlt : f (p + 1 + m) < f p
          · refine .inr ⟨m, by simp [hlt], by omega, hlt, fun i hi => i2 i hi⟩
          · refine .inl ⟨by simp [hlt], fun j hj => ?_⟩
            by_cases z : j = m
            · rw [z]; omega
            · exact i2 j (by omega)
        · refine .inr ⟨j, ?_, by omega, i3, i4⟩
          rw [List.head?_append, i1]; rfl
    rcases key (n - (p + 1)) with ⟨i1, i2⟩ | ⟨j, i1, i2, i3, i4⟩
    · refine .inl ⟨i1, fun r r1 r2 => ?_⟩
      have := i2 (r - (p + 1)) (by omega)
      have e : p + 1 + (r - (p + 1)) = r := by omega
      rw [e] at this; exact this
    · refine .inr ⟨j, i1, by omega, by omega, i3, fun s s1 s2 => ?_⟩
      have := i4 (s - (p + 1)) (by omega)
      have e : p + 1 + (s - (p + 1)) = s := by omega
      rw [e] at this; exact this
  rcases hA with ⟨a1, a2⟩ | ⟨q, a1, a2⟩ <;> rcases hB with ⟨b1, b2⟩ | ⟨j, b1, b2⟩ <;> rw [a1, b1]
  · exact .inl ⟨a2, b2, rfl⟩
  · exact .inr (.inr (.inl ⟨_, a2, b2, rfl⟩))
  · exact .inr (.inl ⟨_, a2, b2, rfl⟩)
  · exact .inr (.inr (.inr ⟨_, _, a2, b2, rfl⟩))

def StackAt (H : Hp) (l : Addr) (st : List (Int × Int × Int)) : Prop := ∃ qs : List Addr, H l = some (.lst (qs.map V.ref)) ∧ qs.length = st.length ∧ ∀ (j : Nat) (q : Addr) (x : Int × Int × Int), qs[j]? = some q → st[j]? = some x → H q = some (.tup [.int x.1, .int x.2.1, .int x.2.2])
theorem StackAt.same {H H' : Hp} {l : Addr} {st : List (Int × Int × Int)} (S : StackAt H l st) (s : Same H H') : StackAt H' l st := by
  obtain ⟨qs, h1, h2, h3⟩ := S
  exact ⟨qs, s _ _ h1, h2, fun j q x a b => s _ _ (h3 j q x a b)⟩
theorem StackAt.other {H : Hp} {l e : Addr} {st : List (Int × Int × Int)} {zs : List V} {o : HO} (S : StackAt H l st) (hne : e ≠ l) (he : H e = some (.lst zs)) : StackAt (upd H e o) l st := by
  obtain ⟨qs, h1, h2, h3⟩ := S
  refine ⟨qs, by rw [upd_ne hne.symm]; exact h1, h2, fun j q x a b => ?_⟩
  have h := h3 j q x a b
  rw [upd_ne]
  · exact h
  · intro z; subst z; rw [he] at h; cases h
theorem StackAt.push {H : Hp} {l q : Addr} {st : List (Int × Int × Int)} {x : Int × Int × Int} (S : StackAt H l st) (hq : H q = some (.tup [.int x.1, .int x.2.1, .int x.2.2])) : ∃ xs : List V, H l = some (.lst xs) ∧ xs.length = st.length ∧ StackAt (upd H l (.lst (xs ++ [V.ref q]))) l (st ++ [x]) := by
  obtain ⟨qs, h1, h2, h3⟩ := S
  have ql : q ≠ l := fun z => by rw [z, h1] at hq; cases hq
  refine ⟨_, h1, by simp [h2], qs ++ [q], by rw [upd_same]; simp, by simp [h2], fun j p y a b => ?_⟩
  by_cases hj : j < qs.length
  · rw [List.getElem?_append_left hj] at a
    rw [List.getElem?_append_left (by omega)] at b
    have h := h3 j p y a b
    rw [upd_ne]
    · exact h
    · intro z; rw [z, h1] at h; cases h
  · have hjl := (List.getElem?_eq_some_iff.mp a).1
    have e : j = qs.length := by simp at hjl; omega
    subst e
    rw [List.getElem?_append_right (Nat.le_refl _)] at a
    rw [h2, List.getElem?_append_right (Nat.le_refl _)] at b
    simp at a b
    rw [← a, ← b, upd_ne ql]; exact hq
theorem while_m {c : TT} {tb : TS} {D : Ends} {σ : St} {H : Hp} (Pv : Nat → St → Hp → Prop) (m0 : Nat) (h0 : Pv m0 σ H)
    (hs : ∀ m σ H, Pv m σ H → c σ H fun b H1 => if b = true then ∃ Nx : St → Hp → Prop, (∀ σ' H', Nx σ' H' → ∃ m', m' < m ∧ Pv m' σ' H') ∧ tb { D with nx := Nx, ct := Nx, bk := D.nx } σ H1 else D.nx σ H1) : WhileR c tb D σ H := ⟨Pv, ⟨m0, h0⟩, hs⟩
end L2


set_option Elab.async false
set_option linter.all false
set_option maxRecDepth 100000
set_option maxHeartbeats 1000000
namespace L2


def Over (f : Nat → Int) (o p : Nat) : Prop := (o < p ∧ ∀ r, o < r → r ≤ p → f o ≤ f r) ∨ (p < o ∧ ∀ r, p ≤ r → r < o → f o < f r)
theorem Over.irrefl {f : Nat → Int} {p : Nat} : ¬ Over f p p := by rintro (⟨h, _⟩ | ⟨h, _⟩) <;> omega
theorem Over.ne {f : Nat → Int} {o p : Nat} (h : Over f o p) : o ≠ p := fun z => Over.irrefl (z ▸ h)
theorem Over.trans {f : Nat → Int} {o e p : Nat} (h : Over f o e) (k : Over f e p) : Over f o p := by
  rcases h with ⟨h1, h2⟩ | ⟨h1, h2⟩ <;> rcases k with ⟨k1, k2⟩ | ⟨k1, k2⟩
  · refine .inl ⟨by omega, fun r r1 r2 => ?_⟩
    by_cases z : r ≤ e
    · exact h2 r r1 z
    · have := k2 r (by omega) r2; have := h2 e h1 (Nat.le_refl _); omega
  · have he := h2 e h1 (Nat.le_refl _)
    rcases Nat.lt_trichotomy o p with z | z | z
    · exact .inl ⟨z, fun r r1 r2 => h2 r r1 (by omega)⟩
    · have := k2 p (Nat.le_refl _) k1; subst z; omega
    · exact .inr ⟨z, fun r r1 r2 => by have := k2 r r1 (by omega); omega⟩
  · have he := h2 e (Nat.le_refl _) h1
    rcases Nat.lt_trichotomy o p with z | z | z
    · exact .inl ⟨z, fun r r1 r2 => by have := k2 r (by omega) r2; omega⟩
    · have := k2 p k1 (Nat.le_refl _); subst z; omega
    · exact .inr ⟨z, fun r r1 r2 => h2 r (by omega) r2⟩
  · refine .inr ⟨by omega, fun r r1 r2 => ?_⟩
    by_cases z : r < e
    · have := k2 r r1 z; have := h2 e (Nat.le_refl _) h1; omega
    · exact h2 r (by omega) r2
theorem elder_over {f : Nat → Int} {n p : Nat} {e : Int} (hp : p < n) (h : ElderIs f n p e) : e = -1 ∨ ∃ q : Nat, e = q ∧ q < n ∧ Over f q p := by
  have pv : ∀ q, IsPrev f p q → Over f q p := fun q h => .inl ⟨h.1, fun r r1 r2 => by
    by_cases z : r = p
    · rw [z]; exact h.2.1
    · have := h.2.2 r r1 (by omega); have := h.2.1; omega⟩
  have nx : ∀ q, IsNext f n p q → Over f q p := fun q h => .inr ⟨h.1, fun r r1 r2 => by
    by_cases z : r = p
    · rw [z]; exact h.2.2.1
    · have := h.2.2.2 r (by omega) r2; have := h.2.2.1; omega⟩
  rcases h with ⟨_, _, h⟩ | ⟨q, h1, _, h⟩ | ⟨r, _, h1, h⟩ | ⟨q, r, h1, h2, h⟩
  · exact .inl h
  · exact .inr ⟨q, h, by have := h1.1; omega, pv q h1⟩
  · exact .inr ⟨r, h, h1.2.1, nx r h1⟩
  · by_cases z : f q ≤ f r
    · rw [if_pos z] at h; exact .inr ⟨r, h, h2.2.1, nx r h2⟩
    · rw [if_neg z] at h; exact .inr ⟨q, h, by have := h1.1; omega, pv q h1⟩
theorem over_step {f : Nat → Int} {n p o : Nat} {e : Int} (hp : p < n) (ho : o < n) (h : ElderIs f n p e) (hO : Over f o p) : ∃ q : Nat, e = q ∧ q < n ∧ (o = q ∨ Over f o q) := by
  rcases hO with ⟨o1, o2⟩ | ⟨o1, o2⟩
  · have op := o2 p o1 (Nat.le_refl _)
    have pv : ∀ q, IsPrev f p q → o = q ∨ (o < q ∧ Over f o q ∧ f o ≤ f q) := fun q h => by
      rcases Nat.lt_trichotomy o q with z | z | z
      · have := h.1; exact .inr ⟨z, .inl ⟨z, fun r r1 r2 => o2 r r1 (by omega)⟩, o2 q z (by omega)⟩
      · exact .inl z
      · have := h.2.2 o z o1; omega
    rcases h with ⟨h1, _, h⟩ | ⟨q, h1, _, h⟩ | ⟨r, h1, _, h⟩ | ⟨q, r, h1, h2, h⟩
    · have := h1 o o1; omega
    · refine ⟨q, h, by have := h1.1; omega, ?_⟩
      rcases pv q h1 with z | z
      · exact .inl z
      · exact .inr z.2.1
    · have := h1 o o1; omega
    · by_cases z : f q ≤ f r
      · rw [if_pos z] at h
        refine ⟨r, h, h2.2.1, .inr (.inl ⟨by have := h2.1; omega, fun s s1 s2 => ?_⟩)⟩
        by_cases sp : s ≤ p
        · exact o2 s s1 sp
        · by_cases sr : s = r
          · rw [sr]
            rcases pv q h1 with y | y
            · rw [y]; exact z
            · have := y.2.2; omega
          · have := h2.2.2.2 s (by omega) (by omega); omega
      · rw [if_neg z] at h
        refine ⟨q, h, by have := h1.1; omega, ?_⟩
        rcases pv q h1 with z | z
        · exact .inl z
        · exact .inr z.2.1
  · have op := o2 p (Nat.le_refl _) o1
    have nx : ∀ r, IsNext f n p r → o = r ∨ (r < o ∧ Over f o r ∧ f o < f r) := fun r h => by
      rcases Nat.lt_trichotomy o r with z | z | z
      · have := h.2.2.2 o o1 z; omega
      · exact .inl z
      · have := h.1; exact .inr ⟨z, .inr ⟨z, fun s s1 s2 => o2 s (by omega) s2⟩, o2 r (by omega) z⟩
    rcases h with ⟨_, h1, h⟩ | ⟨q, _, h1, h⟩ | ⟨r, _, h1, h⟩ | ⟨q, r, h1, h2, h⟩
    · have := h1 o o1 ho; omega
    · have := h1 o o1 ho; omega
    · refine ⟨r, h, h1.2.1, ?_⟩
      rcases nx r h1 with z | z
      · exact .inl z
      · exact .inr z.2.1
    · by_cases z : f q ≤ f r
      · rw [if_pos z] at h
        refine ⟨r, h, h2.2.1, ?_⟩
        rcases nx r h2 with z | z
        · exact .inl z
        · exact .inr z.2.1
      · rw [if_neg z] at h
        refine ⟨q, h, by have := h1.1; omega, .inr (.inr ⟨by have := h1.1; omega, fun s s1 s2 => ?_⟩)⟩
        by_cases sp : p ≤ s
        · exact o2 s sp s2
        · by_cases sq : s = q
          · rw [sq]
            rcases nx r h2 with y | y
            · rw [y]; omega
            · have := y.2.2; omega
          · have := h1.2.2 s (by omega) (by omega); omega
theorem over_iff {f : Nat → Int} {n p o q : Nat} (hp : p < n) (ho : o < n) (h : ElderIs f n p (q : Int)) : Over f o p ↔ o = q ∨ Over f o q := by
  refine ⟨fun k => ?_, fun k => ?_⟩
  · obtain ⟨q', e, _, z⟩ := over_step hp ho h k
    have : q' = q := by omega
    rw [this] at z; exact z
  · rcases elder_over hp h with z | ⟨q', e, _, z⟩
    · omega
    · have : q' = q := by omega
      rw [this] at z
      rcases k with k | k
      · rw [k]; exact z
      · exact k.trans z
theorem over_none {f : Nat → Int} {n p o : Nat} (hp : p < n) (ho : o < n) (h : ElderIs f n p (-1)) : ¬ Over f o p := fun k => by
  obtain ⟨q', e, _, z⟩ := over_step hp ho h k
  omega


theorem count_same {P Q : Nat → Bool} : ∀ n, (∀ o, o < n → P o = Q o) → (List.range n).countP P = (List.range n).countP Q
  | 0, _ => rfl
  | n + 1, h => by
    rw [List.range_succ, List.countP_append, List.countP_append, count_same n (fun o ho => h o (by omega))]
    simp [List.countP_cons, h n (by omega)]
theorem count_step {P Q : Nat → Bool} {e : Nat} : ∀ n, e < n → (∀ o, o < n → (P o = true ↔ o = e ∨ Q o = true)) → Q e = false → (List.range n).countP P = (List.range n).countP Q + 1
  | 0, h, _, _ => by omega
  | n + 1, h, hi, hq => by
    rw [List.range_succ, List.countP_append, List.countP_append]
    by_cases z : e = n
    · have e1 : (List.range n).countP P = (List.range n).countP Q := count_same n fun o ho => by
        have := hi o (by omega)
        cases hP : P o <;> cases hQ : Q o <;> simp [hP, hQ] at this <;> first | rfl | omega
      have hPn : P n = true := (hi n (by omega)).mpr (.inl z.symm)
      rw [z] at hq
      rw [e1]; simp [List.countP_cons, hPn, hq]
    · rw [count_step n (by omega) (fun o ho => hi o (by omega)) hq]
      have := hi n (by omega)
      have hn : P n = Q n := by
        cases hP : P n <;> cases hQ : Q n <;> simp [hP, hQ] at this <;> first | rfl | omega
      simp [List.countP_cons, hn]; omega
theorem count_lt {P : Nat → Bool} {e n : Nat} (he : e < n) (h : P e = false) : (List.range n).countP P < n := by
  have h1 := count_step (P := fun o => decide (o = e) || P o) (Q := P) n he (fun o _ => by simp) h
  have h2 := List.countP_le_length (p := fun o => decide (o = e) || P o) (l := List.range n)
  rw [h1, List.length_range] at h2
  omega


def wayF (T : List Int) : Nat → Int → List Nat
  | 0, _ => []
  | k + 1, at_ => if 0 ≤ at_ ∧ at_ < T.length then at_.toNat :: wayF T k (nth T at_.toNat) else []
open Classical in
noncomputable def dep (f : Nat → Int) (n p : Nat) : Nat := (List.range n).countP fun o => decide (Over f o p)
theorem dep_lt {f : Nat → Int} {n p : Nat} (hp : p < n) : dep f n p < n := by
  classical
  exact count_lt hp (by simpa using Over.irrefl)
theorem dep_elder {f : Nat → Int} {n p q : Nat} (hp : p < n) (h : ElderIs f n p (q : Int)) : dep f n p = dep f n q + 1 := by
  classical
  have hq : q < n := by
    rcases elder_over hp h with z | ⟨q', e, z, _⟩ <;> omega
  exact count_step n hq (fun o ho => by simpa using over_iff hp ho h) (by simpa using Over.irrefl)
theorem dep_top {f : Nat → Int} {n p : Nat} (hp : p < n) (h : ElderIs f n p (-1)) : dep f n p = 0 := by
  classical
  unfold dep
  rw [List.countP_eq_zero]
  intro o ho
  simpa using over_none hp (by simpa using ho) h
theorem way_tree {ns T : List Int} (hT : TreeIs ns T) : ∀ k p, p < ns.length → dep (nth ns) ns.length p ≤ k → (∀ o, o ∈ wayF T k (nth T p) ↔ o < ns.length ∧ Over (nth ns) o p) ∧ (wayF T k (nth T p)).length = dep (nth ns) ns.length p
  | k, p, hp, hk => by
    have hE : ElderIs (nth ns) ns.length p (nth T p) := hT.2 p hp
    rcases elder_over hp hE with z | ⟨q, e, hq, hO⟩
    · have e0 : wayF T k (nth T p) = [] := by
        cases k with
        | zero => rfl
        | succ k => rw [wayF, if_neg (by omega)]
      rw [e0]
      rw [z] at hE
      exact ⟨fun o => ⟨fun h => by simp at h, fun h => absurd h.2 (over_none hp h.1 hE)⟩, by rw [dep_top hp hE]; rfl⟩
    · rw [e] at hE
      have hd := dep_elder hp hE
      obtain ⟨k', rfl⟩ : ∃ k', k = k' + 1 := ⟨k - 1, by omega⟩
      have ih := way_tree hT k' q hq (by omega)
      have eT : ((q : Nat) : Int).toNat = q := by omega
      rw [wayF, e, if_pos ⟨by omega, by rw [hT.1]; omega⟩, eT]
      refine ⟨fun o => ?_, by simp [ih.2, hd]⟩
      rw [List.mem_cons, ih.1 o]
      refine ⟨fun h => ?_, fun h => ?_⟩
      · rcases h with h | h
        · rw [h]; exact ⟨hq, hO⟩
        · exact ⟨h.1, h.2.trans hO⟩
      · rcases (over_iff hp h.1 hE).mp h.2 with z | z
        · exact .inl z
        · exact .inr ⟨h.1, z⟩
inductive StT (T : Nat → Int) : Int → Int → Int → Prop
  | nil {a b e : Int} : b < a → StT T a b e
  | node {a b e : Int} (h : Nat) : a ≤ h → (h : Int) ≤ b → T h = e → (∀ q : Nat, a ≤ q → (q : Int) ≤ b → T q = e → q = h) → StT T a ((h : Int) - 1) h → StT T ((h : Int) + 1) b h → StT T a b e
theorem GoodS.out {f : Nat → Int} {n : Nat} {a b e : Int} (h : GoodS f n a b e) : e < a ∨ b < e := by
  obtain ⟨h0, h1, h2, h3, h4, h5⟩ := h
  rw [h5]
  split
  · split <;> omega
  · split
    · omega
    · split <;> omega
inductive StG (T g : Nat → Int) : Int → Int → Int → Int → Prop
  | nil {a b e m : Int} : b < a → StG T g a b e m
  | node {a b e m : Int} (h : Nat) : a ≤ h → (h : Int) ≤ b → T h = e → g h = m → StG T g a ((h : Int) - 1) h (m + 1) → StG T g ((h : Int) + 1) b h (m + 1) → StG T g a b e m
theorem StG.congr {T g g' : Nat → Int} {a b e m : Int} (S : StG T g a b e m) : (∀ q : Nat, a ≤ q → (q : Int) ≤ b → g q = g' q) → StG T g' a b e m := by
  induction S with
  | nil z => intro _; exact .nil z
  | node h h1 h2 h3 h4 _ _ ih1 ih2 =>
    intro k
    exact .node h h1 h2 h3 (by rw [← k h h1 h2]; exact h4) (ih1 fun q q1 q2 => k q q1 (by omega)) (ih2 fun q q1 q2 => k q (by omega) q2)
theorem StT.row {T : Nat → Int} {a b e : Int} (S : StT T a b e) : ∀ m, ∃ g, StG T g a b e m := by
  induction S with
  | nil z => intro m; exact ⟨fun _ => 0, .nil z⟩
  | node h h1 h2 h3 h4 _ _ ih1 ih2 =>
    intro m
    obtain ⟨g1, k1⟩ := ih1 (m + 1)
    obtain ⟨g2, k2⟩ := ih2 (m + 1)
    refine ⟨fun q => if q < h then g1 q else if q = h then m else g2 q, .node h h1 h2 h3 ?_ (k1.congr fun q q1 q2 => ?_) (k2.congr fun q q1 q2 => ?_)⟩
    · show (if h < h then g1 h else if h = h then m else g2 h) = m
      rw [if_neg (by omega), if_pos rfl]
    · show g1 q = if q < h then g1 q else if q = h then m else g2 q
      rw [if_pos (by omega)]
    · show g2 q = if q < h then g1 q else if q = h then m else g2 q
      rw [if_neg (by omega), if_neg (by omega)]
theorem StG.ge {T g : Nat → Int} {a b e m : Int} (S : StG T g a b e m) : ∀ q : Nat, a ≤ q → (q : Int) ≤ b → m ≤ g q := by
  induction S with
  | nil z => intro q h1 h2; omega
  | node h h1 h2 h3 h4 _ _ ih1 ih2 =>
    intro q q1 q2
    rcases Nat.lt_trichotomy q h with y | y | y
    · have := ih1 q q1 (by omega); omega
    · rw [y]; omega
    · have := ih2 q (by omega) q2; omega
theorem StG.elder {T g : Nat → Int} {n : Nat} {a b e m : Int} (S : StG T g a b e m) : 0 ≤ a → a ≤ b + 1 → b < n → (∀ k : Nat, a = ((k + 1 : Nat) : Int) → g k < m) → (∀ k : Nat, b + 1 = (k : Int) → k < n → g k < m) →
    e = (if a = 0 then (if b + 1 = n then -1 else b + 1) else if b + 1 = n then a - 1 else if g (a - 1).toNat ≤ g (b + 1).toNat then b + 1 else a - 1) → ∀ p : Nat, a ≤ p → (p : Int) ≤ b → ElderIs g n p (T p) := by
  induction S with
  | nil z => intro _ _ _ _ _ _ p h1 h2; omega
  | @node a b e m h h1 h2 h3 h4 s1 s2 ih1 ih2 =>
    intro c0 c1 c2 c3 c4 c5 p p1 p2
    obtain ⟨a0, rfl⟩ : ∃ a0 : Nat, a = a0 := ⟨a.toNat, by omega⟩
    obtain ⟨c, rfl⟩ : ∃ c : Nat, b = ((a0 + c : Nat) : Int) := ⟨(b - a0).toNat, by omega⟩
    have hge := (StG.node h h1 h2 h3 h4 s1 s2).ge
    have g1 := s1.ge
    have g2 := s2.ge
    have hG : GoodS g n a0 ((a0 + c : Nat) : Int) e := ⟨c0, c1, c2, fun k hk q q1 q2 => by have := c3 k hk; have := hge q q1 q2; omega, fun k hk hkn q q1 q2 => by have := c4 k hk hkn; have := hge q q1 q2; omega, c5⟩
    have hlow : lowF g a0 c = h := by
      have : IsLow g a0 (a0 + c) h := ⟨by omega, by omega, fun r r1 r2 => by have := g1 r (by omega) (by omega); omega, fun r r1 r2 => by have := g2 r (by omega) (by omega); omega⟩
      exact (lowF_is g a0 c).unique this
    rcases Nat.lt_trichotomy p h with y | y | y
    · refine ih1 (by omega) (by omega) (by omega) (fun k hk => by have := c3 k hk; omega) (fun k hk hkn => ?_) ?_ p p1 (by omega)
      · have : k = h := by omega
        rw [this]; omega
      · by_cases z : (a0 : Int) = 0
        · rw [if_pos z, if_neg (by omega)]; omega
        · rw [if_neg z, if_neg (by omega), if_pos ?_]
          · omega
          · have e1 : (((h : Int) - 1 + 1)).toNat = h := by omega
            have := c3 ((a0 : Int) - 1).toNat (by omega)
            rw [e1]; omega
    · rw [y, h3, ← hlow]; exact hG.elder
    · refine ih2 (by omega) (by omega) (by omega) (fun k hk => ?_) (fun k hk hkn => by have := c4 k hk hkn; omega) ?_ p (by omega) p2
      · have : k = h := by omega
        rw [this]; omega
      · rw [if_neg (by omega)]
        by_cases z : ((a0 + c : Nat) : Int) + 1 = n
        · rw [if_pos z]; omega
        · rw [if_neg z, if_neg ?_]
          · omega
          · have e1 : (((h : Int) + 1 - 1)).toNat = h := by omega
            have := c4 (((a0 + c : Nat) : Int) + 1).toNat (by omega) (by omega)
            rw [e1]; omega
end L2


set_option Elab.async false
set_option linter.all false
set_option maxRecDepth 100000
set_option maxHeartbeats 1000000
namespace L2
open PySem PySem.Spec PyProof.Rows PySem.W
def setE (es : List Int) (A B : List Nat) (i : Nat) : List Int := match A.getLast? with
  | some q => (match B.head? with | some b => es.set b i | none => es).set i (q : Int)
  | none => match B.head? with | some b => es.set b i | none => es
def natsV (l : List Nat) : List V := l.map fun q => V.int (q : Nat)
theorem getD_set (l : List Int) (a p : Nat) (v : Int) (h : p < l.length) : (l.set a v).getD p 0 = if a = p then v else l.getD p 0 := by
  rw [List.getD_eq_getElem?_getD, List.getD_eq_getElem?_getD]
  by_cases e : a = p
  · subst e; rw [if_pos rfl, List.getElem?_set_self h]; rfl
  · rw [if_neg e, List.getElem?_set_ne e]
theorem setE_len (es : List Int) (A B : List Nat) (i : Nat) : (setE es A B i).length = es.length := by
  unfold setE
  cases A.getLast? <;> cases B.head? <;> simp
theorem setE_at (es : List Int) (A B : List Nat) (i p : Nat) (hp : p < es.length) (hb : ∀ b, B.head? = some b → b ≠ i) : (setE es A B i).getD p 0 = if p = i then (match A.getLast? with | some q => (q : Int) | none => es.getD i 0) else if B.head? = some p then (i : Int) else es.getD p 0 := by
  unfold setE
  cases hA : A.getLast? with
  | none =>
    cases hB : B.head? with
    | none =>
      by_cases e : p = i
      · rw [if_pos e, e]
      · rw [if_neg e, if_neg (by simp)]
    | some b =>
      show (es.set b i).getD p 0 = _
      rw [getD_set _ _ _ _ hp]
      by_cases e : p = i
      · rw [if_pos e, if_neg (by rw [e]; exact hb b hB), e]
      · rw [if_neg e]
        by_cases e2 : b = p
        · rw [if_pos e2, if_pos (by rw [e2])]
        · rw [if_neg e2, if_neg (by intro z; exact e2 (Option.some.inj z))]
  | some q =>
    cases hB : B.head? with
    | none =>
      show (es.set i q).getD p 0 = _
      rw [getD_set _ _ _ _ hp]
      by_cases e : p = i
      · rw [if_pos e, if_pos e.symm]
      · rw [if_neg e, if_neg (fun z => e z.symm), if_neg (by simp)]
    | some b =>
      show ((es.set b i).set i q).getD p 0 = _
      rw [getD_set _ _ _ _ (by simpa using hp), getD_set _ _ _ _ hp]
      by_cases e : p = i
      · rw [if_pos e, if_pos e.symm]
      · rw [if_neg e, if_neg (fun z => e z.symm)]
        by_cases e2 : b = p
        · rw [if_pos e2, if_pos (by rw [e2])]
        · rw [if_neg e2, if_neg (by intro z; exact e2 (Option.some.inj z))]
theorem pw_len : ∀ (l : List Nat) (i lo : Nat), l.Pairwise (· < ·) → (∀ q ∈ l, lo ≤ q ∧ q < i) → l.length + lo ≤ i ∨ l = []
  | [], _, _, _, _ => .inr rfl
  | q :: r, i, lo, h, hq => by
    have h1 := hq q (by simp)
    have hr := List.pairwise_cons.mp h
    rcases pw_len r i (q + 1) hr.2 (fun x hx => ⟨hr.1 x hx, (hq x (by simp [hx])).2⟩) with z | z
    · left; simp; omega
    · left; rw [z]; simp; omega
theorem natsV_len (l : List Nat) : (natsV l).length = l.length := by simp [natsV]
theorem natsV_app (a b : List Nat) : natsV (a ++ b) = natsV a ++ natsV b := by simp [natsV]
theorem natsV_at {l : List Nat} {j q : Nat} (h : l[j]? = some q) : atI (natsV l) (j : Int) = some (V.int (q : Nat)) := by
  have hj := (List.getElem?_eq_some_iff.mp h).1
  have e := (List.getElem?_eq_some_iff.mp h).2
  rw [atI_at rfl (by rw [natsV_len]; exact hj)]
  simp [natsV, e]
theorem ixN_nat {n j : Nat} (h : j < n) : ixN n (j : Int) = some j := by
  unfold ixN
  rw [if_pos (by omega), if_pos (by omega)]; simp
end L2


set_option Elab.async false
set_option linter.all false
set_option maxRecDepth 100000
set_option maxHeartbeats 1000000
namespace L2
open PySem PySem.Spec PyProof.Rows PySem.W
section
variable {X : Cx}

def tRngV2 (ta : TA) : TE := fun σ H Q => ta σ H fun vs H1 => ∃ i j : Int, vs = [.int i, .int j] ∧ -(2 ^ 62) ≤ i ∧ i < 2 ^ 62 ∧ -(2 ^ 62) ≤ j ∧ j < 2 ^ 62 ∧ ∀ p, H1 p = none → Q (.ref p) (upd H1 p (.rng i j))
def rLstR2 : List V → Hp → VK → Prop := fun xs H Q => ∃ p i j, xs = [.ref p] ∧ H p = some (.rng i j) ∧ -(2 ^ 62) ≤ i ∧ i < 2 ^ 62 ∧ -(2 ^ 62) ≤ j ∧ j < 2 ^ 62 ∧ j - i ≤ 1000 ∧ ∀ l, H l = none → Q (.ref l) (upd H l (.lst ((List.range (j - i).toNat).map fun (k : Nat) => V.int (i + (k : Int)))))
end
end L2


set_option Elab.async false
set_option linter.all false
set_option maxRecDepth 100000
set_option maxHeartbeats 1000000
namespace L2
open PySem PySem.Spec PyProof.Rows PySem.W

def wayI (T : List Int) (p : Nat) : List Int := (wayF T T.length (nth T p)).map fun q => ((q : Nat) : Int)
theorem wayF_len (T : List Int) : ∀ k a, (wayF T k a).length ≤ k
  | 0, _ => by simp [wayF]
  | k + 1, a => by
    rw [wayF]
    split
    · have := wayF_len T k (nth T a.toNat); simp; omega
    · simp

def wayAt (T : List Int) : Nat → Int → Int
  | 0, a => a
  | j + 1, a => if 0 ≤ a ∧ a < T.length then wayAt T j (nth T a.toNat) else a
theorem wayF_snoc (T : List Int) : ∀ j a, 0 ≤ wayAt T j a → wayAt T j a < T.length → (wayF T j a).length = j → wayF T (j + 1) a = wayF T j a ++ [(wayAt T j a).toNat] ∧ wayAt T (j + 1) a = nth T (wayAt T j a).toNat
  | 0, a, h0, h1, _ => by
    have h0' : 0 ≤ a := h0
    have h1' : a < T.length := h1
    constructor
    · simp [wayF, wayAt, h0', h1']
    · simp [wayAt, h0', h1']
  | j + 1, a, h0, h1, hl => by
    rw [wayF] at hl
    by_cases z : 0 ≤ a ∧ a < T.length
    · rw [if_pos z] at hl
      have e1 : wayAt T (j + 1) a = wayAt T j (nth T a.toNat) := by rw [wayAt, if_pos z]
      rw [e1] at h0 h1
      have ih := wayF_snoc T j (nth T a.toNat) h0 h1 (by simpa using hl)
      constructor
      · rw [wayF, if_pos z, ih.1, wayF.eq_def T (j + 1) a]
        simp only [if_pos z, e1]; simp
      · rw [wayAt, if_pos z, ih.2, e1]
    · rw [if_neg z] at hl; simp at hl
theorem wayF_stop (T : List Int) : ∀ j k a, j ≤ k → (wayF T j a).length = j → ¬ (0 ≤ wayAt T j a ∧ wayAt T j a < T.length) → wayF T k a = wayF T j a
  | 0, k, a, _, _, h => by
    have h' : ¬ (0 ≤ a ∧ a < T.length) := h
    cases k with
    | zero => rfl
    | succ k => rw [show wayF T 0 a = [] from rfl, wayF, if_neg h']
  | j + 1, k, a, hk, hl, h => by
    rw [wayF] at hl
    by_cases z : 0 ≤ a ∧ a < T.length
    · rw [if_pos z] at hl
      rw [wayAt, if_pos z] at h
      obtain ⟨k', rfl⟩ : ∃ k', k = k' + 1 := ⟨k - 1, by omega⟩
      rw [wayF, if_pos z, wayF_stop T j k' _ (by omega) (by simpa using hl) h, wayF, if_pos z]
    · rw [if_neg z] at hl; simp at hl
section
variable {X : Cx}
end
end L2


set_option Elab.async false
set_option linter.all false
set_option maxRecDepth 100000
set_option maxHeartbeats 1000000
namespace L2
open PySem PySem.Spec PyProof.Rows PySem.W

section
variable {prog : Program} {w : World} {A : Around} {E : Value → Shared → Prop} {s : Shared}
end
section
variable {X : Cx}
def gSubSl (to tl tu : TE) : TG := fun v σ H Q => to σ H fun x H1 => tl σ H1 fun y H2 => tu σ H2 fun z H3 => ∃ (l b : Addr) (xs ys : List V) (a c : Int), x = .ref l ∧ v = .ref b ∧ y = .int a ∧ z = .int c ∧ H3 l = some (.lst xs) ∧ H3 b = some (.lst ys) ∧ l ≠ b ∧ 0 ≤ a ∧ a ≤ c ∧ a ≤ xs.length ∧ xs.length + ys.length ≤ sizeLine ∧ Q σ (upd H3 l (.lst (xs.take a.toNat ++ ys ++ xs.drop c.toNat)))
end
end L2


set_option Elab.async false
set_option linter.all false
set_option maxRecDepth 100000
set_option maxHeartbeats 1000000
namespace L2
open PySem PySem.Spec PyProof.Rows PySem.W

theorem seqR {a b : TS} {D : Ends} {σ : St} {H : Hp} (Mid : St → Hp → Prop) (h1 : ∀ R : St → Hp → Prop, (∀ σ' H', Mid σ' H' → R σ' H') → a { D with nx := R } σ H) (h2 : ∀ σ' H', Mid σ' H' → b D σ' H') : tSeq a b D σ H := h1 _ h2
theorem cut_to (xs : List V) (j : Nat) : cutV xs none (some (j : Int)) = xs.take j := by
  have h : ¬ ((j : Int) < 0) := by omega
  unfold cutV HT.sIx
  simp only [if_neg h, List.drop_zero, Nat.sub_zero]
  rw [List.take_eq_take_iff]
  omega
theorem cut_fromN (xs : List V) (j : Nat) : cutV xs (some (j : Int)) none = xs.drop j := by
  have h : ¬ ((j : Int) < 0) := by omega
  unfold cutV HT.sIx
  simp only [if_neg h, Int.toNat_natCast]
  by_cases z : j ≤ xs.length
  · rw [Nat.min_eq_left z]
    exact List.take_of_length_le (by rw [List.length_drop]; omega)
  · rw [Nat.min_eq_right (by omega), Nat.sub_self, List.take_zero, List.drop_eq_nil_of_le (show xs.length ≤ j by omega)]
end L2


set_option Elab.async false
set_option linter.all false
set_option maxRecDepth 100000
set_option maxHeartbeats 1000000
namespace L2
open PySem PySem.Spec PyProof.Rows


structure CellsOf (cl : List (Str × Addr)) (n0 : Nat) (cs : List (Str × Addr)) (h0 h : Heap) (done : List (Str × NameKind)) : Prop where
  old : ∀ b o, h0.get? b = some o → h.get? b = some o
  sz : n0 ≤ h.objs.size
  mem : ∀ p ∈ cs, p ∈ cl ∨ (n0 ≤ p.2 ∧ p.2 < h.objs.size ∧ h.IsCell p.2 none)
  inj : ∀ p ∈ cs, ∀ q ∈ cs, n0 ≤ p.2 → p.2 = q.2 → p.1 = q.1
  own : ∀ y ∈ done, y.2 = .cell → ∃ c, cs.lookup y.1 = some c ∧ n0 ≤ c
  oth : ∀ x, (∀ y ∈ done, y.2 = .cell → y.1 ≠ x) → cs.lookup x = cl.lookup x
theorem cells_run {M : Model} {A : Around} {E : Value → Shared → Prop} {cl : List (Str × Addr)} {n0 : Nat} {h0 : Heap} (hcl : ∀ p ∈ cl, p.2 < n0) : ∀ (names : List (Str × NameKind)) (cs : List (Str × Addr)) (done : List (Str × NameKind)) (s : Shared), CellsOf cl n0 cs h0 s.heap done →
    wpAny M A (forIn names cs fun (x : Str × NameKind) (r : List (Str × Addr)) => (match x with
      | (name, kind) => if (kind == NameKind.cell) = true then do
          let a ← alloc { cls := .type "cell", data := .cell none }
          pure (ForInStep.yield ((name, a) :: r))
        else pure (ForInStep.yield r) : Sem (ForInStep (List (Str × Addr))))) (fun cs' s' => ∃ h', s' = { s with heap := h' } ∧ CellsOf cl n0 cs' h0 h' (done ++ names)) E s
  | [], cs, done, s, I => by
    rw [List.forIn_nil, List.append_nil]
    exact wpAny_pure ⟨s.heap, rfl, I⟩
  | (n, k) :: r, cs, done, s, I => by
    rw [List.forIn_cons]
    by_cases hk : k = .cell
    · subst hk
      simp only [beq_self_eq_true, if_true]
      refine wpAny_bind (wpAny_bind (wpAny_alloc (wpAny_pure ?_)))
      have hget : (s.heap.push { cls := .type "cell", data := .cell none }).get? s.heap.objs.size = some { cls := .type "cell", data := .cell none } := Heap.get?_push_size _ rfl
      have I' : CellsOf cl n0 ((n, s.heap.objs.size) :: cs) h0 (s.heap.push { cls := .type "cell", data := .cell none }) (done ++ [(n, .cell)]) := by
        refine ⟨fun b o e => Heap.get?_push_of_some _ (I.old b o e), by rw [Heap.size_push]; exact Nat.le_succ_of_le I.sz, fun p hp => ?_, fun p hp q hq hn e => ?_, fun y hy hc => ?_, fun x hx => ?_⟩
        · rcases List.mem_cons.mp hp with z | z
          · subst z
            exact .inr ⟨I.sz, by rw [Heap.size_push]; exact Nat.lt_succ_self _, _, hget, rfl⟩
          · rcases I.mem p z with w | ⟨w1, w2, o, w3, w4⟩
            · exact .inl w
            · exact .inr ⟨w1, by rw [Heap.size_push]; exact Nat.lt_succ_of_lt w2, o, Heap.get?_push_of_some _ w3, w4⟩
        · have lt : ∀ p ∈ cs, p.2 < s.heap.objs.size := fun p hp => by
            rcases I.mem p hp with w | w
            · exact Nat.lt_of_lt_of_le (hcl p w) I.sz
            · exact w.2.1
          rcases List.mem_cons.mp hp with z | z <;> rcases List.mem_cons.mp hq with z' | z'
          · rw [z, z']
          · subst z; exact absurd (show s.heap.objs.size < s.heap.objs.size from (show s.heap.objs.size = q.2 from e) ▸ lt q z') (Nat.lt_irrefl _)
          · subst z'; exact absurd (show s.heap.objs.size < s.heap.objs.size from (show p.2 = s.heap.objs.size from e) ▸ lt p z) (Nat.lt_irrefl _)
          · exact I.inj p z q z' hn e
        · rcases List.mem_append.mp hy with z | z
          · obtain ⟨c, e1, e2⟩ := I.own y z hc
            by_cases hx : y.1 = n
            · exact ⟨s.heap.objs.size, by rw [hx]; simp, I.sz⟩
            · have hb : (y.1 == n) = false := by simpa using hx
              exact ⟨c, by simp only [List.lookup_cons, hb]; exact e1, e2⟩
          · have : y = (n, .cell) := by simpa using z
            subst this
            exact ⟨s.heap.objs.size, by simp, I.sz⟩
        · have hxn : n ≠ x := hx (n, .cell) (by simp) rfl
          have hb : (x == n) = false := by simpa using hxn.symm
          simp only [List.lookup_cons, hb]
          exact I.oth x fun y hy => hx y (List.mem_append_left _ hy)
      refine thn (cells_run hcl r _ _ { s with heap := s.heap.push { cls := .type "cell", data := .cell none } } I') fun cs' s' ⟨h', e1, e2⟩ => ⟨h', e1, ?_⟩
      rw [List.append_assoc] at e2
      exact e2
    · have e1 : (k == NameKind.cell) = false := by cases k <;> first | rfl | exact absurd rfl hk
      simp only [e1, Bool.false_eq_true, if_false]
      refine wpAny_bind (wpAny_pure ?_)
      have I' : CellsOf cl n0 cs h0 s.heap (done ++ [(n, k)]) := by
        refine ⟨I.old, I.sz, I.mem, I.inj, fun y hy hc => ?_, fun x hx => I.oth x fun y hy => hx y (List.mem_append_left _ hy)⟩
        rcases List.mem_append.mp hy with z | z
        · exact I.own y z hc
        · have : y = (n, k) := by simpa using z
          subst this
          exact absurd hc hk
      refine thn (cells_run hcl r _ _ s I') fun cs' s' ⟨h', e1, e2⟩ => ⟨h', e1, ?_⟩
      rw [List.append_assoc] at e2
      exact e2
theorem newEnv_own {M : Model} {A : Around} {E : Value → Shared → Prop} {s : Shared} {scope : Scope} {globals : Addr} {cl : List (Str × Addr)} {qual : Str} {around : Env} {Q : Env → Shared → Prop} (hcl : ∀ p ∈ cl, p.2 < s.heap.objs.size)
    (h : ∀ cs h', CellsOf cl (s.heap.objs.size + 1) cs (s.heap.push { cls := .type "dict", data := .dict #[] }) h' scope.names → Q { scope := scope, locals := s.heap.objs.size, globals := globals, cells := cs, qual := qual, func := none, code := around.code, frame := around.frame, builtins := around.builtins } { s with heap := h' }) :
    wpAny M A (newFunctionEnv scope globals cl [] qual none .none (some around)) Q E s := by
  unfold newFunctionEnv
  refine wpAny_bind (wpAny_alloc ?_)
  refine wpAny_bind (thn (cells_run (cl := cl) (n0 := s.heap.objs.size + 1) (h0 := s.heap.push { cls := .type "dict", data := .dict #[] }) (fun p hp => Nat.lt_succ_of_lt (hcl p hp)) scope.names cl [] { s with heap := s.heap.push { cls := .type "dict", data := .dict #[] } } ⟨fun b o e => e, by rw [Heap.size_push]; exact Nat.le_refl _, fun p hp => .inl hp, fun p hp q hq hn e => absurd (hcl p hp) (Nat.not_lt_of_le (Nat.le_of_succ_le hn)), fun y hy => (nomatch hy), fun x hx => rfl⟩) fun cs s' ⟨h', e1, e2⟩ => ?_)
  subst e1
  rw [List.nil_append] at e2
  exact wpAny_bind (wpAny_pure (wpAny_pure (h cs h' e2)))

def compOkN (around scope : Scope) : Bool :=
  scope.kind == .function && around.kind == .function && scope.names.all fun y => match y.2 with
    | .local => scope.names.lookup y.1 == some .local
    | .cell => scope.names.lookup y.1 == some .cell
    | .free => (scope.names.lookup y.1 == some .free) && (around.names.lookup y.1 == some .cell || around.names.lookup y.1 == some .free)
    | _ => true
theorem compOkN_kind {a s : Scope} (h : compOkN a s = true) : s.kind = .function := by
  simp only [compOkN, Bool.and_eq_true, beq_iff_eq] at h; exact h.1.1
theorem compOkN_at {a s : Scope} (h : compOkN a s = true) {y : Str × NameKind} (hy : y ∈ s.names) : (match y.2 with
    | .local => s.names.lookup y.1 == some .local
    | .cell => s.names.lookup y.1 == some .cell
    | .free => (s.names.lookup y.1 == some .free) && (a.names.lookup y.1 == some .cell || a.names.lookup y.1 == some .free)
    | _ => true) = true := by
  simp only [compOkN, Bool.and_eq_true] at h
  exact List.all_eq_true.mp h.2 y hy
theorem compOkN_local {a s : Scope} (h : compOkN a s = true) : ∀ y ∈ s.names, y.2 = .local → s.names.lookup y.1 = some .local := fun y hy e => by
  have q := compOkN_at h hy
  rw [e] at q
  exact beq_iff_eq.mp q
theorem compOkN_cell {a s : Scope} (h : compOkN a s = true) : ∀ y ∈ s.names, y.2 = .cell → s.names.lookup y.1 = some .cell := fun y hy e => by
  have q := compOkN_at h hy
  rw [e] at q
  exact beq_iff_eq.mp q
theorem compOkN_free {a s : Scope} (h : compOkN a s = true) : ∀ y ∈ s.names, y.2 = .free → s.names.lookup y.1 = some .free ∧ (a.names.lookup y.1 = some .cell ∨ a.names.lookup y.1 = some .free) := fun y hy e => by
  have q := compOkN_at h hy
  rw [e] at q
  simp only [Bool.and_eq_true, Bool.or_eq_true, beq_iff_eq] at q
  exact q
def compCxN (X : Cx) (Nc : List Str) (scope : Scope) (cs : List (Str × Addr)) (C : Addr) (s2 : Shared) (H2 : Hp) (fp : List Addr) : Cx :=
  { compCx X Nc scope cs C s2 H2 fp with fn := fun x => scope.names.lookup x == some .cell }
theorem closure_ofN {env : Env} {scope : Scope} (h : ∀ y ∈ scope.names, y.2 = .free → ∃ c, env.cells.lookup y.1 = some c) :
    ∃ cl, closureFor scope env = pure cl ∧ (∀ p ∈ cl, env.cells.lookup p.1 = some p.2) ∧ (∀ y ∈ scope.names, y.2 = .free → ∃ c, cl.lookup y.1 = some c ∧ env.cells.lookup y.1 = some c) := by
  obtain ⟨cl, e, h1, h2, h3⟩ := closure_in (env := env) scope.names [] h
  have up : ∀ p ∈ cl, env.cells.lookup p.1 = some p.2 := fun p q => by
    rcases h1 _ q with z | z
    · cases z
    · exact z
  refine ⟨cl, ?_, up, fun y hy hf => ?_⟩
  · unfold closureFor
    simp only [bind_pure_comp] at e ⊢
    rw [e]
    exact pure_bind _ _
  · obtain ⟨c, hc⟩ := h3 y hy hf
    cases q : cl.lookup y.1 with
    | none => exact absurd (List.lookup_eq_none_iff.mp q _ hc) (by simp)
    | some c' => exact ⟨c', rfl, up _ (PySem.mem_of_lookup q)⟩
section
variable {X : Cx}

theorem comp_startN {pins : List (Addr × Obj)} {σ : St} {H2 : Hp} {s2 : Shared} {Nc : List Str} {js : List (Option Nat)} {scope : Scope} {cs : List (Str × Addr)} {fp : List Addr} {h1 : Heap} {tk : Nat} {D C : Addr} {oD : Obj} {m : Str → Option Value}
    (I : Inv X pins σ H2 s2) (hok : compOkN X.env.scope scope = true) (htk : takesC X.N Nc scope js 0 = true) (up : ∀ x c, cs.lookup x = some c → X.env.cells.lookup x = some c ∨ (C < c ∧ h1.IsCell c none)) (hinj : ∀ x y c, cs.lookup x = some c → cs.lookup y = some c → x = y) (hown : ∀ y ∈ scope.names, y.2 = .cell → ∃ c, cs.lookup y.1 = some c ∧ C < c) (hfr : ∀ y ∈ scope.names, y.2 = .free → ∃ c, cs.lookup y.1 = some c ∧ X.env.cells.lookup y.1 = some c)
    (hfp : ∀ b ∈ fp, FpOk X pins H2 b) (hfl : ∀ b ∈ fp, b < s2.heap.objs.size) (hD : D = s2.heap.objs.size) (hC : C = s2.heap.objs.size + 1) (old : ∀ b o, s2.heap.get? b = some o → h1.get? b = some o) (hns : h1.Ns C m) (hoD : h1.get? D = some oD) (hdD : ∀ v, oD.data ≠ .cell v) :
    Inv (compCxN X Nc scope cs C s2 H2 fp) [(D, oD)] (iniC js σ) H2 { s2 with heap := h1, toks := tk } := by
  have leC : s2.heap.objs.size ≤ C := by rw [hC]; exact Nat.le_succ _
  have leD : s2.heap.objs.size ≤ D := Nat.le_of_eq hD.symm
  have kf : ∀ x, ((compEnvC scope cs C X.env).kindOf x = some .cell ∨ (compEnvC scope cs C X.env).kindOf x = some .free) → ∃ c, cs.lookup x = some c := fun x hx => by
    have : ∃ k, (compEnvC scope cs C X.env).kindOf x = some k ∧ (k = .cell ∨ k = .free) := hx.elim (fun q => ⟨_, q, .inl rfl⟩) fun q => ⟨_, q, .inr rfl⟩
    obtain ⟨k, e, hk⟩ := this
    obtain ⟨k', h1, h2⟩ := lookup_relabel_inv (show (scope.names.map _).lookup x = some k from e)
    have hm := lookup_mem h1
    have : k' = .free ∨ k' = .cell := by
      rcases h2 with q | q
      · subst q
        exact hk.symm
      · exact .inl q.1
    rcases this with z | z
    · subst z
      obtain ⟨c, q, _⟩ := hfr _ hm rfl
      exact ⟨c, q⟩
    · subst z
      obtain ⟨c, q, _⟩ := hown _ hm rfl
      exact ⟨c, q⟩
  have nC : ∀ c x, X.env.cells.lookup x = some c → c < s2.heap.objs.size := fun c x e => by
    obtain ⟨v, q⟩ := I.cell x c e
    exact q.lt
  have noB : ∀ b, b ∈ fp → b ∉ frs X.stack := fun b hb q => by
    rcases List.mem_cons.mp (I.stkSub b q) with z | z
    · exact (hfp b hb).2.1 z
    · exact (hfp b hb).2.2.1 z
  have okX : (compCxN X Nc scope cs C s2 H2 fp).Ok := by
    refine ⟨I.ok.mod, (show scope.kind = .function from compOkN_kind hok), I.ok.glob, I.ok.blt, ?_, fun x y c e1 e2 => hinj x y c e1 e2, fun x hx => ?_, (fun x c e1 e2 => ?_), I.ok.hd, I.ok.frames, .inl rfl, fun b hb => ⟨?_, fun x c e => (up _ _ e).elim (fun z => (hfp b hb).2.2.2.2.1 x c z) fun z => Nat.ne_of_gt (Nat.lt_trans (Nat.lt_of_lt_of_le (hfl b hb) leC) z.1)⟩, I.bs, Nat.le_trans I.ok.bsz I.sz, fun b o e hb => ?_, fun b hb => noB b hb, I.stack, I.stkFree⟩
    · show s2.heap.objs.size ≤ C; exact leC
    · exact kf x hx
    · have hm := lookup_mem (beq_iff_eq.mp (show (scope.names.lookup x == some NameKind.cell) = true from e1))
      obtain ⟨c', q1, q2⟩ := hown _ hm rfl
      have : c = c' := Option.some.inj ((show cs.lookup x = some c from e2).symm.trans q1)
      rw [this]
      exact Nat.le_trans leC (Nat.le_of_lt q2)
    · exact Nat.ne_of_lt (Nat.lt_of_lt_of_le (hfl b hb) leC)
    · rcases (hfp b hb).2.2.2.1 with q | q
      · exact I.ok.noex b o e q
      · exact absurd (Nat.lt_of_lt_of_le (Heap.lt_size e) (Nat.le_trans I.ok.bsz q)) (Nat.lt_irrefl _)
  refine ⟨okX, rfl, I.bare, Un.kept old, ⟨m, hns, fun i x v e1 e2 e3 => ?_⟩, fun x c e => ?_, I.hok.fresh leC, fun x c e => (up _ _ e).elim (fun z => I.freeC x c z) fun z => I.hok.fresh (Nat.le_trans leC (Nat.le_of_lt z.1)), fun p hp => ?_, I.hok.kept old, ?_⟩
  · have e2' : (iniC js σ)[i]? = some (some v) := e2
    unfold iniC at e2'
    rw [List.getElem?_map] at e2'
    cases q : js[i]? with
    | none => rw [q] at e2'; cases e2'
    | some j0 =>
      cases j0 with
      | none => rw [q] at e2'; cases e2'
      | some j =>
        rw [q] at e2'
        simp only [Option.map_some, Option.some.injEq] at e2'
        have e4 : σ[j]? = some (some v) := by
          cases z : σ[j]? with
          | none => rw [z] at e2'; cases e2'
          | some o => rw [z] at e2'; simp only [Option.join_some] at e2'; rw [e2']
        obtain ⟨y, y1, y2, y3⟩ := takesC_at htk q
        rw [Nat.zero_add] at y1
        have : x = y := Option.some.inj ((show Nc[i]? = some x from e1).symm.trans y1)
        subst this
        have hm := lookup_mem y3
        obtain ⟨c, c1, c2⟩ := hfr _ hm rfl
        have hk := (compOkN_free hok _ hm rfl).2
        obtain ⟨m0, hn0, hl0⟩ := I.loc
        obtain ⟨u, r, l⟩ := hl0 j x v y2 e4 (hk.elim (fun z => .inr (.inl z)) fun z => .inr (.inr z))
        refine ⟨u, r, .inr ⟨?_, c, c1, ?_⟩⟩
        · rcases e3 with z | z | z
          · obtain ⟨k', w1, w2⟩ := lookup_relabel_inv (show (scope.names.map _).lookup x = some NameKind.local from z)
            rw [y3] at w1; cases w1
            rcases w2 with w | w
            · cases w
            · cases w.2
          · exact .inl z
          · exact .inr z
        · rcases l with ⟨lk, _⟩ | ⟨_, c', c3, c4⟩
          · rcases hk with z | z
            · rw [show X.env.kindOf x = some .cell from z] at lk; cases lk
            · rw [show X.env.kindOf x = some .free from z] at lk; cases lk
          · rw [c2] at c3; cases c3
            obtain ⟨oc, w1, w2⟩ := c4
            exact ⟨oc, old _ _ w1, w2⟩
  · rcases up _ _ e with z | z
    · obtain ⟨v, oc, w1, w2⟩ := I.cell x c z
      exact ⟨v, oc, old _ _ w1, w2⟩
    · exact ⟨_, z.2⟩
  · have : p = (D, oD) := by
      have hp' : p ∈ ([] ++ [(D, oD)] : List (Addr × Obj)) := hp
      simpa using hp'
    subst this
    refine ⟨hoD, I.hok.fresh leD, (by show D ≠ C; rw [hD, hC]; exact Nat.ne_of_lt (Nat.lt_succ_self _)), fun hb => ?_, hdD⟩
    have hb' : D ∈ frs X.stack := hb
    obtain ⟨_, o, ho, _⟩ := I.stack.mem hb'
    exact absurd (Nat.lt_of_lt_of_le (Heap.lt_size ho) leD) (Nat.lt_irrefl _)
  · have := takesC_len htk
    show (iniC js σ).length = Nc.length
    unfold iniC; rw [List.length_map]; omega


theorem comp_runN {pins : List (Addr × Obj)} {σ : St} {H : Hp} {s : Shared} {tg elt iter : Expr} {ifs : List Expr} {scope : Scope} {pos : Pos} {wi : TI} {g : TG} {tt : TT} {te : TE} {Nc : List Str} {js : List (Option Nat)} {use : Option (Value → Sem Unit)} {Q : VK} {QQ : Value → Shared → Prop}
    (hc : X.calm = true) (hok : compOkN X.env.scope scope = true) (htk : takesC X.N Nc scope js 0 = true) (hi : PI X tg iter wi)
    (hg : ∀ cl C s2 H2 fp, PG (compCxN X Nc scope cl C s2 H2 fp) tg g) (ht : ∀ cl C s2 H2 fp, PIfs (compCxN X Nc scope cl C s2 H2 fp) ifs tt) (he : ∀ cl C s2 H2 fp, PE (compCxN X Nc scope cl C s2 H2 fp) elt te)
    (hs : ∀ x, foldedSetIterable iter X.env x = pure x) {L : List Nat} (ho : OnlyG g L) (hL : (L.all fun k => js[k]? == some none) = true) (I : Inv X pins σ H s) (h : tComp wi g tt te js σ H Q)
    (fin : ∀ (D C : Addr) (H' H2 : Hp) (s2 s' : Shared) (xs : List V) (m : Str → Option Value), Inv X pins σ H2 s2 → H' C = none → C = D + 1 → D = s2.heap.objs.size → s'.heap.Ns C m → (∀ h', Heap.SameBut C s'.heap h' → Inv X pins σ (upd H' D (.lst xs)) { s' with heap := h' }) → Q (.ref D) (upd H' D (.lst xs)) →
      compPost (model X.prog X.w) X.A X.xe use QQ (.ref D) C (.ok .next) s') :
    wpAny (model X.prog X.w) X.A (comprehension (.ListComp elt [⟨tg, iter, ifs, 0⟩] scope pos) scope X.env (firstIterPos [⟨tg, iter, ifs, 0⟩] pos) (newList []) false (eval iter X.env) use) QQ X.xe s := by
  have hcells : ∀ y ∈ scope.names, y.2 = .free → ∃ c, X.env.cells.lookup y.1 = some c := fun y hy hf => I.ok.has y.1 (compOkN_free hok y hy hf).2
  obtain ⟨cl, hcl, upM, hfr0⟩ := closure_ofN hcells
  have hk := compOkN_kind hok
  refine wpAny_comprehension_free (use := use) rfl hs hcl hk (compOkN_local hok) (thn (hi pins s σ H _ I h) fun v s1 h1 => thn h1 fun itv s2 h2 => ?_)
  obtain ⟨it, fp, tn, J, H2, e, I2, T, st2, f2, W, ⟨m0, w0⟩, turn⟩ := h2
  subst e
  have clt : ∀ p ∈ cl, p.2 < s2.heap.objs.size := fun p hp => by
    obtain ⟨v, q⟩ := I2.cell p.1 p.2 (upM p hp)
    exact q.lt
  refine wpAny_newObj_type (newEnv_own (fun p hp => ?_) fun cs h₁ CO => ?_)
  · show p.2 < (s2.heap.push _).objs.size
    rw [Heap.size_push]; exact Nat.lt_succ_of_lt (clt p hp)
  dsimp only at CO ⊢
  generalize hH2 : s2.heap.push { cls := .type "list", dict := none, data := .seq ([] : List Value).toArray } = HH at CO ⊢
  have hC : HH.objs.size = s2.heap.objs.size + 1 := by rw [← hH2, Heap.size_push]
  have hcl' : ∀ p ∈ cl, p.2 < HH.objs.size := fun p hp => by rw [hC]; exact Nat.lt_succ_of_lt (clt p hp)
  have hns₁ : h₁.Ns HH.objs.size (fun _ => none) := ⟨_, #[], _, CO.old _ _ (Heap.get?_push_size _ rfl), rfl, fun e he => absurd he (by simp), fun n => rfl⟩
  have up : ∀ x c, cs.lookup x = some c → X.env.cells.lookup x = some c ∨ (HH.objs.size < c ∧ h₁.IsCell c none) := fun x c e => by
    rcases CO.mem _ (PySem.mem_of_lookup e) with z | z
    · exact .inl (upM _ z)
    · exact .inr ⟨z.1, z.2.2⟩
  have hinj : ∀ x y c, cs.lookup x = some c → cs.lookup y = some c → x = y := fun x y c e1 e2 => by
    have m1 := PySem.mem_of_lookup e1
    have m2 := PySem.mem_of_lookup e2
    rcases CO.mem _ m1 with z | z
    · rcases CO.mem _ m2 with z' | z'
      · exact I2.ok.inj x y c (upM _ z) (upM _ z')
      · exact absurd (hcl' _ z) (Nat.not_lt_of_le (Nat.le_of_succ_le z'.1))
    · exact CO.inj _ m1 _ m2 z.1 rfl
  have hfr : ∀ y ∈ scope.names, y.2 = .free → ∃ c, cs.lookup y.1 = some c ∧ X.env.cells.lookup y.1 = some c := fun y hy hf => by
    obtain ⟨c, q1, q2⟩ := hfr0 y hy hf
    refine ⟨c, ?_, q2⟩
    rw [CO.oth y.1 fun y' hy' hc' z => ?_]
    · exact q1
    · have w1 := compOkN_cell hok y' hy' hc'
      have w2 := (compOkN_free hok y hy hf).1
      rw [z, w2] at w1; cases w1
  have hfl : ∀ b ∈ fp, b < s2.heap.objs.size := fun b hb => by
    obtain ⟨o, ho, _⟩ := T.obj 0 _ st2 b hb
    exact Heap.lt_size ho
  have hDC : s2.heap.objs.size ≠ HH.objs.size := by rw [hC]; exact Nat.ne_of_lt (Nat.lt_succ_self _)
  have old : ∀ b o, s2.heap.get? b = some o → h₁.get? b = some o := fun b o e => CO.old b o (Heap.get?_push_of_some _ (hH2 ▸ Heap.get?_push_of_some _ e))
  have hacc : h₁.get? s2.heap.objs.size = some { cls := .type "list", dict := none, data := .seq ([] : List Value).toArray } := CO.old _ _ (Heap.get?_push_of_some _ (hH2 ▸ Heap.get?_push_size _ rfl))
  have I4 := comp_startN (Nc := Nc) (js := js) (tk := s2.toks) I2 hok htk up hinj (fun y hy hc => CO.own y hy hc) hfr f2 hfl rfl hC old hns₁ hacc (by intro v z; cases z)
  have st4 : tn 0 h₁ := T.keep _ _ _ st2 fun b _ o e => old b o e
  generalize hXc : compCxN X Nc scope cs HH.objs.size s2 H2 fp = Xc at I4
  have hXA : Xc.A = X.A := by rw [← hXc]; rfl
  have hXe : Xc.env = compEnvC scope cs HH.objs.size X.env := by rw [← hXc]; rfl
  have hXp : Xc.prog = X.prog := by rw [← hXc]; rfl
  have hXw : Xc.w = X.w := by rw [← hXc]; rfl
  have hXx : Xc.xe = fun _ _ => False := by rw [← hXc]; rfl
  have hXk : Xc.K = X.K := by rw [← hXc]; rfl
  have hXcalm : Xc.calm = true := by rw [← hXc]; exact hc
  have fpok : ∀ {pl : List (Addr × Obj)} {H' : Hp}, (∀ p ∈ pl, s2.heap.objs.size ≤ p.1) → (∀ b ∈ fp, H' b = none) → ∀ b ∈ fp, FpOk Xc pl H' b := fun {pl H'} hpl hn b hb => by
    have k1 : b ≠ HH.objs.size := Nat.ne_of_lt (by rw [hC]; exact Nat.lt_succ_of_lt (hfl b hb))
    have k2 : b ∉ frs X.stack := fun q => by
      rcases List.mem_cons.mp (I2.stkSub b q) with z | z
      · exact (f2 b hb).2.1 z
      · exact (f2 b hb).2.2.1 z
    rw [← hXc]
    refine ⟨hn b hb, k1, k2, .inl hb, fun x c e => (up _ _ e).elim (fun z => (f2 b hb).2.2.2.2.1 x c z) fun z => Nat.ne_of_gt (Nat.lt_trans (by rw [hC]; exact Nat.lt_succ_of_lt (hfl b hb)) z.1), fun p hp => ?_⟩
    have hp' : p ∈ pl := by simpa [compCxN, compCx] using hp
    exact Nat.ne_of_gt (Nat.lt_of_lt_of_le (hfl b hb) (hpl p hp'))
  have gX : PG Xc tg g := hXc ▸ hg cs HH.objs.size s2 H2 fp
  have tX : PIfs Xc ifs tt := hXc ▸ ht cs HH.objs.size s2 H2 fp
  have eX : PE Xc elt te := hXc ▸ he cs HH.objs.size s2 H2 fp
  have hs0 : Xc.s₀ = s2 := by rw [← hXc]; rfl
  have hh0 : Xc.H₀ = H2 := by rw [← hXc]; rfl
  have hfs : Xc.fs = frs X.stack := by rw [← hXc]; rfl
  have hex : Xc.ex = fp := by rw [← hXc]; rfl
  have loop : codeAny (model X.prog X.w) X.A (.compLoop (.ListComp elt [⟨tg, iter, ifs, 0⟩] scope pos) 0 (.ref it) (.ref s2.heap.objs.size) (compEnvC scope cs HH.objs.size X.env)) (compPost (model X.prog X.w) X.A X.xe use QQ (.ref s2.heap.objs.size) HH.objs.size)
      { s2 with heap := h₁, toks := s2.toks } := by
    refine codeAny_compLoop_all (fun n s' => ∃ i acc its nn H', Inv Xc [(s2.heap.objs.size, { cls := .type "list", dict := none, data := .seq (its : List Value).toArray nn })] (iniC js σ) H' s' ∧ Vals acc its ∧ acc.length ≤ sizeLine ∧ tn i s'.heap ∧ (∀ b ∈ fp, H' b = none) ∧ W i n acc H') ?_ m0
      ⟨0, [], [], 0, H2, I4, .nil, Nat.zero_le _, st4, fun b hb => (f2 b hb).1, w0⟩
    rintro n s3 ⟨i, acc, its, nn, H3, I3, va, hlen, st3, fr3, w3⟩
    have pg : ∀ p ∈ ([(s2.heap.objs.size, { cls := .type "list", dict := none, data := .seq its.toArray nn })] : List (Addr × Obj)), s2.heap.objs.size ≤ p.1 := fun p hp => by
      simp only [List.mem_cons, List.not_mem_nil, or_false] at hp
      subst hp; exact Nat.le_refl _
    rcases turn i n acc H3 w3 with ⟨stop, hl, qn⟩ | ⟨go, hl, step⟩
    · have q := T.done Xc hXp hXw hXk hXcalm i _ s3 (iniC js σ) H3 (fun _ _ => False) I3 (fpok pg fr3) st3 stop
      rw [hXA] at q
      refine thn q fun r s4 ⟨hr, I5⟩ => ?_
      subst hr
      have hpin := I5.pin _ (List.mem_append_right _ (.head _))
      obtain ⟨m5, hn5, _⟩ := I5.loc
      rw [hXe] at hn5
      refine fin _ _ H3 H2 s2 s4 acc m5 I2 (by have := I5.free; rw [hXe] at this; exact this) hC rfl hn5 (fun h' hsb => ?_) (qn _ hpin.2.1)
      have same : ∀ b o, b ≠ HH.objs.size → s4.heap.get? b = some o → h'.get? b = some o := fun b o hb e => hsb.extBut b o hb e
      have un := I5.base
      rw [hfs, hex, hh0, hs0] at un
      have lt : ∀ b o, s2.heap.get? b = some o → b < s2.heap.objs.size := fun b o e => Heap.lt_size e
      have neC : ∀ b o, s2.heap.get? b = some o → b ≠ HH.objs.size := fun b o e => Nat.ne_of_lt (by rw [hC]; exact Nat.lt_succ_of_lt (lt b o e))
      have neD : ∀ b o, s2.heap.get? b = some o → b ≠ s2.heap.objs.size := fun b o e => Nat.ne_of_lt (lt b o e)
      have trkC : ∀ b o, H3 b = some o → b ≠ HH.objs.size := fun b o e z => by
        have := I5.free; rw [hXe] at this; rw [z, show H3 HH.objs.size = none from this] at e; cases e
      refine I2.call' (s' := { s4 with heap := h' }) (ch := fp) (I5.os.trans (by rw [hs0])) ⟨fun b o e n hb hx => same _ _ (neC b o e) (un.keep b o e n hb hx), fun b o e n hb hx => ?_, fun b o e n hx => by rw [upd_ne (neD b o e)]; exact un.free b o e n hx, fun b o e hx => ?_, fun b xs e => ?_, fun b o u e => ?_, fun b ps e => ?_⟩ (fun a o e => ?_) I5.bare fun b hb => ⟨(f2 b hb).2.2.2.1, (f2 b hb).2.1, (f2 b hb).2.2.2.2.1, (f2 b hb).2.2.2.2.2⟩
      · obtain ⟨sl, z⟩ := un.slot b o e n hb hx
        exact ⟨sl, same _ _ (neC b o e) z⟩
      · obtain ⟨o', z⟩ := un.there b o e hx
        exact ⟨o', same _ _ (neC b o e) z⟩
      · rw [upd_ne (Nat.ne_of_lt (I2.hok.lt e))]; exact un.tups b xs e
      · rw [upd_ne (Nat.ne_of_lt (I2.hok.lt e))]; exact un.frzs b o u e
      · obtain ⟨more, z⟩ := un.tbls b ps e
        exact ⟨more, by rw [upd_ne (Nat.ne_of_lt (I2.hok.lt e))]; exact z⟩
      · by_cases ha : a = s2.heap.objs.size
        · subst ha
          rw [upd_same] at e; cases e
          exact ⟨hl, its, nn, va, same _ _ hDC hpin.1⟩
        · rw [upd_ne ha] at e
          have q := I5.hok a o e
          rw [hXp, hXw] at q
          refine q.stay (fun b u hb z => same b u ?_ z) (fun b z => by rw [upd_ne]; exact z; intro y; subst y; rw [hpin.2.1] at z; cases z) fun b xs z => by rw [upd_ne]; exact z; intro y; subst y; rw [hpin.2.1] at z; cases z
          rcases hb with hb | hb
          · subst hb; exact trkC _ _ e
          · exact trkC _ _ hb
    · have q := T.item Xc hXp hXw hXk hXcalm i _ s3 (iniC js σ) H3 (fun _ _ => False) I3 (fpok pg fr3) st3 go
      rw [hXA] at q
      refine thn q fun r s4 ⟨u, hr, h4⟩ => ?_
      subst hr
      refine thn h4 fun _ s5 ⟨x, H5, I5, r5, y5, st5, fr5⟩ => ?_
      have I5' := I5.pinned (fpok pg fr5) (T.obj _ _ st5)
      have again : ∀ {σ7 : St} {H7 : Hp} {s7 : Shared} {acc7 : List V} {its7 : List Value} {n7 : Nat} {m : Nat}, Inv Xc ([(s2.heap.objs.size, { cls := .type "list", dict := none, data := .seq its7.toArray n7 })] ++ pinsAt fp s5.heap) σ7 H7 s7 → Vals acc7 its7 → acc7.length ≤ sizeLine → W (i + 1) m acc7 H7 → σ7.length = (iniC js σ).length → (∀ (k : Nat) v, (iniC js σ)[k]? = some (some v) → σ7[k]? = some (some v)) →
          ∃ i acc its nn H', Inv Xc [(s2.heap.objs.size, { cls := .type "list", dict := none, data := .seq (its : List Value).toArray nn })] (iniC js σ) H' s7 ∧ Vals acc its ∧ acc.length ≤ sizeLine ∧ tn i s7.heap ∧ (∀ b ∈ fp, H' b = none) ∧ W i m acc H' := fun {σ7 H7 s7 acc7 its7 n7 m} I7 v7 l7 w7 hl7 hw7 => by
        refine ⟨i + 1, acc7, its7, n7, H7, (I7.weak hl7.symm hw7).unpinned, v7, l7, T.keep _ _ _ st5 fun b hb o e => (I7.pin (b, o) (List.mem_append_right _ (List.mem_append_right _ (mem_pinsAt hb e)))).1, fun b hb => ?_, w7⟩
        obtain ⟨o, e, d⟩ := T.obj _ _ st5 b hb
        exact (I7.pin (b, o) (List.mem_append_right _ (List.mem_append_right _ (mem_pinsAt hb e)))).2.1
      have keep : ∀ {σ6 : St}, KeepOn L (iniC js σ) σ6 → σ6.length = (iniC js σ).length ∧ ∀ (k : Nat) v, (iniC js σ)[k]? = some (some v) → σ6[k]? = some (some v) := fun {σ6} hk => ⟨hk.1, fun k v e => by
        rw [hk.2 k]
        · exact e
        · intro z
          have q := List.all_eq_true.mp hL k z
          simp only [beq_iff_eq] at q
          unfold iniC at e
          rw [List.getElem?_map, q] at e
          cases e⟩
      have q6 := gX _ s5 (iniC js σ) H5 x u _ I5' r5 (ho _ _ _ _ _ (fun σ' H' kk z => And.intro kk z) (step x H5 y5))
      rw [hXe, hXA, hXp, hXw, hXx] at q6
      refine thn q6 fun _ s6 ⟨σ6, H6, I6, k6, q6⟩ => ?_
      obtain ⟨kl, kv⟩ := keep k6
      have q7 := tX _ s6 σ6 H6 _ I6 q6
      rw [hXe, hXA, hXp, hXw, hXx] at q7
      refine thn q7 fun b s7 ⟨H7, I7, q7⟩ => ?_
      cases b with
      | false =>
        obtain ⟨m', hm, w7⟩ := q7
        exact ⟨m', hm, again I7 va hlen w7 kl kv⟩
      | true =>
        have q8 := eX _ s7 σ6 H7 _ I7 q7
        rw [hXe, hXA, hXp, hXw, hXx] at q8
        refine thn q8 fun y s8 ⟨v8, H8, I8, r8, m', hm, w8⟩ => ?_
        have pinD := I8.pin _ (List.mem_append_right _ (List.mem_append_left _ (.head _)))
        have hnf : ∀ p ∈ pinsAt fp s5.heap, p.1 ≠ s2.heap.objs.size := fun p hp => by
          obtain ⟨z, _⟩ := of_pinsAt hp
          exact Nat.ne_of_lt (hfl _ z)
        have va' := va.length
        refine call_meets F.slot_list_append ⟨_, pinD.1, rfl⟩ F.entry_list_append (F.args_list_append_2 _ _) (PySem.list_append s2.heap.objs.size its.toArray nn y (by rw [List.size_toArray]; omega)) ⟨pinD.1, ?_⟩
        have e9 := PySem.IsL.update pinD.1 (fun a => a.push y)
        have e9' : its.toArray.push y = (its ++ [y]).toArray := by simp
        dsimp only at e9
        rw [e9'] at e9
        have I8' : Inv Xc (pinsAt fp s5.heap) σ6 H8 s8 := I8.pins_of fun p hp => I8.pin p (List.mem_append_right _ (List.mem_append_right _ hp))
        have hXpn : Xc.pn = [] := by rw [← hXc]; rfl
        have hXs : s2.heap.objs.size ∉ frs X.stack := by rw [← hfs]; exact pinD.2.2.2.1
        have I9 := I8'.turned (t' := s8.toks) (it := s2.heap.objs.size) (h' := s8.heap.update s2.heap.objs.size (Obj.mapSeq fun a => a.push y)) (fun b o hb e => (Heap.get?_update_other s8.heap _ (Ne.symm hb)).trans e) pinD.2.1 pinD.2.2.1
          (.inr (by rw [hs0]; exact Nat.le_refl _)) (fun x c e => by
            rw [hXe] at e
            intro z
            rcases up _ _ e with y | y
            · obtain ⟨v, q⟩ := I2.cell x c y
              exact absurd q.lt (by rw [z]; exact Nat.lt_irrefl _)
            · have := y.1
              rw [z, hC] at this
              exact absurd this (Nat.not_lt_of_le (Nat.le_succ _))) (fun p hp => by rw [hXpn, List.nil_append] at hp; exact hnf p hp)
        have I10 := I9.pins_of (pins' := [(s2.heap.objs.size, { cls := .type "list", dict := none, data := .seq (its ++ [y]).toArray _ })] ++ pinsAt fp s5.heap) fun p hp => by
          rcases List.mem_append.mp hp with z | z
          · simp only [List.mem_cons, List.not_mem_nil, or_false] at z
            subst z
            exact ⟨e9, pinD.2.1, pinD.2.2.1, pinD.2.2.2.1, by intro v z; cases z⟩
          · exact I9.pin p (List.mem_append_right _ z)
        exact ⟨m', hm, again I10 (va.append (.cons r8 .nil)) (by rw [List.length_append, List.length_singleton]; omega) w8 kl kv⟩
  exact codeAny_compStart_list loop (T.self _ 0 _ _ _ st4 loop)

theorem pe_compN {tg elt iter : Expr} {ifs : List Expr} {scope : Scope} {pos : Pos} {wi : TI} {g : TG} {tt : TT} {te : TE} (Nc : List Str) (js : List (Option Nat)) {L : List Nat}
    (hc : X.calm = true) (hok : compOkN X.env.scope scope = true) (htk : takesC X.N Nc scope js 0 = true) (hi : PI X tg iter wi)
    (hg : ∀ cl C s2 H2 fp, PG (compCxN X Nc scope cl C s2 H2 fp) tg g) (ht : ∀ cl C s2 H2 fp, PIfs (compCxN X Nc scope cl C s2 H2 fp) ifs tt) (he : ∀ cl C s2 H2 fp, PE (compCxN X Nc scope cl C s2 H2 fp) elt te)
    (ho : OnlyG g L) (hL : (L.all fun k => js[k]? == some none) = true := by rfl) (hs : ∀ x, foldedSetIterable iter X.env x = pure x := by intro _; rfl) : PE X (.ListComp elt [⟨tg, iter, ifs, 0⟩] scope pos) (tComp wi g tt te js) := by
  intro pins s σ H Q I h
  rw [eval_ListComp]
  exact comp_runN (use := none) hc hok htk hi hg ht he hs ho hL I h fun D C H' H2 s2 s' xs m I2 hHC e1 e2 hn hI q => ⟨m, hn, fun h' hsb => ⟨.ref D, _, hI h' hsb, rfl, q⟩⟩


theorem ps_setCN {i : Nat} {x : Str} {pos' spos : Pos} {tg elt iter : Expr} {ifs : List Expr} {scope : Scope} {pos : Pos} {wi : TI} {g : TG} {tt : TT} {te : TE} (Nc : List Str) (js : List (Option Nat)) {L : List Nat}
    (hN : X.N.Nodup) (hxi : X.N[i]? = some x) (hx : Loc X.env.scope x)
    (hc : X.calm = true) (hok : compOkN X.env.scope scope = true) (htk : takesC X.N Nc scope js 0 = true) (hi : PI X tg iter wi)
    (hg : ∀ cl C s2 H2 fp, PG (compCxN X Nc scope cl C s2 H2 fp) tg g) (ht : ∀ cl C s2 H2 fp, PIfs (compCxN X Nc scope cl C s2 H2 fp) ifs tt) (he : ∀ cl C s2 H2 fp, PE (compCxN X Nc scope cl C s2 H2 fp) elt te)
    (ho : OnlyG g L) (hL : (L.all fun k => js[k]? == some none) = true := by rfl) (hs : ∀ x, foldedSetIterable iter X.env x = pure x := by intro _; rfl)
    (hsw : swapsWith (.ListComp elt [⟨tg, iter, ifs, 0⟩] scope pos) (some (.Name x pos')) spos.line X.env = pure true := by rfl)
    (hf : X.fn x = true ∨ X.env.scope.names.lookup x = some .local := by first | exact .inl rfl | exact .inr rfl | assumption) :
    PS X (.Assign [.Name x pos'] (.ListComp elt [⟨tg, iter, ifs, 0⟩] scope pos) spos) (tAsg (tComp wi g tt te js) (gName i)) := by
  intro pins s σ H D I h
  rw [exec_Assign_Name_used _ _ _ _ hsw]
  refine wpAny_bind (wpAny_standAt (wpAny_bind ?_))
  show wpAny _ _ (comprehension _ _ _ _ _ _ _ _ >>= _) _ _ _
  refine wpAny_bind (thn (Q := fun _ s' => ∃ σ' H', Inv X pins σ' H' s' ∧ D.nx σ' H') (comp_runN (Q := fun v H1 => gName i v σ H1 D.nx) (use := some (assign (.Name x pos') X.env)) hc hok htk hi hg ht he hs ho hL I h ?_) fun _ s' ⟨σ', H', I', q⟩ => wpAny_pure (wpAny_pure ⟨σ', H', I', q⟩))
  intro D' C H' H2 s2 s' xs m I2 hHC e1 e2 hn hI q
  obtain ⟨oC, es, ep, hoC, hdC, hrest⟩ := id hn
  have leC : s2.heap.objs.size ≤ C := by rw [e1, e2]; exact Nat.le_succ _
  have ltC : s2.heap.objs.size < C := by rw [e1, e2]; exact Nat.lt_succ_self _
  have neDC : C ≠ D' := by rw [e2]; exact Nat.ne_of_gt ltC
  have fresh : s2.heap.get? C = none := by
    cases e : s2.heap.get? C with
    | none => rfl
    | some o => exact absurd (Nat.lt_of_lt_of_le (Heap.lt_size e) leC) (Nat.lt_irrefl _)
  have neL : C ≠ X.env.locals := Nat.ne_of_gt (Nat.lt_of_lt_of_le I2.lt leC)
  have nfs : C ∉ X.fs := I2.nofs leC
  have ncl : ∀ x c, X.env.cells.lookup x = some c → c ≠ C := fun x c e z => by
    obtain ⟨v, q⟩ := I2.cell x c e
    exact absurd (Nat.lt_of_lt_of_le q.lt leC) (by rw [z]; exact Nat.lt_irrefl _)
  have npn : ∀ p ∈ X.pn ++ pins, p.1 ≠ C := fun p hp z => by
    have := (I2.pin p hp).1
    rw [z, fresh] at this; cases this
  have hH : (upd H' D' (HO.lst xs)) C = none := by rw [upd_ne neDC]; exact hHC
  have I0 := hI s'.heap sameBut_refl
  have I1 : Inv X (pins ++ [(C, oC)]) σ (upd H' D' (.lst xs)) s' := I0.pins_of fun p hp => by
    rcases List.mem_append.mp hp with z | z
    · exact I0.pin p (List.mem_append_right _ z)
    · simp only [List.mem_cons, List.not_mem_nil, or_false] at z
      subst z
      exact ⟨hoC, hH, neL, nfs, fun v z => by rw [hdC] at z; cases z⟩
  show wpAny _ _ _ _ _ _
  refine thn (pg_name (X := X) (i := i) hN hxi hx hf (pins ++ [(C, oC)]) s' σ _ (.ref D') (.ref D') _ I1 rfl q) fun _ s3 ⟨σ3, H3, I3, q3⟩ => ?_
  have pC := I3.pin (C, oC) (List.mem_append_right _ (List.mem_append_right _ (.head _)))
  refine ⟨m, ⟨oC, es, ep, pC.1, hdC, hrest⟩, fun h' hsb => ⟨σ3, H3, ?_, q3⟩⟩
  exact I3.unpinned.turned (t' := s3.toks) (it := C) (fun b o hb e => hsb.extBut b o hb e) pC.2.1 neL (.inr (Nat.le_trans I2.sz leC)) ncl npn
end
end L2


set_option Elab.async false
set_option linter.all false
set_option maxRecDepth 100000
set_option maxHeartbeats 1000000
namespace L2
open PySem PySem.Spec PyProof.Rows PySem.W

def CF (n : Nat) (P : Nat → Bool) (vals : Nat → V) (H1 : Hp) (i m : Nat) (acc : List V) (H : Hp) : Prop := m = n - i ∧ i ≤ n ∧ acc = ((List.range i).filter P).map vals ∧ Same H1 H
theorem CF.take {n : Nat} {P : Nat → Bool} {vals : Nat → V} {H1 H : Hp} {i : Nat} {v : V} (hi : i < n) (hP : P i = true) (hv : v = vals i) (s : Same H1 H) : ∃ m', m' < n - i ∧ CF n P vals H1 (i + 1) m' (((List.range i).filter P).map vals ++ [v]) H :=
  ⟨n - (i + 1), by omega, rfl, hi, by rw [List.range_succ, List.filter_append, List.map_append, hv]; simp [hP], s⟩
theorem CF.skip {n : Nat} {P : Nat → Bool} {vals : Nat → V} {H1 H : Hp} {i : Nat} (hi : i < n) (hP : P i = false) (s : Same H1 H) : ∃ m', m' < n - i ∧ CF n P vals H1 (i + 1) m' (((List.range i).filter P).map vals) H :=
  ⟨n - (i + 1), by omega, rfl, hi, by rw [List.range_succ, List.filter_append, List.map_append]; simp [hP], s⟩
theorem comp_filt {J : It} {n : Nat} {H1 : Hp} {g : TG} {tt : TT} {te : TE} {σ0 : St} {Q : VK} (P : Nat → Bool) (vals : Nat → V) (hn : n < sizeLine) (hgo : ∀ i H, Same H1 H → i < n → J.go i H) (hstop : ∀ H, Same H1 H → J.stop n H)
    (hb : ∀ i x H H', i < n → Same H1 H → J.yld i H x H' → g x σ0 H' fun σ2 H2 => tt σ2 H2 fun b H3 => if b = true then te σ2 H3 fun v H4 => ∃ m', m' < n - i ∧ CF n P vals H1 (i + 1) m' (((List.range i).filter P).map vals ++ [v]) H4 else ∃ m', m' < n - i ∧ CF n P vals H1 (i + 1) m' (((List.range i).filter P).map vals) H3)
    (hk : ∀ l H', Same H1 H' → H' l = none → Q (.ref l) (upd H' l (.lst (((List.range n).filter P).map vals)))) :
    CompR J g tt te σ0 Q H1 := by
  refine ⟨CF n P vals H1, ⟨n, rfl, Nat.zero_le _, rfl, Same.refl _⟩, ?_⟩
  rintro i m acc H ⟨rfl, hi, rfl, s⟩
  have hlen : (((List.range i).filter P).map vals).length ≤ n := by
    rw [List.length_map]
    have := List.length_filter_le P (List.range i)
    rw [List.length_range] at this
    omega
  by_cases h : i < n
  · exact .inr ⟨hgo i H s h, by omega, fun x H' y => hb i x H H' h s y⟩
  · have : i = n := by omega
    subst this
    exact .inl ⟨hstop H s, by omega, fun p hp => hk p H s hp⟩

def CRv (rs : Nat → List Int) (H1 : Hp) (i : Nat) (acc : List V) (H : Hp) : Prop := Same H1 H ∧ ∃ as : List Addr, acc = as.map V.ref ∧ as.length = i ∧ ∀ (k : Nat) (a : Addr), as[k]? = some a → H a = some (.lst ((rs k).map V.int))
theorem CRv.take {rs : Nat → List Int} {H1 H H' : Hp} {i : Nat} {acc : List V} {a : Addr} (h : CRv rs H1 i acc H) (s : Same H H') (ha : H' a = some (.lst ((rs i).map V.int))) : CRv rs H1 (i + 1) (acc ++ [.ref a]) H' := by
  obtain ⟨s1, as, rfl, hl, h1⟩ := h
  refine ⟨s1.trans s, as ++ [a], by simp, by simp [hl], fun k b hk => ?_⟩
  by_cases z : k < as.length
  · rw [List.getElem?_append_left z] at hk
    exact s _ _ (h1 k b hk)
  · have hk2 := (List.getElem?_eq_some_iff.mp hk).1
    rw [List.length_append] at hk2
    have : k = as.length := by simp at hk2; omega
    subst this
    rw [List.getElem?_append_right (Nat.le_refl _)] at hk
    simp at hk
    rw [← hk, hl]; exact ha
theorem CRv.rows {rs : Nat → List Int} {H1 H : Hp} {n : Nat} {acc : List V} {l : Addr} (h : CRv rs H1 n acc H) (hl : H l = none) : Rows (upd H l (.lst acc)) l ((List.range n).map rs) := by
  obtain ⟨s1, as, rfl, hn, h1⟩ := h
  have hne : ∀ a ∈ as, a ≠ l := fun a ha => by
    obtain ⟨k, hk⟩ := List.getElem?_of_mem ha
    exact ne_of_none (h1 k a hk) hl
  refine ⟨as, upd_same, fun z => hne l z rfl, by simp [hn], fun i k1 k2 => ?_⟩
  rw [upd_ne (hne _ (List.getElem_mem k1)), h1 i as[i] (List.getElem?_eq_getElem k1)]
  simp

theorem IsLow.over {f : Nat → Int} {a b lo p : Nat} (h : IsLow f a b lo) (h1 : a ≤ p) (h2 : p ≤ b) (hne : p ≠ lo) : Over f lo p := by
  obtain ⟨l1, l2, l3, l4⟩ := h
  rcases Nat.lt_or_gt_of_ne hne with z | z
  · exact .inr ⟨z, fun r r1 r2 => l3 r (by omega) r2⟩
  · exact .inl ⟨z, fun r r1 r2 => l4 r r1 (by omega)⟩
theorem IsLow.top {f : Nat → Int} {a b lo o : Nat} (h : IsLow f a b lo) (h1 : a ≤ o) (h2 : o ≤ b) : ¬ Over f o lo := by
  obtain ⟨l1, l2, l3, l4⟩ := h
  rintro (⟨z, k⟩ | ⟨z, k⟩)
  · have := k lo z (Nat.le_refl _); have := l3 o h1 z; omega
  · have := k lo (Nat.le_refl _) z; have := l4 o z h2; omega
theorem tree_row {ns T : List Int} {g : Nat → Int} (hT : TreeIs ns T) (hg : ∀ q p, q < ns.length → p < ns.length → Over (nth ns) q p → (q < p → g q ≤ g p) ∧ (p < q → g q < g p)) : ∀ p, p < ns.length → ElderIs g ns.length p (T.getD p 0) := by
  intro p hp
  have pv : ∀ q, IsPrev (nth ns) p q → IsPrev g p q := fun q h => by
    refine ⟨h.1, (hg q p (by have := h.1; omega) hp (.inl ⟨h.1, fun r r1 r2 => ?_⟩)).1 h.1, fun r r1 r2 => (hg p r hp (by omega) (.inr ⟨r2, fun s s1 s2 => h.2.2 s (by omega) s2⟩)).2 r2⟩
    by_cases z : r = p
    · rw [z]; exact h.2.1
    · have := h.2.2 r r1 (by omega); have := h.2.1; omega
  have nx : ∀ r, IsNext (nth ns) ns.length p r → IsNext g ns.length p r := fun q h => by
    refine ⟨h.1, h.2.1, (hg q p h.2.1 hp (.inr ⟨h.1, fun r r1 r2 => ?_⟩)).2 h.1, fun s s1 s2 => (hg p s hp (by have := h.2.1; omega) (.inl ⟨s1, fun r r1 r2 => h.2.2.2 r r1 (by omega)⟩)).1 s1⟩
    by_cases z : r = p
    · rw [z]; exact h.2.2.1
    · have := h.2.2.2 r (by omega) r2; have := h.2.2.1; omega
  have np : NoPrev (nth ns) p → NoPrev g p := fun h q hq => (hg p q hp (by omega) (.inr ⟨hq, fun r r1 r2 => h r r2⟩)).2 hq
  have nn : NoNext (nth ns) ns.length p → NoNext g ns.length p := fun h r r1 r2 => (hg p r hp r2 (.inl ⟨r1, fun s s1 s2 => h s s1 (by omega)⟩)).1 r1
  have hE : ElderIs (nth ns) ns.length p (T.getD p 0) := hT.2 p hp
  rcases hE with ⟨h1, h2, h⟩ | ⟨q, h1, h2, h⟩ | ⟨r, h1, h2, h⟩ | ⟨q, r, h1, h2, h⟩
  · exact .inl ⟨np h1, nn h2, h⟩
  · exact .inr (.inl ⟨q, pv q h1, nn h2, h⟩)
  · exact .inr (.inr (.inl ⟨r, np h1, nx r h2, h⟩))
  · refine .inr (.inr (.inr ⟨q, r, pv q h1, nx r h2, ?_⟩))
    rw [h]
    have hq : q < ns.length := by have := h1.1; omega
    have hqr : q < r := by have := h1.1; have := h2.1; omega
    by_cases z : nth ns q ≤ nth ns r
    · have := (hg q r hq h2.2.1 (.inl ⟨hqr, fun s s1 s2 => by
        by_cases y : s = r
        · rw [y]; exact z
        · by_cases y2 : s = p
          · rw [y2]; exact h1.2.1
          · have := h1.2.1
            by_cases y3 : s < p
            · have := h1.2.2 s s1 y3; omega
            · have := h2.2.2.2 s (by omega) (by omega); omega⟩)).1 hqr
      rw [if_pos z, if_pos (by omega)]
    · have := (hg r q h2.2.1 hq (.inr ⟨hqr, fun s s1 s2 => by
        have := h1.2.1; have := h2.2.2.1
        by_cases y : s = q
        · rw [y]; omega
        · by_cases y2 : s = p
          · rw [y2]; omega
          · by_cases y3 : s < p
            · have := h1.2.2 s (by omega) y3; omega
            · have := h2.2.2.2 s (by omega) (by omega); omega⟩)).2 hqr
      rw [if_neg z, if_neg (by omega)]

theorem way_mem {ns T : List Int} (hT : TreeIs ns T) {p o : Nat} (hp : p < ns.length) : (o : Int) ∈ wayI T p ↔ o < ns.length ∧ Over (nth ns) o p := by
  rw [← (way_tree hT T.length p hp (by rw [hT.1]; exact Nat.le_of_lt (dep_lt hp))).1 o]
  unfold wayI
  rw [List.mem_map]
  refine ⟨fun ⟨q, hq, e⟩ => ?_, fun h => ⟨o, h, rfl⟩⟩
  have : q = o := by omega
  rw [← this]; exact hq
theorem atI_m1 {xs : List V} {v : V} (h : 0 < xs.length) (hv : xs[xs.length - 1]? = some v) : atI xs (-1) = some v := by
  have e : ixN xs.length (-1) = some (xs.length - 1) := by
    unfold ixN
    rw [if_neg (by omega), if_pos (by omega)]
    congr 1
    omega
  unfold atI
  rw [e]
  exact hv
end L2


set_option Elab.async false
set_option linter.all false
set_option maxRecDepth 100000
set_option maxHeartbeats 1000000
namespace HT
open PySem PyProof.Rows
section
open PySem.SeqAt
open PySem.AutoSeq1 (wpAny_loadPart')
open PySem.MeetsSeq PySem.MeetsSeq2 PySem.MeetsSeq3
variable {prog : Program} {w : World} {A : Around} {E : Value → Shared → Prop} {s : Shared}
theorem getItem_tuple_all {t sl : Addr} {items : Array Value} {vl vu : Value} {lo hi : Option Int} {Q : Value → Shared → Prop} (ht : IsTup s.heap t items) (hs : s.heap.IsSliceOf sl vl vu .none) (pl : IsPart vl lo) (pu : IsPart vu hi)
    (hw : sIx items.size 0 lo = 0 ∧ sIx items.size items.size hi = items.size) (h : Q (.ref t) s) : wpAny (model prog w) A (getItem (.ref t) (.ref sl)) Q E s := by
  obtain ⟨os, hos, hcs, hds⟩ := id hs
  have hTs : s.TypeIs (.ref sl) "slice" := ⟨os, hos, hcs⟩
  unfold getItem
  try with_reducible refine wpAny_holding ?_
  first | refine wpAny_bind (wpAny_pure ?_) | skip
  refine wpAny_bind (wpAny_sequenceKey ht.typeIs (by decide) ?_)
  refine wpAny_bind (wpAny_callSpecial?_slot (name := Str.ofString "__getitem__") ht.typeIs PyProof.Rows.slot_tuple_getitem
    (wpAny_call_entry PyProof.Rows.slot_tuple_getitem ht.typeIs entry_tuple_getitem ?_ (args_tuple_getitem _ _)))
  show wpAny _ _ (Builtin.Tuple.tupleItemsOf (.ref t) >>= _) _ _ s
  refine wpAny_bind (tupleItemsOf_ ht ?_)
  refine wpAny_bind (wpAny_typeOf hTs ?_)
  rw [if_pos (by decide)]
  refine wpAny_bind (sliceApplied_gen hs pl pu ?_)
  have hyes : (((sIx items.size 0 lo : Nat) : Int) == 0 && (1 : Int) == 1 && (sIx items.size items.size hi - sIx items.size 0 lo) == items.size) = true := by
    rw [hw.1, hw.2]; simp
  show wpAny _ _ (if (((sIx items.size 0 lo : Nat) : Int) == 0 && (1 : Int) == 1 && (sIx items.size items.size hi - sIx items.size 0 lo) == items.size) = true then _ else _) _ _ s
  rw [if_pos hyes]
  refine wpAny_bind ?_
  unfold Builtin.Tuple.tupleIsExact
  refine wpAny_bind (wpAny_typeOf ht.typeIs (wpAny_pure ?_))
  rw [if_pos (by decide)]
  refine wpAny_bind (wpAny_rule ?_)
  first
    | exact wpAny_pure ⟨_, rfl, wpAny_pure h⟩
    | exact wpAny_bind (wpAny_pure (wpAny_pure ⟨_, rfl, wpAny_pure h⟩))
    | exact wpAny_bind (wpAny_pure ⟨_, rfl, wpAny_pure h⟩)
end
end HT
namespace L2
open PySem PySem.Spec PyProof.Rows PySem.W
section
variable {X : Cx}

def rSlQ (K : Frag) : V → Option Int → Option Int → Hp → VK → Prop := fun x lo hi H Q => ∃ a xs, x = .ref a ∧ ((SqL K H a xs ∧ ∀ p, H p = none → Q (.ref p) (upd H p (.lst (cutV xs lo hi)))) ∨
  (SqT K H a xs ∧ (HT.sIx xs.length 0 lo = 0 ∧ HT.sIx xs.length xs.length hi = xs.length → Q (.ref a) H) ∧ (¬ (HT.sIx xs.length 0 lo = 0 ∧ HT.sIx xs.length xs.length hi = xs.length) → ∀ p, H p = none → Q (.ref p) (upd H p (.tup (cutV xs lo hi))))))
theorem sl_q {K : Frag} (hK : X.K = K) : SlR X (rSlQ K) := by
  subst hK
  intro pins s σ H x v vl vu lo hi sl Q I rx hs pl pu h
  obtain ⟨a, xs, rfl, h | ⟨hx, h1, h2⟩⟩ := h
  · exact sl_list pins s σ H _ v vl vu lo hi sl Q I rx hs pl pu ⟨a, xs, rfl, h⟩
  · by_cases hw : HT.sIx xs.length 0 lo = 0 ∧ HT.sIx xs.length xs.length hi = xs.length
    · cases rx
      obtain ⟨its, r, ht, hz⟩ := I.tuple hx
      have hlen : its.toArray.size = xs.length := by rw [List.size_toArray]; exact r.length.symm
      refine ⟨"tuple", _, PyProof.Rows.slot_tuple_getitem.lookup, ht.typeIs, ?_⟩
      exact HT.getItem_tuple_all ht hs pl pu (by rw [hlen]; exact hw) ⟨.ref a, H, I, rfl, h1 hw⟩
    · exact sl_tup pins s σ H _ v vl vu lo hi sl Q I rx hs pl pu ⟨a, xs, rfl, hx, hw, h2 hw⟩
end
section
variable {X : Cx} {tg l : Expr} {tl : TE}
theorem pi_listK {K : Frag} (hK : X.K = K) (hl : PE X l tl) : PI X tg l (iList K tl) := hK ▸ pi_list hl
end
end L2


set_option Elab.async false
set_option linter.all false
set_option maxRecDepth 100000
set_option maxHeartbeats 1000000
namespace L2
open PySem PySem.Spec PyProof.Rows PySem.W

def way (T : List Int) (p : Nat) : List Nat := wayF T T.length (nth T p)
theorem wayI_way (T : List Int) (p : Nat) : wayI T p = (way T p).map fun q => ((q : Nat) : Int) := rfl

theorem way_over {ns T : List Int} (hT : TreeIs ns T) {p o : Nat} (hp : p < ns.length) : o ∈ way T p ↔ o < ns.length ∧ Over (nth ns) o p := by
  unfold way
  rw [hT.1]
  exact (way_tree hT ns.length p hp (Nat.le_of_lt (dep_lt hp))).1 o
end L2


set_option Elab.async false
set_option linter.all false
set_option maxRecDepth 100000
set_option maxHeartbeats 1000000
namespace L2
open PySem PySem.Spec PyProof.Rows PySem.W


section
variable {X : Cx} {pins : List (Addr × Obj)} {σ : St} {H : Hp} {s : Shared} {h' : Heap}

theorem Inv.turnedN {t' : Nat} {fp : List Addr} {T : Addr} {o : HO} (I : Inv X pins σ H s) (k : ∀ b u, b ∉ fp → s.heap.get? b = some u → h'.get? b = some u) (hf : ∀ b ∈ fp, FpOk X pins H b) (hT : s.heap.objs.size ≤ T) (new : ObjOk X.prog X.w (upd H T o) h' T o) :
    Inv X pins σ (upd H T o) { s with heap := h', toks := t' } := by
  have nit : ∀ b u, H b = some u → b ∉ fp := fun b u e z => by rw [(hf b z).1] at e; cases e
  have hfr : H T = none := I.hok.fresh hT
  have neT : ∀ b u, s.heap.get? b = some u → b ≠ T := fun b u e z => absurd (Heap.lt_size e) (by rw [z]; exact Nat.not_lt_of_le hT)
  have neH : ∀ b u, H b = some u → b ≠ T := fun b u e z => by rw [z, hfr] at e; cases e
  refine I.step (g' := s.gens) (d' := s.drawn) (ch := fp) (fun b hb => ?_) (fun b o _ _ hc e _ => k b o hc e) (fun b o _ _ hc e _ => ⟨o.slots, k b o hc e⟩) (fun b u _ e n => by rw [upd_ne (neT b u e)]; exact n)
    (fun b o hc e => ⟨o, k b o hc e⟩) (fun b xs e => by rw [upd_ne (neH b _ e)]; exact e) (fun b o u e => by rw [upd_ne (neH b _ e)]; exact e) (fun b ps e => ⟨#[], by rw [upd_ne (neH b _ e), e]; simp⟩) (fun m hm => ?_) (fun b u e => ?_) I.bare
  · obtain ⟨_, f1, _, f3, f4, f5⟩ := hf b hb
    exact ⟨f3, f1, f4, f5⟩
  · obtain ⟨o, es, ep, ho, r⟩ := hm
    exact ⟨o, es, ep, k _ o (fun z => (hf _ z).2.1 rfl) ho, r⟩
  · by_cases z : b = T
    · subst z
      rw [upd_same] at e; cases e
      exact new
    · rw [upd_ne z] at e
      refine (I.hok b u e).stay (fun c v hc q => k c v ?_ q) (fun c q => ?_) fun c xs q => ?_
      · rcases hc with y | y
        · rw [y]; exact nit b u e
        · exact nit c _ y
      · rw [upd_ne (neH _ _ q)]; exact q
      · rw [upd_ne (neH _ _ q)]; exact q

def Ite (K : Frag) (a : Addr) : It :=
  ⟨fun i H => ∃ xs x, SqL K H a xs ∧ xs[i]? = some x,
   fun i H v H' => ∃ p x, H p = none ∧ v = .ref p ∧ H' = upd H p (.tup [.int (i : Int), x]) ∧ ∀ xs, SqL K H a xs → xs[i]? = some x,
   fun i H => ∃ xs, SqL K H a xs ∧ xs.length = i⟩
theorem turn_enum {P : Program} {w : World} {K : Frag} {elts : List Expr} {x1} {pos : Pos} {a e it : Addr} (h1 : e ≠ it) (h2 : a ≠ e) (h3 : a ≠ it) :
    Turn P w K (.Tuple elts x1 pos) (Ite K a) [e, it] e (fun i h => (∃ old, IsEnum h e it (i : Int) old) ∧ h.IsListIter it a i) where
  mem := by simp
  obj := fun i h st c hc => by
    obtain ⟨⟨old, q1⟩, ⟨o4, q4, _, d4⟩⟩ := st
    simp at hc
    rcases hc with rfl | rfl
    · exact ⟨_, q1, fun v z => by cases z⟩
    · exact ⟨_, q4, fun v z => by rw [d4] at z; cases z⟩
  keep := fun i h h' st k => by
    obtain ⟨⟨old, q1⟩, q4⟩ := st
    exact ⟨⟨old, k e (by simp) _ q1⟩, q4.at fun o z => k it (by simp) o z⟩
  item := by
    intro X hP hw hK hc i pins s σ H E I hf st hg
    subst hP hw hK
    obtain ⟨xs, x, qa, hx⟩ := hg
    obtain ⟨is1, r1, p1, hz1⟩ := I.list qa
    obtain ⟨u, hu, ru⟩ := r1.get hx
    have W := WalksT.enumerate (prog := X.prog) (w := X.w) (I.ok.hd hc) e it a h1 h2 h3 is1.toArray
    have hi : i < is1.toArray.size := by
      have := (List.getElem?_eq_some_iff.mp hu).1
      simpa using this
    refine W.item i s _ E hi ⟨st.1, st.2, p1.isList⟩ fun T vals h' tk Pt hT hTup Mid keep => ⟨_, rfl, W.go elts x1 pos i T _ _ E Mid fun h2' St2 keep2 => ?_⟩
    obtain ⟨t, y, hy, rfl⟩ := Pt
    have hyu : y = u := by
      have : is1[i]? = some y := by simpa using hy
      rw [hu] at this; exact (Option.some.inj this).symm
    subst hyu
    have nT := W.apart i T h' Mid
    have hfr : H T = none := I.hok.fresh hT
    have kk : ∀ b o, b ∉ [e, it] → s.heap.get? b = some o → h2'.get? b = some o := fun b o hb q => keep2 b o hb (keep b o hb q)
    have nTe : ∀ c ∈ [e, it], c ≠ T := fun c hc z => nT (z ▸ hc)
    refine ⟨.ref T, _, Inv.turnedN (s := s) (t' := tk) (o := .tup [.int (i : Int), x]) I kk hf hT ?_, rfl, ⟨T, x, hfr, rfl, rfl, fun xs' q' => ?_⟩, ⟨?_, St2.2.1⟩, fun c hc => ?_⟩
    · obtain ⟨oT, q1, q2, n, q3⟩ := hTup
      exact ⟨by show 2 ≤ sizeLine; decide, [.int (i : Int) t, y], .cons ⟨t, rfl⟩ (.cons ru .nil), ⟨oT, keep2 T oT nT q1, q2, n, q3⟩⟩
    · rw [I.list_inj q' qa]; exact hx
    · obtain ⟨old, q⟩ := St2.1
      exact ⟨old, by rw [show (((i + 1 : Nat)) : Int) = (i : Int) + 1 by omega] at *; exact q⟩
    · rw [upd_ne (nTe c hc)]; exact (hf c hc).1
  done := by
    intro X hP hw hK hc i pins s σ H E I hf st hg
    subst hP hw hK
    obtain ⟨xs, qa, hx⟩ := hg
    obtain ⟨is1, r1, p1, _⟩ := I.list qa
    have W := WalksT.enumerate (prog := X.prog) (w := X.w) (I.ok.hd hc) e it a h1 h2 h3 is1.toArray
    have hi : i = is1.toArray.size := by
      have := r1.length
      simp; omega
    refine W.done s _ E ?_ fun h' tk keep => ⟨rfl, I.turnedL (t' := tk) (fp := [e, it]) (fun c o hc q => keep c o hc q) hf⟩
    rw [← hi]
    exact ⟨st.1, st.2, p1.isList⟩
  self := fun A i s Q E st h => by
    obtain ⟨⟨old, q⟩, _⟩ := st
    exact wpAny_pyIter_enum q h
def iEnum (K : Frag) (ta : TA) : TI := fun σ H R => ta σ H fun vs H1 => ∃ a xs, vs = [.ref a] ∧ SqL K H1 a xs ∧ R (Ite K a) H1
theorem boot_enum' : bootBuiltins "enumerate" = some (.type "enumerate") := by decide +kernel
theorem pi_enum {K : Frag} {elts : List Expr} {x1} {tp : Pos} {e1 : Expr} {ta : TA} {p pos : Pos} (hK : X.K = K) (hg : Gl X "enumerate") (hm : X.mg "enumerate" = none) (ha : PA X [e1] ta) (hs : starEach [e1] X.env = [(false, eval e1 X.env)] := by rfl) :
    PI X (.Tuple elts x1 tp) (.Call (.Name "enumerate" p) [e1] [] pos) (iEnum K ta) := by
  subst hK
  intro pins s σ H R I h
  refine wpAny_Call_Name_kw (ld_blt I hg hm boot_enum' ?_)
  refine PyProof.Rows.callWith_type1 (thn (ha pos pins s σ H _ I h) fun us s1 ⟨vs, H1, I1, r1, a, xs, e1, qa, q⟩ => ?_) hs rfl
  subst e1
  obtain ⟨u, rfl, ru⟩ := r1.one
  cases (show u = Value.ref a from ru)
  obtain ⟨is1, rr1, p1, _⟩ := I1.list qa
  refine call_enumerate_list p1.isList fun h' c1 c2 c3 c4 => ?_
  have l1 : a < s1.heap.objs.size := by obtain ⟨o, e, _⟩ := p1.isList; exact Heap.lt_size e
  have sm : ∀ b, s1.heap.objs.size ≤ b → FpOk X pins H1 b := fun b hb => I1.fpOk hb (I1.hok.fresh hb)
  have n1 : s1.heap.objs.size + 1 ≠ s1.heap.objs.size := by show ¬ ((_ : Nat) = _); omega
  have n2 : a ≠ s1.heap.objs.size + 1 := Nat.ne_of_lt (Nat.lt_succ_of_lt l1)
  have n3 : a ≠ s1.heap.objs.size := Nat.ne_of_lt l1
  have T := turn_enum (P := X.prog) (w := X.w) (K := X.K) (elts := elts) (x1 := x1) (pos := tp) n1 n2 n3
  refine T.self _ 0 _ _ _ ⟨⟨_, c1⟩, c2⟩ ?_
  refine ⟨_, [s1.heap.objs.size + 1, s1.heap.objs.size], _, _, H1, rfl, I1.kept (t' := s1.toks) c4, T, ⟨⟨_, c1⟩, c2⟩, fun c hc => ?_, q⟩
  simp at hc
  rcases hc with rfl | rfl <;> exact sm _ (by omega)
end
end L2


set_option Elab.async false
set_option linter.all false
set_option maxRecDepth 100000
set_option maxHeartbeats 1000000
namespace L2
open PySem PySem.Spec PyProof.Rows PySem.W

theorem max_loopD {prog : Program} {w : World} {A : Around} {R : Result → Shared → Prop} {I : Addr} {fp wr : List Addr} {n : Nat} {P : Nat → Value → Prop} {St : Nat → Heap → Prop} (W : Walks prog w A.in1 I fp wr n P St) (bt : Nat → Nat → Bool) (hc : CmpOf prog w A.in1 .Gt P bt)
    (S : Addr) (hS : S ∉ fp) (dk : Str) (d : Value) (h0 : Heap) (s0 : Shared)
    (hR0 : n = 0 → ∀ h' tk, (∀ b o, b ∉ wr → b ≠ S → h0.get? b = some o → h'.get? b = some o) → R (.ok (.ret d)) { s0 with heap := h', toks := tk })
    (hR : 0 < n → ∀ v h' tk, P (argBest bt (n - 1)) v → (∀ b o, b ∉ wr → b ≠ S → h0.get? b = some o → h'.get? b = some o) → R (.ok (.ret v)) { s0 with heap := h', toks := tk }) :
    ∀ (k j : Nat) (h : Heap) (tk : Nat), n - j = k → j ≤ n → St j h → (∀ b o, b ∉ wr → b ≠ S → h0.get? b = some o → h.get? b = some o) →
      ((j = 0 ∧ ∃ c, h.get? S = some { cls := .type "list", data := .seq #[] c }) ∨ (0 < j ∧ ∃ vb c, P (argBest bt (j - 1)) vb ∧ h.get? S = some { cls := .type "list", data := .seq #[vb, vb] c })) →
      codeAny (model prog w) A (.builtin "max.loop" { pos := [.ref I, .none, .ref S], kw := [(dk, d)] }) R { s0 with heap := h, toks := tk } := by
  intro k
  induction k with
  | zero =>
    intro j h tk hk hj hst keep hb
    refine codeAny_builtin F.entry_max_loop ?_
    have hjn : j = n := by omega
    subst hjn
    rcases hb with ⟨hj0, c, hb⟩ | ⟨hj0, vb, c, hvb, hb⟩
    · show wpAny _ _ (_ >>= _) _ _ _
      refine wpAny_bind (wpAny_seqItems hb rfl ?_)
      refine wpAny_bind (wpAny_tryCatch (W.done _ _ _ hst fun h' tk' kp => ?_))
      refine wpAny_bind (wpAny_rule (wpAny_pure ?_))
      exact hR0 hj0 h' tk' fun b o hb1 hb2 e => kp b o hb1 (keep b o hb1 hb2 e)
    · show wpAny _ _ (_ >>= _) _ _ _
      refine wpAny_bind (wpAny_seqItems hb rfl ?_)
      refine wpAny_bind (wpAny_tryCatch (W.done _ _ _ hst fun h' tk' kp => ?_))
      have hS' : S ∉ wr := fun z => hS (W.sub S z)
      have hb' := kp S _ hS' hb
      refine wpAny_bind (wpAny_updateSeq hb' rfl ?_ (show 2 ≤ sizeLine by decide) (Nat.zero_le _))
      refine wpAny_bind (wpAny_letGo (wpAny_pure ?_))
      refine hR hj0 vb _ tk' hvb fun b o hb1 hb2 e => ?_
      exact (Heap.get?_update_other _ _ (Ne.symm hb2)).trans (kp b o hb1 (keep b o hb1 hb2 e))
  | succ k ih =>
    intro j h tk hk hj hst keep hb
    refine codeAny_builtin F.entry_max_loop ?_
    have hjn : j < n := by omega
    have hS' : S ∉ wr := fun z => hS (W.sub S z)
    rcases hb with ⟨hj0, c, hb⟩ | ⟨hj0, vb, c, hvb, hb⟩
    · show wpAny _ _ (_ >>= _) _ _ _
      refine wpAny_bind (wpAny_seqItems hb rfl ?_)
      refine wpAny_bind (wpAny_tryCatch (W.item j _ _ _ hjn hst fun v h' tk' hv hst' kp => ?_))
      have hb' := kp S _ hS' hb
      refine wpAny_bind (wpAny_pure ?_)
      refine wpAny_bind (wpAny_updateSeq hb' rfl ?_ (Nat.zero_le _) (show 2 ≤ sizeLine + 1 by decide))
      refine wpAny_pure ⟨rfl, ?_⟩
      have e9 := PySem.IsL.update hb' (fun _ => #[v, v])
      refine ih (j + 1) _ tk' (by omega) (by omega) (W.frame _ _ _ hst' fun b hb1 o e => ?_) (fun b o hb1 hb2 e => ?_) (.inr ⟨by omega, v, _, ?_, e9⟩)
      · exact (Heap.get?_update_other _ _ (show S ≠ b from fun z => hS (by rw [z]; exact hb1))).trans e
      · exact (Heap.get?_update_other _ _ (Ne.symm hb2)).trans (kp b o hb1 (keep b o hb1 hb2 e))
      · rw [hj0]; rw [hj0] at hv; exact hv
    · show wpAny _ _ (_ >>= _) _ _ _
      refine wpAny_bind (wpAny_seqItems hb rfl ?_)
      refine wpAny_bind (wpAny_tryCatch (W.item j _ _ _ hjn hst fun v h' tk' hv hst' kp => ?_))
      have hb' := kp S _ hS' hb
      obtain ⟨j', rfl⟩ : ∃ j', j = j' + 1 := ⟨j - 1, by omega⟩
      have hvb' : P (argBest bt j') vb := hvb
      have eA : argBest bt (j' + 1) = if bt (j' + 1) (argBest bt j') = true then j' + 1 else argBest bt j' := rfl
      refine wpAny_bind (wpAny_pure ?_)
      refine wpAny_bind (wpAny_tryCatch (wpAny_holding (wpAny_bind (hc (j' + 1) (argBest bt j') v vb _ _ _ hv hvb' (wpAny_bind (wpAny_holding (wpAny_truthy_bool (wpAny_bind (wpAny_letGo (wpAny_pure ?_))))))))))
      by_cases z : bt (j' + 1) (argBest bt j') = true
      · rw [if_pos z]
        refine wpAny_bind (wpAny_updateSeq hb' rfl ?_ (show 2 ≤ sizeLine by decide) (show 2 ≤ sizeLine + 1 by decide))
        refine wpAny_bind (wpAny_letGo (wpAny_pure ⟨rfl, ?_⟩))
        have e9 := PySem.IsL.update hb' (fun _ => #[v, v])
        refine ih (j' + 1 + 1) _ tk' (by omega) (by omega) (W.frame _ _ _ hst' fun b hb1 o e => ?_) (fun b o hb1 hb2 e => ?_) (.inr ⟨by omega, v, _, ?_, e9⟩)
        · exact (Heap.get?_update_other _ _ (show S ≠ b from fun z => hS (by rw [z]; exact hb1))).trans e
        · exact (Heap.get?_update_other _ _ (Ne.symm hb2)).trans (kp b o hb1 (keep b o hb1 hb2 e))
        · show P (argBest bt (j' + 1)) v
          rw [eA, if_pos z]; exact hv
      · rw [if_neg z]
        refine wpAny_bind (wpAny_letGo (wpAny_pure ⟨rfl, ?_⟩))
        refine ih (j' + 1 + 1) _ tk' (by omega) (by omega) hst' (fun b o hb1 hb2 e => kp b o hb1 (keep b o hb1 hb2 e)) (.inr ⟨by omega, vb, _, ?_, hb'⟩)
        show P (argBest bt (j' + 1)) vb
        rw [eA, if_neg z]; exact hvb'
theorem args_maxD (a d : Value) : argsOk "max" { pos := [a], kw := [("default", d)] } := by first | rfl | decide
theorem call_maxD {prog : Program} {w : World} {A : Around} {E Q : Value → Shared → Prop} {s : Shared} {l : Addr} {xs : Array (Int × Tok)} {d : Value} (hA : A.handled = none) (hl : s.heap.IsList l (intItems xs))
    (q0 : xs.size = 0 → ∀ h' tk, (∀ b o, s.heap.get? b = some o → h'.get? b = some o) → Q d { s with heap := h', toks := tk })
    (q1 : 0 < xs.size → ∀ v h' tk, (intItems xs)[argBest (fun i j => decide (numAt xs i > numAt xs j)) (xs.size - 1)]? = some v → (∀ b o, s.heap.get? b = some o → h'.get? b = some o) → Q v { s with heap := h', toks := tk }) :
    wpAny (model prog w) A (call (.builtin "max") [.ref l] [("default", d)]) Q E s := by
  refine wpAny_call (codeAny_call_builtin_code rfl ?_)
  have hck : checkBuiltinCall "max" { pos := [.ref l], kw := [("default", d)] } = pure () := by
    unfold checkBuiltinCall
    rw [F.kind_max]
    exact args_maxD (.ref l) d
  rw [hck]
  refine wpAny_pure (codeAny_builtin F.entry_max ?_)
  show wpAny _ _ (_ >>= _) _ _ _
  have hbp : Builtin.Builtins.bindParams "max" ["key", "default"] 0 { kw := [("default", d)] } = pure [none, some d] := by
    first | rfl | with_unfolding_all rfl | (simp [Builtin.Builtins.bindParams]; done)
  refine wpAny_bind (wpAny_of_eq hbp (wpAny_bind (wpAny_pure (wpAny_bind (wpAny_pyIter_list hl ?_)))))
  refine wpAny_bind (wpAny_newObj_type ?_)
  refine wpAny_pure ⟨rfl, ?_⟩
  have hlt : l < s.heap.objs.size := by obtain ⟨o, e, _⟩ := hl; exact Heap.lt_size e
  have n1 : l ≠ s.heap.objs.size := Nat.ne_of_lt hlt
  have esz : (s.heap.push { cls := .type "list_iterator", data := .fields #[.ref l, .int 0 0] }).objs.size = s.heap.objs.size + 1 := Heap.size_push _ _
  have old : ∀ b o, s.heap.get? b = some o → ((s.heap.push { cls := .type "list_iterator", data := .fields #[.ref l, .int 0 0] }).push { cls := .type "list", data := .seq #[] }).get? b = some o := fun b o e => Heap.get?_push_of_some _ (Heap.get?_push_of_some _ e)
  have ne : ∀ b o, s.heap.get? b = some o → b ∉ [s.heap.objs.size] ∧ b ≠ (s.heap.push { cls := .type "list_iterator", data := .fields #[.ref l, .int 0 0] }).objs.size := fun b o e => by
    have := Heap.lt_size e
    refine ⟨fun z => ?_, fun z => ?_⟩
    · have : b = s.heap.objs.size := by simpa using z
      exact absurd (Heap.lt_size e) (by rw [this]; exact Nat.lt_irrefl _)
    · rw [z, esz] at this
      exact absurd this (Nat.not_lt_of_le (Nat.le_succ _))
  have W := Walks.list (prog := prog) (w := w) (A := A.in1) hA s.heap.objs.size l n1 (intItems xs)
  have hitm : (intItems xs).size = xs.size := by simp [intItems]
  refine max_loopD W (fun i j => decide (numAt xs i > numAt xs j)) (CmpOf.ints_gt (numAt xs) fun i v h => intItems_at h) _ ?_ "default" d _ s (fun z h' tk kp => ?_) (fun z v h' tk hv kp => ?_) (intItems xs).size 0 _ _ rfl (Nat.zero_le _) ⟨?_, ?_⟩ (fun b o _ _ e => e) (.inl ⟨rfl, _, Heap.get?_push_size _ rfl⟩)
  · rw [esz]
    simp only [List.mem_cons, List.not_mem_nil, or_false, not_or]
    exact ⟨Nat.ne_of_gt (Nat.lt_succ_self _), Nat.ne_of_gt (Nat.lt_succ_of_lt hlt)⟩
  · exact q0 (by omega) h' tk fun b o e => kp b o (ne b o e).1 (ne b o e).2 (old b o e)
  · exact q1 (by omega) v h' tk (by rw [← hitm]; exact hv) fun b o e => kp b o (ne b o e).1 (ne b o e).2 (old b o e)
  · exact ⟨_, Heap.get?_push_of_some _ (Heap.get?_push_size _ rfl), rfl, rfl⟩
  · obtain ⟨o, e, r⟩ := hl
    exact ⟨o, old _ _ e, r⟩
theorem min_loopD {prog : Program} {w : World} {A : Around} {R : Result → Shared → Prop} {I : Addr} {fp wr : List Addr} {n : Nat} {P : Nat → Value → Prop} {St : Nat → Heap → Prop} (W : Walks prog w A.in1 I fp wr n P St) (bt : Nat → Nat → Bool) (hc : CmpOf prog w A.in1 .Lt P bt)
    (S : Addr) (hS : S ∉ fp) (dk : Str) (d : Value) (h0 : Heap) (s0 : Shared)
    (hR0 : n = 0 → ∀ h' tk, (∀ b o, b ∉ wr → b ≠ S → h0.get? b = some o → h'.get? b = some o) → R (.ok (.ret d)) { s0 with heap := h', toks := tk })
    (hR : 0 < n → ∀ v h' tk, P (argBest bt (n - 1)) v → (∀ b o, b ∉ wr → b ≠ S → h0.get? b = some o → h'.get? b = some o) → R (.ok (.ret v)) { s0 with heap := h', toks := tk }) :
    ∀ (k j : Nat) (h : Heap) (tk : Nat), n - j = k → j ≤ n → St j h → (∀ b o, b ∉ wr → b ≠ S → h0.get? b = some o → h.get? b = some o) →
      ((j = 0 ∧ ∃ c, h.get? S = some { cls := .type "list", data := .seq #[] c }) ∨ (0 < j ∧ ∃ vb c, P (argBest bt (j - 1)) vb ∧ h.get? S = some { cls := .type "list", data := .seq #[vb, vb] c })) →
      codeAny (model prog w) A (.builtin "min.loop" { pos := [.ref I, .none, .ref S], kw := [(dk, d)] }) R { s0 with heap := h, toks := tk } := by
  intro k
  induction k with
  | zero =>
    intro j h tk hk hj hst keep hb
    refine codeAny_builtin F.entry_min_loop ?_
    have hjn : j = n := by omega
    subst hjn
    rcases hb with ⟨hj0, c, hb⟩ | ⟨hj0, vb, c, hvb, hb⟩
    · show wpAny _ _ (_ >>= _) _ _ _
      refine wpAny_bind (wpAny_seqItems hb rfl ?_)
      refine wpAny_bind (wpAny_tryCatch (W.done _ _ _ hst fun h' tk' kp => ?_))
      refine wpAny_bind (wpAny_rule (wpAny_pure ?_))
      exact hR0 hj0 h' tk' fun b o hb1 hb2 e => kp b o hb1 (keep b o hb1 hb2 e)
    · show wpAny _ _ (_ >>= _) _ _ _
      refine wpAny_bind (wpAny_seqItems hb rfl ?_)
      refine wpAny_bind (wpAny_tryCatch (W.done _ _ _ hst fun h' tk' kp => ?_))
      have hS' : S ∉ wr := fun z => hS (W.sub S z)
      have hb' := kp S _ hS' hb
      refine wpAny_bind (wpAny_updateSeq hb' rfl ?_ (show 2 ≤ sizeLine by decide) (Nat.zero_le _))
      refine wpAny_bind (wpAny_letGo (wpAny_pure ?_))
      refine hR hj0 vb _ tk' hvb fun b o hb1 hb2 e => ?_
      exact (Heap.get?_update_other _ _ (Ne.symm hb2)).trans (kp b o hb1 (keep b o hb1 hb2 e))
  | succ k ih =>
    intro j h tk hk hj hst keep hb
    refine codeAny_builtin F.entry_min_loop ?_
    have hjn : j < n := by omega
    have hS' : S ∉ wr := fun z => hS (W.sub S z)
    rcases hb with ⟨hj0, c, hb⟩ | ⟨hj0, vb, c, hvb, hb⟩
    · show wpAny _ _ (_ >>= _) _ _ _
      refine wpAny_bind (wpAny_seqItems hb rfl ?_)
      refine wpAny_bind (wpAny_tryCatch (W.item j _ _ _ hjn hst fun v h' tk' hv hst' kp => ?_))
      have hb' := kp S _ hS' hb
      refine wpAny_bind (wpAny_pure ?_)
      refine wpAny_bind (wpAny_updateSeq hb' rfl ?_ (Nat.zero_le _) (show 2 ≤ sizeLine + 1 by decide))
      refine wpAny_pure ⟨rfl, ?_⟩
      have e9 := PySem.IsL.update hb' (fun _ => #[v, v])
      refine ih (j + 1) _ tk' (by omega) (by omega) (W.frame _ _ _ hst' fun b hb1 o e => ?_) (fun b o hb1 hb2 e => ?_) (.inr ⟨by omega, v, _, ?_, e9⟩)
      · exact (Heap.get?_update_other _ _ (show S ≠ b from fun z => hS (by rw [z]; exact hb1))).trans e
      · exact (Heap.get?_update_other _ _ (Ne.symm hb2)).trans (kp b o hb1 (keep b o hb1 hb2 e))
      · rw [hj0]; rw [hj0] at hv; exact hv
    · show wpAny _ _ (_ >>= _) _ _ _
      refine wpAny_bind (wpAny_seqItems hb rfl ?_)
      refine wpAny_bind (wpAny_tryCatch (W.item j _ _ _ hjn hst fun v h' tk' hv hst' kp => ?_))
      have hb' := kp S _ hS' hb
      obtain ⟨j', rfl⟩ : ∃ j', j = j' + 1 := ⟨j - 1, by omega⟩
      have hvb' : P (argBest bt j') vb := hvb
      have eA : argBest bt (j' + 1) = if bt (j' + 1) (argBest bt j') = true then j' + 1 else argBest bt j' := rfl
      refine wpAny_bind (wpAny_pure ?_)
      refine wpAny_bind (wpAny_tryCatch (wpAny_holding (wpAny_bind (hc (j' + 1) (argBest bt j') v vb _ _ _ hv hvb' (wpAny_bind (wpAny_holding (wpAny_truthy_bool (wpAny_bind (wpAny_letGo (wpAny_pure ?_))))))))))
      by_cases z : bt (j' + 1) (argBest bt j') = true
      · rw [if_pos z]
        refine wpAny_bind (wpAny_updateSeq hb' rfl ?_ (show 2 ≤ sizeLine by decide) (show 2 ≤ sizeLine + 1 by decide))
        refine wpAny_bind (wpAny_letGo (wpAny_pure ⟨rfl, ?_⟩))
        have e9 := PySem.IsL.update hb' (fun _ => #[v, v])
        refine ih (j' + 1 + 1) _ tk' (by omega) (by omega) (W.frame _ _ _ hst' fun b hb1 o e => ?_) (fun b o hb1 hb2 e => ?_) (.inr ⟨by omega, v, _, ?_, e9⟩)
        · exact (Heap.get?_update_other _ _ (show S ≠ b from fun z => hS (by rw [z]; exact hb1))).trans e
        · exact (Heap.get?_update_other _ _ (Ne.symm hb2)).trans (kp b o hb1 (keep b o hb1 hb2 e))
        · show P (argBest bt (j' + 1)) v
          rw [eA, if_pos z]; exact hv
      · rw [if_neg z]
        refine wpAny_bind (wpAny_letGo (wpAny_pure ⟨rfl, ?_⟩))
        refine ih (j' + 1 + 1) _ tk' (by omega) (by omega) hst' (fun b o hb1 hb2 e => kp b o hb1 (keep b o hb1 hb2 e)) (.inr ⟨by omega, vb, _, ?_, hb'⟩)
        show P (argBest bt (j' + 1)) vb
        rw [eA, if_neg z]; exact hvb'
theorem args_minD (a d : Value) : argsOk "min" { pos := [a], kw := [("default", d)] } := by first | rfl | decide
theorem call_minD {prog : Program} {w : World} {A : Around} {E Q : Value → Shared → Prop} {s : Shared} {l : Addr} {xs : Array (Int × Tok)} {d : Value} (hA : A.handled = none) (hl : s.heap.IsList l (intItems xs))
    (q0 : xs.size = 0 → ∀ h' tk, (∀ b o, s.heap.get? b = some o → h'.get? b = some o) → Q d { s with heap := h', toks := tk })
    (q1 : 0 < xs.size → ∀ v h' tk, (intItems xs)[argBest (fun i j => decide (numAt xs i < numAt xs j)) (xs.size - 1)]? = some v → (∀ b o, s.heap.get? b = some o → h'.get? b = some o) → Q v { s with heap := h', toks := tk }) :
    wpAny (model prog w) A (call (.builtin "min") [.ref l] [("default", d)]) Q E s := by
  refine wpAny_call (codeAny_call_builtin_code rfl ?_)
  have hck : checkBuiltinCall "min" { pos := [.ref l], kw := [("default", d)] } = pure () := by
    unfold checkBuiltinCall
    rw [F.kind_min]
    exact args_minD (.ref l) d
  rw [hck]
  refine wpAny_pure (codeAny_builtin F.entry_min ?_)
  show wpAny _ _ (_ >>= _) _ _ _
  have hbp : Builtin.Builtins.bindParams "min" ["key", "default"] 0 { kw := [("default", d)] } = pure [none, some d] := by
    first | rfl | with_unfolding_all rfl | (simp [Builtin.Builtins.bindParams]; done)
  refine wpAny_bind (wpAny_of_eq hbp (wpAny_bind (wpAny_pure (wpAny_bind (wpAny_pyIter_list hl ?_)))))
  refine wpAny_bind (wpAny_newObj_type ?_)
  refine wpAny_pure ⟨rfl, ?_⟩
  have hlt : l < s.heap.objs.size := by obtain ⟨o, e, _⟩ := hl; exact Heap.lt_size e
  have n1 : l ≠ s.heap.objs.size := Nat.ne_of_lt hlt
  have esz : (s.heap.push { cls := .type "list_iterator", data := .fields #[.ref l, .int 0 0] }).objs.size = s.heap.objs.size + 1 := Heap.size_push _ _
  have old : ∀ b o, s.heap.get? b = some o → ((s.heap.push { cls := .type "list_iterator", data := .fields #[.ref l, .int 0 0] }).push { cls := .type "list", data := .seq #[] }).get? b = some o := fun b o e => Heap.get?_push_of_some _ (Heap.get?_push_of_some _ e)
  have ne : ∀ b o, s.heap.get? b = some o → b ∉ [s.heap.objs.size] ∧ b ≠ (s.heap.push { cls := .type "list_iterator", data := .fields #[.ref l, .int 0 0] }).objs.size := fun b o e => by
    have := Heap.lt_size e
    refine ⟨fun z => ?_, fun z => ?_⟩
    · have : b = s.heap.objs.size := by simpa using z
      exact absurd (Heap.lt_size e) (by rw [this]; exact Nat.lt_irrefl _)
    · rw [z, esz] at this
      exact absurd this (Nat.not_lt_of_le (Nat.le_succ _))
  have W := Walks.list (prog := prog) (w := w) (A := A.in1) hA s.heap.objs.size l n1 (intItems xs)
  have hitm : (intItems xs).size = xs.size := by simp [intItems]
  refine min_loopD W (fun i j => decide (numAt xs i < numAt xs j)) (CmpOf.ints_lt (numAt xs) fun i v h => intItems_at h) _ ?_ "default" d _ s (fun z h' tk kp => ?_) (fun z v h' tk hv kp => ?_) (intItems xs).size 0 _ _ rfl (Nat.zero_le _) ⟨?_, ?_⟩ (fun b o _ _ e => e) (.inl ⟨rfl, _, Heap.get?_push_size _ rfl⟩)
  · rw [esz]
    simp only [List.mem_cons, List.not_mem_nil, or_false, not_or]
    exact ⟨Nat.ne_of_gt (Nat.lt_succ_self _), Nat.ne_of_gt (Nat.lt_succ_of_lt hlt)⟩
  · exact q0 (by omega) h' tk fun b o e => kp b o (ne b o e).1 (ne b o e).2 (old b o e)
  · exact q1 (by omega) v h' tk (by rw [← hitm]; exact hv) fun b o e => kp b o (ne b o e).1 (ne b o e).2 (old b o e)
  · exact ⟨_, Heap.get?_push_of_some _ (Heap.get?_push_size _ rfl), rfl, rfl⟩
  · obtain ⟨o, e, r⟩ := hl
    exact ⟨o, old _ _ e, r⟩
section
variable {X : Cx}

def tMaxD (K : Frag) (ta td : TA) : TE := fun σ H Q => ta σ H fun vs H1 => td σ H1 fun zs H2 => ∃ (p : Addr) (ns : List Int) (d : Int), vs = [.ref p] ∧ zs = [.int d] ∧ SqL K H2 p (ns.map V.int) ∧ (ns = [] → Q (.int d) H2) ∧ (ns ≠ [] → ∀ m, m ∈ ns → (∀ a ∈ ns, a ≤ m) → Q (.int m) H2)
theorem pe_maxD {K : Frag} {e : Expr} {kws : List Keyword} {ta td : TA} {p pos : Pos} (hK : X.K = K) (hc : X.calm = true) (hg : Gl X "max") (hm : X.mg "max" = none) (ha : PA X [e] ta) (hd : PK X kws td)
    (he : starEach [e] X.env = (false, eval e X.env) :: starEach [] X.env := by rfl) (hpl : (backTo pos (starEach [e] X.env)).any (·.1) = false := by rfl) (hall : (backToKw pos (keywordEach kws X.env)).all (·.1.isSome) = true := by rfl)
    (hnn : (backToKw pos (keywordEach kws X.env)).any (·.1.isNone) = false := by rfl) (hks : (backToKw pos (keywordEach kws X.env)).filterMap (·.1) = [(("default" : String) : Str)] := by rfl) (hb : backTo pos (starEach [e] X.env) = (false, eval e X.env) :: backTo pos (starEach [] X.env) := by rfl) :
    PE X (.Call (.Name "max" p) [e] kws pos) (tMaxD K ta td) := by
  subst hK
  intro pins s σ H Q I h
  refine wpAny_Call_Name_kw (ld_blt I hg hm bt_max ?_)
  refine PyProof.Rows.callWith_kw (thn (ha pos pins s σ H _ I h) fun us s1 ⟨vs, H1, I1, r1, q1⟩ => ?_) hb hpl hall hnn
  refine thn (hd pos pins s1 σ H1 _ I1 q1) fun ws s2 ⟨zs, H2, I2, r2, pp, ns, d, e1, e2, hp, q0, qm⟩ => ?_
  subst e1 e2
  obtain ⟨u, rfl, ru⟩ := r1.one
  obtain ⟨v, rfl, rv⟩ := r2.one
  cases (show u = Value.ref pp from ru)
  rw [hks]
  obtain ⟨its, rr, pl, hz⟩ := I2.list hp
  obtain ⟨ys, e1, e2⟩ := ints_of rr
  have hsz : ys.size = ns.length := by
    have := congrArg List.length e2
    rw [List.length_map, Array.length_toList] at this
    exact this
  refine call_maxD (xs := ys) (I2.ok.hd hc) (e1 ▸ pl.isList) (fun z h' tk k => ?_) (fun z v' h' tk hv k => ?_)
  · exact ⟨.int d, H2, I2.kept k, rv, q0 (List.length_eq_zero_iff.mp (by omega))⟩
  · obtain ⟨t, rfl⟩ := intItems_at hv
    obtain ⟨h1, h2⟩ := argBest_gt (numAt ys) (ys.size - 1)
    refine ⟨.int _, H2, I2.kept k, ⟨t, rfl⟩, qm (fun y => by have h3 : ys.size = 0 := (by rw [hsz, y]; rfl); omega) _ ?_ fun a ha => ?_⟩
    · rw [numAt_eq, e2]; exact getD_mem (by omega)
    · obtain ⟨j, hj, rfl⟩ := mem_getD ha
      rw [← e2, ← numAt_eq]; exact h2 j (by omega)
end
section
variable {X : Cx}

def tMinD (K : Frag) (ta td : TA) : TE := fun σ H Q => ta σ H fun vs H1 => td σ H1 fun zs H2 => ∃ (p : Addr) (ns : List Int) (d : Int), vs = [.ref p] ∧ zs = [.int d] ∧ SqL K H2 p (ns.map V.int) ∧ (ns = [] → Q (.int d) H2) ∧ (ns ≠ [] → ∀ m, m ∈ ns → (∀ a ∈ ns, m ≤ a) → Q (.int m) H2)
theorem pe_minD {K : Frag} {e : Expr} {kws : List Keyword} {ta td : TA} {p pos : Pos} (hK : X.K = K) (hc : X.calm = true) (hg : Gl X "min") (hm : X.mg "min" = none) (ha : PA X [e] ta) (hd : PK X kws td)
    (he : starEach [e] X.env = (false, eval e X.env) :: starEach [] X.env := by rfl) (hpl : (backTo pos (starEach [e] X.env)).any (·.1) = false := by rfl) (hall : (backToKw pos (keywordEach kws X.env)).all (·.1.isSome) = true := by rfl)
    (hnn : (backToKw pos (keywordEach kws X.env)).any (·.1.isNone) = false := by rfl) (hks : (backToKw pos (keywordEach kws X.env)).filterMap (·.1) = [(("default" : String) : Str)] := by rfl) (hb : backTo pos (starEach [e] X.env) = (false, eval e X.env) :: backTo pos (starEach [] X.env) := by rfl) :
    PE X (.Call (.Name "min" p) [e] kws pos) (tMinD K ta td) := by
  subst hK
  intro pins s σ H Q I h
  refine wpAny_Call_Name_kw (ld_blt I hg hm bt_min ?_)
  refine PyProof.Rows.callWith_kw (thn (ha pos pins s σ H _ I h) fun us s1 ⟨vs, H1, I1, r1, q1⟩ => ?_) hb hpl hall hnn
  refine thn (hd pos pins s1 σ H1 _ I1 q1) fun ws s2 ⟨zs, H2, I2, r2, pp, ns, d, e1, e2, hp, q0, qm⟩ => ?_
  subst e1 e2
  obtain ⟨u, rfl, ru⟩ := r1.one
  obtain ⟨v, rfl, rv⟩ := r2.one
  cases (show u = Value.ref pp from ru)
  rw [hks]
  obtain ⟨its, rr, pl, hz⟩ := I2.list hp
  obtain ⟨ys, e1, e2⟩ := ints_of rr
  have hsz : ys.size = ns.length := by
    have := congrArg List.length e2
    rw [List.length_map, Array.length_toList] at this
    exact this
  refine call_minD (xs := ys) (I2.ok.hd hc) (e1 ▸ pl.isList) (fun z h' tk k => ?_) (fun z v' h' tk hv k => ?_)
  · exact ⟨.int d, H2, I2.kept k, rv, q0 (List.length_eq_zero_iff.mp (by omega))⟩
  · obtain ⟨t, rfl⟩ := intItems_at hv
    obtain ⟨h1, h2⟩ := argBest_lt (numAt ys) (ys.size - 1)
    refine ⟨.int _, H2, I2.kept k, ⟨t, rfl⟩, qm (fun y => by have h3 : ys.size = 0 := (by rw [hsz, y]; rfl); omega) _ ?_ fun a ha => ?_⟩
    · rw [numAt_eq, e2]; exact getD_mem (by omega)
    · obtain ⟨j, hj, rfl⟩ := mem_getD ha
      rw [← e2, ← numAt_eq]; exact h2 j (by omega)
end
end L2


set_option Elab.async false
set_option linter.all false
set_option maxRecDepth 100000
set_option maxHeartbeats 1000000
namespace L2
open PySem PySem.Spec PyProof.Rows PySem.W
section
variable {X : Cx}

end
end L2


set_option Elab.async false
set_option linter.all false
set_option maxRecDepth 100000
set_option maxHeartbeats 1000000
namespace L2
open PySem PySem.Spec PyProof.Rows PySem.W

def LowsEq (f g : Nat → Int) (n : Nat) : Prop := ∀ a c, a + c < n → lowF f a c = lowF g a c
theorem LowsEq.symm {f g : Nat → Int} {n : Nat} (h : LowsEq f g n) : LowsEq g f n := fun a c k => (h a c k).symm
theorem LowsEq.over {f g : Nat → Int} {n o p : Nat} (h : LowsEq f g n) (ho : o < n) (hp : p < n) (k : Over f o p) : Over g o p := by
  rcases k with ⟨z, k⟩ | ⟨z, k⟩
  · have i1 : IsLow f o (o + (p - o)) o := ⟨Nat.le_refl _, by omega, fun q q1 q2 => by omega, fun q q1 q2 => k q q1 (by omega)⟩
    have e := h o (p - o) (by omega)
    rw [(lowF_is f o (p - o)).unique i1] at e
    have i2 := lowF_is g o (p - o)
    rw [← e] at i2
    exact .inl ⟨z, fun r r1 r2 => i2.2.2.2 r r1 (by omega)⟩
  · have i1 : IsLow f p (p + (o - p)) o := ⟨by omega, by omega, fun q q1 q2 => k q q1 q2, fun q q1 q2 => by omega⟩
    have e := h p (o - p) (by omega)
    rw [(lowF_is f p (o - p)).unique i1] at e
    have i2 := lowF_is g p (o - p)
    rw [← e] at i2
    exact .inr ⟨z, fun r r1 r2 => i2.2.2.1 r r1 (by omega)⟩
theorem LowsEq.tree {ns ms T : List Int} (hT : TreeIs ns T) (hl : ms.length = ns.length) (h : LowsEq (nth ns) (nth ms) ns.length) : TreeIs ms T := by
  refine ⟨by rw [hl]; exact hT.1, fun p hp => ?_⟩
  rw [hl] at hp ⊢
  refine tree_row hT (fun q p hq hp hO => ?_) p hp
  rcases h.over hq hp hO with ⟨z, k⟩ | ⟨z, k⟩
  · exact ⟨fun _ => k p z (Nat.le_refl _), fun y => by omega⟩
  · exact ⟨fun y => by omega, fun _ => k p (Nat.le_refl _) z⟩
theorem trees_over {ns ms T : List Int} (h1 : TreeIs ns T) (h2 : TreeIs ms T) {o p : Nat} (ho : o < ns.length) (hp : p < ns.length) (k : Over (nth ns) o p) : Over (nth ms) o p := by
  have hl : ms.length = ns.length := h2.1.symm.trans h1.1
  exact ((way_over h2 (by omega)).mp ((way_over h1 hp).mpr ⟨ho, k⟩)).2
theorem trees_lows {ns ms T : List Int} (h1 : TreeIs ns T) (h2 : TreeIs ms T) : LowsEq (nth ns) (nth ms) ns.length := by
  intro a c hac
  have hl := lowF_is (nth ns) a c
  have hlt := lowF_lt (nth ns) a c
  refine IsLow.unique (f := nth ms) (a := a) (b := a + c) ⟨hl.1, hl.2.1, fun q q1 q2 => ?_, fun q q1 q2 => ?_⟩ (lowF_is (nth ms) a c)
  · have := trees_over h1 h2 (by omega) (by omega) (hl.over (p := q) (by omega) (by omega) (by omega))
    rcases this with ⟨z, k⟩ | ⟨z, k⟩
    · omega
    · exact k q (Nat.le_refl _) q2
  · have := trees_over h1 h2 (by omega) (by omega) (hl.over (p := q) (by omega) (by omega) (by omega))
    rcases this with ⟨z, k⟩ | ⟨z, k⟩
    · exact k q q1 (Nat.le_refl _)
    · omega
theorem kin_iff {ns ms S T : List Int} (h1 : TreeIs ns S) (h2 : TreeIs ms T) : (ns.length = ms.length ∧ LowsEq (nth ns) (nth ms) ns.length) ↔ (ns.length = ms.length ∧ S = T) := by
  refine ⟨fun h => ⟨h.1, ?_⟩, fun h => ⟨h.1, ?_⟩⟩
  · exact (LowsEq.tree h1 h.1.symm h.2).unique h2
  · rw [h.2] at h1; exact trees_lows h1 h2

def cutN (ns : List Int) (a c : Nat) : List Int := (ns.drop a).take c
theorem cutN_nth {ns : List Int} {a c i : Nat} (h : i < c) : nth (cutN ns a c) i = nth ns (a + i) := by
  simp [nth, cutN, List.getD_eq_getElem?_getD, List.getElem?_take, List.getElem?_drop, h]
theorem LowsEq.mono {f g : Nat → Int} {n m : Nat} (h : LowsEq f g n) (k : m ≤ n) : LowsEq f g m := fun a c z => h a c (by omega)

def PartAt (f g : Nat → Int) (x y size a m : Nat) : Prop := a + m < size ∧ (lowF f (x + a) m : Int) - (x + a : Nat) ≠ (lowF g (y + a) m : Int) - (y + a : Nat) ∧ (∀ m', m' < m → ∀ a', a' + m' < size → (lowF f (x + a') m' : Int) - (x + a' : Nat) = (lowF g (y + a') m' : Int) - (y + a' : Nat)) ∧
  ∀ a', a' < a → (lowF f (x + a') m : Int) - (x + a' : Nat) = (lowF g (y + a') m : Int) - (y + a' : Nat)
theorem first_not {P : Nat → Prop} : ∀ n, ¬ (∀ j, j < n → P j) → ∃ j, j < n ∧ ¬ P j ∧ ∀ i, i < j → P i
  | 0, h => absurd (fun j hj => by omega) h
  | n + 1, h => by
    by_cases z : ∀ j, j < n → P j
    · exact ⟨n, by omega, fun y => h fun j hj => by
        by_cases e : j = n
        · rw [e]; exact y
        · exact z j (by omega), z⟩
    · obtain ⟨j, h1, h2, h3⟩ := first_not n z
      exact ⟨j, by omega, h2, h3⟩
theorem ifR {c : TT} {t u : TS} {D : Ends} {σ : St} {H : Hp} (T U : Hp → Prop) (ht : ∀ H1, T H1 → t D σ H1) (hu : ∀ H1, U H1 → u D σ H1) (hc : ∀ B : Bool → Hp → Prop, (∀ H1, T H1 → B true H1) → (∀ H1, U H1 → B false H1) → c σ H B) : tIfS c t u D σ H :=
  hc _ (fun H1 h => by rw [if_pos rfl]; exact ht H1 h) (fun H1 h => by rw [if_neg (by simp)]; exact hu H1 h)
end L2


set_option Elab.async false
set_option linter.all false
set_option maxRecDepth 100000
set_option maxHeartbeats 1000000
namespace L2
open PySem PySem.Spec PyProof.Rows PySem.W
section
variable {X : Cx}

def rOr (r1 r2 : R2) : R2 := fun x y H Q => r1 x y H Q ∨ r2 x y H Q
end

theorem partAt_zero {f g : Nat → Int} {n a m : Nat} (h1 : a + m < n) (h2 : lowF f a m ≠ lowF g a m) (h3 : ∀ m', m' < m → ∀ a', a' + m' < n → lowF f a' m' = lowF g a' m') (h4 : ∀ a', a' < a → lowF f a' m = lowF g a' m) : PartAt f g 0 0 n a m := by
  refine ⟨h1, ?_, fun m' hm' a' ha' => ?_, fun a' ha' => ?_⟩
  · rw [Nat.zero_add]; omega
  · rw [Nat.zero_add, h3 m' hm' a' ha']
  · rw [Nat.zero_add, h4 a' ha']
theorem PartAt.low {f g : Nat → Int} {n a m : Nat} (h : PartAt f g 0 0 n a m) : a + m < n ∧ lowF f a m ≠ lowF g a m ∧ (∀ m', m' < m → ∀ a', a' + m' < n → lowF f a' m' = lowF g a' m') ∧ ∀ a', a' < a → lowF f a' m = lowF g a' m := by
  obtain ⟨h1, h2, h3, h4⟩ := h
  refine ⟨h1, fun e => h2 (by rw [Nat.zero_add, e]), fun m' hm' a' ha' => ?_, fun a' ha' => ?_⟩
  · have := h3 m' hm' a' ha'; rw [Nat.zero_add] at this; omega
  · have := h4 a' ha'; rw [Nat.zero_add] at this; omega
theorem PartAt.symm {f g : Nat → Int} {n a m : Nat} (h : PartAt f g 0 0 n a m) : PartAt g f 0 0 n a m := by
  obtain ⟨h1, h2, h3, h4⟩ := h.low
  exact partAt_zero h1 h2.symm (fun m' hm' a' ha' => (h3 m' hm' a' ha').symm) (fun a' ha' => (h4 a' ha').symm)
theorem PartAt.unique {f g : Nat → Int} {n a m a' m' : Nat} (h : PartAt f g 0 0 n a m) (k : PartAt f g 0 0 n a' m') : a = a' ∧ m = m' := by
  obtain ⟨h1, h2, h3, h4⟩ := h.low
  obtain ⟨k1, k2, k3, k4⟩ := k.low
  have hm : m = m' := by
    rcases Nat.lt_trichotomy m m' with z | z | z
    · exact absurd (k3 m z a h1) h2
    · exact z
    · exact absurd (h3 m' z a' k1) k2
  subst hm
  refine ⟨?_, rfl⟩
  rcases Nat.lt_trichotomy a a' with z | z | z
  · exact absurd (k4 a z) h2
  · exact z
  · exact absurd (h4 a' z) k2
end L2


set_option Elab.async false
set_option linter.all false
set_option maxRecDepth 100000
set_option maxHeartbeats 1000000
namespace L2
open PySem PySem.Spec PyProof.Rows PySem.W
section
variable {prog : Program} {w : World} {A : Around} {E Q : Value → Shared → Prop} {s : Shared} {it t : Addr} {i : Nat} {items : Array Value}
end
section
variable {X : Cx} {pins : List (Addr × Obj)} {σ : St} {H : Hp} {s : Shared} {h' : Heap}

def IteT (K : Frag) (a : Addr) : It :=
  ⟨fun i H => ∃ xs x, SqT K H a xs ∧ xs[i]? = some x,
   fun i H v H' => ∃ p x, H p = none ∧ v = .ref p ∧ H' = upd H p (.tup [.int (i : Int), x]) ∧ ∀ xs, SqT K H a xs → xs[i]? = some x,
   fun i H => ∃ xs, SqT K H a xs ∧ xs.length = i⟩
def iEnumT (K : Frag) (ta : TA) : TI := fun σ H R => ta σ H fun vs H1 => ∃ a xs, vs = [.ref a] ∧ SqT K H1 a xs ∧ R (IteT K a) H1
end
end L2


set_option Elab.async false
set_option linter.all false
set_option maxRecDepth 100000
set_option maxHeartbeats 1000000
namespace L2
open PySem PySem.Spec PyProof.Rows PySem.W

open Classical in
noncomputable def fenA (f : Nat → Int) (p : Nat) : Int := if h : ∃ q, IsPrev f p q then (Classical.choose h : Nat) else -1
open Classical in
noncomputable def fenB (f : Nat → Int) (n p : Nat) : Int := if h : ∃ r, IsNext f n p r then (Classical.choose h : Nat) else (n : Int)
theorem fenA_prev {f : Nat → Int} {p q : Nat} (h : IsPrev f p q) : fenA f p = q := by
  have hx : ∃ q, IsPrev f p q := ⟨q, h⟩
  unfold fenA
  rw [dif_pos hx, (Classical.choose_spec hx).unique h]
theorem fenA_no {f : Nat → Int} {p : Nat} (h : NoPrev f p) : fenA f p = -1 := by
  unfold fenA
  rw [dif_neg fun ⟨q, hq⟩ => hq.no h]
theorem fenB_next {f : Nat → Int} {n p r : Nat} (h : IsNext f n p r) : fenB f n p = r := by
  have hx : ∃ r, IsNext f n p r := ⟨r, h⟩
  unfold fenB
  rw [dif_pos hx, (Classical.choose_spec hx).unique h]
theorem fenB_no {f : Nat → Int} {n p : Nat} (h : NoNext f n p) : fenB f n p = n := by
  unfold fenB
  rw [dif_neg fun ⟨q, hq⟩ => hq.no h]
theorem fences_sides {f : Nat → Int} {n p : Nat} {e : Int} (h : ElderIs f n p e) : (NoPrev f p ∨ ∃ q, IsPrev f p q) ∧ (NoNext f n p ∨ ∃ r, IsNext f n p r) := by
  rcases h with ⟨h1, h2, _⟩ | ⟨q, h1, h2, _⟩ | ⟨r, h1, h2, _⟩ | ⟨q, r, h1, h2, _⟩
  · exact ⟨.inl h1, .inl h2⟩
  · exact ⟨.inr ⟨q, h1⟩, .inl h2⟩
  · exact ⟨.inl h1, .inr ⟨r, h2⟩⟩
  · exact ⟨.inr ⟨q, h1⟩, .inr ⟨r, h2⟩⟩
theorem IsPrev.over {f : Nat → Int} {p q : Nat} (h : IsPrev f p q) : Over f q p := .inl ⟨h.1, fun r r1 r2 => by
  by_cases z : r = p
  · rw [z]; exact h.2.1
  · have := h.2.2 r r1 (by omega); have := h.2.1; omega⟩
theorem IsNext.over {f : Nat → Int} {n p q : Nat} (h : IsNext f n p q) : Over f q p := .inr ⟨h.1, fun r r1 r2 => by
  by_cases z : r = p
  · rw [z]; exact h.2.2.1
  · have := h.2.2.2 r (by omega) r2; have := h.2.2.1; omega⟩

theorem fenA_max {ns T : List Int} (hT : TreeIs ns T) {p : Nat} (hp : p < ns.length) : let L := (wayI T p).filter fun o => decide (o < (p : Int))
    (L = [] → fenA (nth ns) p = -1) ∧ (L ≠ [] → ∀ m, m ∈ L → (∀ a ∈ L, a ≤ m) → m = fenA (nth ns) p) := by
  intro L
  have hL : ∀ o : Nat, (o : Int) ∈ L ↔ o < p ∧ o < ns.length ∧ Over (nth ns) o p := fun o => by
    rw [List.mem_filter, way_mem hT hp, decide_eq_true_eq]
    exact ⟨fun h => ⟨by omega, h.1⟩, fun h => ⟨h.2, by omega⟩⟩
  have hN : ∀ m ∈ L, ∃ o : Nat, m = o := fun m hm => by
    have := (List.mem_filter.mp hm).1
    rw [wayI_way] at this
    obtain ⟨o, _, e⟩ := List.mem_map.mp this
    exact ⟨o, e.symm⟩
  rcases (fences_sides (hT.2 p hp)).1 with h | ⟨q, h⟩
  · refine ⟨fun _ => fenA_no h, fun hne m hm _ => ?_⟩
    obtain ⟨o, rfl⟩ := hN m hm
    obtain ⟨h1, _, h2⟩ := (hL o).mp hm
    have := h o h1
    rcases h2 with ⟨_, k⟩ | ⟨z, _⟩
    · have := k p h1 (Nat.le_refl _); omega
    · omega
  · have hq : (q : Int) ∈ L := (hL q).mpr ⟨h.1, by have := h.1; omega, h.over⟩
    refine ⟨fun e => by rw [e] at hq; simp at hq, fun _ m hm hmax => ?_⟩
    rw [fenA_prev h]
    obtain ⟨o, rfl⟩ := hN m hm
    obtain ⟨h1, _, h2⟩ := (hL o).mp hm
    have hqo := hmax _ hq
    by_cases z : o = q
    · rw [z]
    · have := h.2.2 o (by omega) h1
      rcases h2 with ⟨_, k⟩ | ⟨z, _⟩
      · have := k p h1 (Nat.le_refl _); omega
      · omega
theorem fenB_min {ns T : List Int} (hT : TreeIs ns T) {p : Nat} (hp : p < ns.length) : let L := (wayI T p).filter fun o => decide ((p : Int) < o)
    (L = [] → fenB (nth ns) ns.length p = ns.length) ∧ (L ≠ [] → ∀ m, m ∈ L → (∀ a ∈ L, m ≤ a) → m = fenB (nth ns) ns.length p) := by
  intro L
  have hL : ∀ o : Nat, (o : Int) ∈ L ↔ p < o ∧ o < ns.length ∧ Over (nth ns) o p := fun o => by
    rw [List.mem_filter, way_mem hT hp, decide_eq_true_eq]
    exact ⟨fun h => ⟨by omega, h.1⟩, fun h => ⟨h.2, by omega⟩⟩
  have hN : ∀ m ∈ L, ∃ o : Nat, m = o := fun m hm => by
    have := (List.mem_filter.mp hm).1
    rw [wayI_way] at this
    obtain ⟨o, _, e⟩ := List.mem_map.mp this
    exact ⟨o, e.symm⟩
  rcases (fences_sides (hT.2 p hp)).2 with h | ⟨q, h⟩
  · refine ⟨fun _ => fenB_no h, fun hne m hm _ => ?_⟩
    obtain ⟨o, rfl⟩ := hN m hm
    obtain ⟨h1, h3, h2⟩ := (hL o).mp hm
    have := h o h1 h3
    rcases h2 with ⟨z, _⟩ | ⟨_, k⟩
    · omega
    · have := k p (Nat.le_refl _) h1; omega
  · have hq : (q : Int) ∈ L := (hL q).mpr ⟨h.1, h.2.1, h.over⟩
    refine ⟨fun e => by rw [e] at hq; simp at hq, fun _ m hm hmin => ?_⟩
    rw [fenB_next h]
    obtain ⟨o, rfl⟩ := hN m hm
    obtain ⟨h1, h3, h2⟩ := (hL o).mp hm
    have hqo := hmin _ hq
    by_cases z : o = q
    · rw [z]
    · have := h.2.2.2 o h1 (by omega)
      rcases h2 with ⟨z, _⟩ | ⟨_, k⟩
      · omega
      · have := k p (Nat.le_refl _) h1; omega

noncomputable def distN (f : Nat → Int) (p : Nat) : Int := if 0 ≤ fenA f p then (p : Int) - fenA f p else 0
noncomputable def distI (ns : List Int) : List Int := (List.range ns.length).map (distN (nth ns))
theorem distI_len (ns : List Int) : (distI ns).length = ns.length := by simp [distI]

def PairsAt (H : Hp) (l : Addr) (n : Nat) (ps : Nat → Int × Int) : Prop := ∃ qs : List Addr, H l = some (.lst (qs.map V.ref)) ∧ qs.length = n ∧ ∀ (j : Nat) (q : Addr), qs[j]? = some q → H q = some (.tup [.int (ps j).1, .int (ps j).2])
theorem PairsAt.same {H H' : Hp} {l : Addr} {n : Nat} {ps : Nat → Int × Int} (h : PairsAt H l n ps) (s : Same H H') : PairsAt H' l n ps := by
  obtain ⟨qs, h1, h2, h3⟩ := h
  exact ⟨qs, s _ _ h1, h2, fun j q hq => s _ _ (h3 j q hq)⟩
theorem PairsAt.push {H : Hp} {l q : Addr} {n : Nat} {ps : Nat → Int × Int} (h : PairsAt H l n ps) (hq : H q = some (.tup [.int (ps n).1, .int (ps n).2])) : ∃ xs : List V, H l = some (.lst xs) ∧ xs.length = n ∧ PairsAt (upd H l (.lst (xs ++ [.ref q]))) l (n + 1) ps := by
  obtain ⟨qs, h1, h2, h3⟩ := h
  have hne : ∀ a o, H a = some (.tup o) → a ≠ l := fun a o ha z => by rw [z, h1] at ha; cases ha
  refine ⟨_, h1, by simp [h2], qs ++ [q], by rw [upd_same]; simp, by simp [h2], fun j a ha => ?_⟩
  by_cases z : j < qs.length
  · rw [List.getElem?_append_left z] at ha
    have := h3 j a ha
    rw [upd_ne (hne _ _ this)]; exact this
  · have hj := (List.getElem?_eq_some_iff.mp ha).1
    rw [List.length_append] at hj
    have : j = n := by simp at hj; omega
    subst this
    rw [List.getElem?_append_right (by omega), h2] at ha
    simp at ha
    rw [← ha, upd_ne (hne _ _ hq)]; exact hq

theorem Spine.mono {f : Nat → Int} {i : Nat} {S : List Nat} (h : Spine f i S) : S.Pairwise (fun a b => f a ≤ f b) := by
  refine List.Pairwise.imp_of_mem ?_ h.1
  intro a b ha hb hab
  exact ((h.2 a).mp ha).2 b hab ((h.2 b).mp hb).1
end L2


set_option Elab.async false
set_option linter.all false
set_option maxRecDepth 100000
set_option maxHeartbeats 1000000
namespace L2
open PySem PySem.Spec PyProof.Rows PySem.W
theorem for_it {J : It} {n : Nat} {g : TG} {tb : TS} {D : Ends} {σ : St} {H : Hp} (Pv : Nat → St → Hp → Prop) (h0 : Pv 0 σ H) (hgo : ∀ i σ H, i < n → Pv i σ H → J.go i H) (hstop : ∀ σ H, Pv n σ H → J.stop n H)
    (hs : ∀ i x σ H H', i < n → Pv i σ H → J.yld i H x H' → g x σ H' fun σ2 H2 => tb { D with nx := Pv (i + 1), ct := Pv (i + 1), bk := D.nx } σ2 H2) (hd : ∀ σ H, Pv n σ H → D.nx σ H) : LoopR J g tb D σ H := by
  refine ⟨fun i m σ H => m = n - i ∧ i ≤ n ∧ Pv i σ H, ⟨n, by simp, Nat.zero_le _, h0⟩, ?_⟩
  rintro i m σ H ⟨rfl, hi, p⟩
  by_cases hlt : i < n
  · exact .inr ⟨hgo i σ H hlt p, Pv (i + 1), fun σ' H' p' => ⟨n - (i + 1), by omega, rfl, hlt, p'⟩, fun x H' y => hs i x σ H H' hlt p y⟩
  · have : i = n := by omega
    subst this
    exact .inl ⟨hstop σ H p, hd σ H p⟩
theorem range_of (L : List Int) : L = (List.range L.length).map fun i => L.getD i 0 := by
  refine List.ext_getElem (by simp) fun j h1 h2 => ?_
  simp [List.getD_eq_getElem?_getD, h1]

theorem comp_sift {K : Frag} {a : Addr} {L : List Int} {H1 : Hp} {Q : VK} {tt : TT} {σr : St} (P : Int → Bool) (ha : H1 a = some (.lst (L.map V.int))) (hn : L.length ≤ 1000)
    (ht : ∀ (x : Int) (H : Hp) (R : Bool → Hp → Prop), R (P x) H → tt (some (V.int x) :: σr) H R)
    (hk : ∀ l H', Same H1 H' → H' l = none → Q (.ref l) (upd H' l (.lst ((L.filter P).map V.int)))) :
    CompR (Itl K a) (gName 0) tt (tVar 0) (none :: σr) Q H1 := by
  refine comp_filt (n := L.length) (fun i => P (L.getD i 0)) (fun i => V.int (L.getD i 0)) (Nat.lt_of_le_of_lt hn (by decide)) (fun i Hx s hi => ⟨_, _, SqL.of (s _ _ ha), List.getElem?_eq_getElem (by simpa using hi)⟩) (fun Hx s => ⟨_, SqL.of (s _ _ ha), by simp⟩) ?_ ?_
  · rintro i x Hx Hy hi s ⟨rfl, hx⟩
    have ex := hx _ (SqL.of (s _ _ ha))
    rw [List.getElem?_map, List.getElem?_eq_getElem hi] at ex
    cases ex
    have eg : L.getD i 0 = L[i] := by simp [List.getD_eq_getElem?_getD, hi]
    refine ht _ _ _ ?_
    cases hP : P L[i] with
    | true =>
      rw [if_pos rfl]
      exact ⟨_, rfl, CF.take hi (by rw [eg]; exact hP) (by rw [eg]) s⟩
    | false =>
      rw [if_neg (by simp)]
      exact CF.skip hi (by rw [eg]; exact hP) s
  · intro l H' s hl
    have := hk l H' s hl
    have e : ((List.range L.length).filter fun i => P (L.getD i 0)).map (fun i => V.int (L.getD i 0)) = (L.filter P).map V.int := by
      conv => rhs; rw [range_of L, List.filter_map, List.map_map]
      rfl
    rw [e]; exact this
theorem natsV_ints (l : List Nat) : natsV l = (l.map fun q => ((q : Nat) : Int)).map V.int := by simp [natsV, Function.comp_def]
end L2


set_option Elab.async false
set_option linter.all false
set_option maxRecDepth 100000
set_option maxHeartbeats 1000000
namespace L2
open PySem PySem.Spec PyProof.Rows PySem.W

section
variable {X : Cx}

def tMaxDT (K : Frag) (ta td : TA) : TE := fun σ H Q => ta σ H fun vs H1 => td σ H1 fun zs H2 => ∃ (p : Addr) (ns : List Int) (d : Int), vs = [.ref p] ∧ zs = [.int d] ∧ SqT K H2 p (ns.map V.int) ∧ (ns = [] → Q (.int d) H2) ∧ (ns ≠ [] → ∀ m, m ∈ ns → (∀ a ∈ ns, a ≤ m) → Q (.int m) H2)
end

section
variable {X : Cx}
end
end L2


set_option Elab.async false
set_option linter.all false
set_option maxRecDepth 100000
set_option maxHeartbeats 1000000
namespace L2
open PySem PySem.Spec PyProof.Rows PySem.W

end L2


set_option Elab.async false
set_option linter.all false
set_option maxRecDepth 100000
set_option maxHeartbeats 1000000

namespace PySem
open Sem (wp)
section
variable {prog : Program} {w : World} {A : Around} {E : Value → Shared → Prop} {s : Shared}
end
end PySem
namespace L2
open PySem PySem.Spec PyProof.Rows PySem.W
section
variable {X : Cx}
def rTupR2 : List V → Hp → VK → Prop := fun xs H Q => ∃ p i j, xs = [.ref p] ∧ H p = some (.rng i j) ∧ -(2 ^ 62) ≤ i ∧ i < 2 ^ 62 ∧ -(2 ^ 62) ≤ j ∧ j < 2 ^ 62 ∧ j - i ≤ 1000 ∧ ∀ l, H l = none → Q (.ref l) (upd H l (.tup ((List.range (j - i).toNat).map fun (k : Nat) => V.int (i + (k : Int)))))
end
end L2


set_option Elab.async false
set_option linter.all false
set_option maxRecDepth 100000
set_option maxHeartbeats 1000000

namespace L2
open PySem PySem.Spec PyProof.Rows PySem.W

def QIt (h : Heap) (i l : Addr) (k : Nat) (xs : Array Value) : Prop := (h.IsListIter i l k ∧ h.IsList l xs) ∨ (h.IsTupleIter i l k ∧ h.IsTuple l xs)
theorem QIt.ext {h h' : Heap} {i l b : Addr} {k : Nat} {xs : Array Value} (x : QIt h i l k xs) (hs : Heap.ExtBut b h h') (n1 : i ≠ b) (n2 : l ≠ b) : QIt h' i l k xs := by
  rcases x with ⟨p, q⟩ | ⟨p, q⟩
  · exact .inl ⟨p.extBut hs n1, q.extBut hs n2⟩
  · obtain ⟨o, ho, r⟩ := q
    exact .inr ⟨p.extBut hs n1, ⟨o, hs _ _ n2 ho, r⟩⟩
theorem QIt.at {h h' : Heap} {i l : Addr} {k : Nat} {xs : Array Value} (x : QIt h i l k xs) (e1 : ∀ o, h.get? i = some o → h'.get? i = some o) (e2 : ∀ o, h.get? l = some o → h'.get? l = some o) : QIt h' i l k xs := by
  rcases x with ⟨p, ⟨o, ho, r⟩⟩ | ⟨⟨o1, p1, r1⟩, ⟨o, ho, r⟩⟩
  · exact .inl ⟨p.at e1, ⟨o, e2 o ho, r⟩⟩
  · exact .inr ⟨⟨o1, e1 _ p1, r1⟩, ⟨o, e2 o ho, r⟩⟩
theorem QIt.obj {h : Heap} {i l : Addr} {k : Nat} {xs : Array Value} (x : QIt h i l k xs) : (∃ o, h.get? i = some o ∧ ∀ v m, o.data ≠ .seq v m) ∧ ∃ o, h.get? l = some o := by
  rcases x with ⟨⟨o, p, p1, p2⟩, ⟨u, q, _⟩⟩ | ⟨⟨o, p, p1, p2⟩, ⟨u, q, _⟩⟩
  · exact ⟨⟨o, p, fun v m z => by rw [p2] at z; cases z⟩, ⟨u, q⟩⟩
  · exact ⟨⟨o, p, fun v m z => by rw [p2] at z; cases z⟩, ⟨u, q⟩⟩
section
variable {prog : Program} {w : World} {A : Around} {E Q : Value → Shared → Prop} {s : Shared} {it l : Addr} {k : Nat} {xs : Array Value}
end
section
variable {prog : Program} {w : World} {A : Around} {E : Value → Shared → Prop} {s : Shared} {z TI TO i1 i2 l1 l2 : Addr} {k1 k2 : Nat} {xs ys : Array Value} {a b : Value}
def SqH (h : Heap) (l : Addr) (xs : Array Value) : Prop := h.IsList l xs ∨ h.IsTuple l xs
theorem SqH.push {h : Heap} {l : Addr} {xs : Array Value} (q : SqH h l xs) (o : Obj) : SqH (h.push o) l xs := by
  rcases q with q | ⟨u, hu, r⟩
  · exact .inl (q.push o)
  · exact .inr ⟨u, Heap.get?_push_of_some _ hu, r⟩
theorem SqH.obj {h : Heap} {l : Addr} {xs : Array Value} (q : SqH h l xs) : ∃ o, h.get? l = some o := by
  rcases q with ⟨o, ho, _⟩ | ⟨o, ho, _⟩ <;> exact ⟨o, ho⟩
def itName (h : Heap) (l : Addr) : String := match h.get? l with
  | some o => if o.cls = .type "tuple" then "tuple_iterator" else "list_iterator"
  | none => "list_iterator"
abbrev zq1 (h : Heap) (l1 : Addr) : Heap := h.push { cls := .type (itName h l1), data := .fields #[.ref l1, .int 0 0] }
abbrev zq2 (h : Heap) (l1 l2 : Addr) : Heap := (zq1 h l1).push { cls := .type (itName (zq1 h l1) l2), data := .fields #[.ref l2, .int 0 0] }
end
section
variable {X : Cx} {pins : List (Addr × Obj)} {σ : St} {H : Hp} {s : Shared}

def SqB (K : Frag) (t : Bool) (H : Hp) (a : Addr) (xs : List V) : Prop := match t with
  | true => SqT K H a xs
  | false => SqL K H a xs
def ItB (t : Bool) (h : Heap) (i a : Addr) (k : Nat) : Prop := match t with
  | true => h.IsTupleIter i a k
  | false => h.IsListIter i a k
theorem SqB.of {K : Frag} {H : Hp} {a : Addr} {xs : List V} (h : SqL K H a xs ∨ SqT K H a xs) : ∃ t, SqB K t H a xs := by
  rcases h with h | h
  · exact ⟨false, h⟩
  · exact ⟨true, h⟩
theorem ItB.keep {t : Bool} {h h' : Heap} {i a : Addr} {k : Nat} (q : ItB t h i a k) (e : ∀ o, h.get? i = some o → h'.get? i = some o) : ItB t h' i a k := by
  cases t
  · obtain ⟨o, ho, r⟩ := q; exact ⟨o, e o ho, r⟩
  · obtain ⟨o, ho, r⟩ := q; exact ⟨o, e o ho, r⟩
theorem ItB.obj {t : Bool} {h : Heap} {i a : Addr} {k : Nat} (q : ItB t h i a k) : ∃ o, h.get? i = some o ∧ ∃ v, o.data = .fields v := by
  cases t
  · obtain ⟨o, ho, _, d⟩ := q; exact ⟨o, ho, _, d⟩
  · obtain ⟨o, ho, _, d⟩ := q; exact ⟨o, ho, _, d⟩
def Itzq (K : Frag) (t u : Bool) (a b : Addr) : It :=
  ⟨fun i H => ∃ xs ys x y, SqB K t H a xs ∧ SqB K u H b ys ∧ xs[i]? = some x ∧ ys[i]? = some y,
   fun i H v H' => ∃ p x y, H p = none ∧ v = .ref p ∧ H' = upd H p (.tup [x, y]) ∧ (∀ xs, SqB K t H a xs → xs[i]? = some x) ∧ ∀ ys, SqB K u H b ys → ys[i]? = some y,
   fun i H => ∃ xs ys, SqB K t H a xs ∧ SqB K u H b ys ∧ (xs.length ≤ i ∨ ys.length ≤ i)⟩
def iZipQ (K : Frag) (ta : TA) : TI := fun σ H R => ta σ H fun vs H1 => ∃ a b t u xs ys, vs = [.ref a, .ref b] ∧ SqB K t H1 a xs ∧ SqB K u H1 b ys ∧ R (Itzq K t u a b) H1
end
end L2


set_option Elab.async false
set_option linter.all false
set_option maxRecDepth 100000
set_option maxHeartbeats 1000000
namespace L2
open PySem PySem.Spec PyProof.Rows PySem.W
theorem cut_m1 (xs : List V) : cutV xs (some (-1)) none = xs.drop (xs.length - 1) := by
  unfold cutV HT.sIx
  cases xs with
  | nil => simp
  | cons x r =>
    simp
    have e : (-1 + ((r.length : Int) + 1)).toNat = r.length := by omega
    rw [e]
    exact List.take_of_length_le (by simp)
end L2
namespace L2
open PySem PySem.Spec PyProof.Rows PySem.W
end L2


set_option Elab.async false
set_option linter.all false
set_option maxRecDepth 100000
set_option maxHeartbeats 1000000
namespace L2
open PySem PySem.Spec PyProof.Rows PySem.W

theorem map_range_nth {F : Nat → Int} {n k : Nat} (h : k < n) : nth ((List.range n).map F) k = F k := by simp [nth, List.getD_eq_getElem?_getD, h]
end L2
namespace L2
open PySem PySem.Spec PyProof.Rows PySem.W
end L2


set_option Elab.async false
set_option linter.all false
set_option maxRecDepth 100000
set_option maxHeartbeats 1000000
namespace L2
open PySem PySem.Spec PyProof.Rows PySem.W

end L2
namespace L2
open PySem PySem.Spec PyProof.Rows PySem.W
theorem eqd_nil {K : Frag} {Hx : Hp} {l q : Addr} {L : List Nat} (h1 : Hx l = some (.lst (natsV L))) (h2 : Hx q = some (.lst [])) : EqD K Hx 3 (V.ref l) (V.ref q) (decide (L = [])) := by
  have hh := eqp_lst (n := 2) (K := K) (H := Hx) eqp_int (V.ref l) (V.ref q) (L.map fun (q : Nat) => (q : Int)) [] (isL_ints (SqL.of (by rw [h1]; simp [natsV, Function.comp_def]))) (isL_ints (ns := []) (SqL.of h2))
  have e : decide (L.map (fun (q : Nat) => (q : Int)) = []) = decide (L = []) := by cases L <;> simp
  rw [e] at hh; exact hh
end L2
namespace L2
open PySem PySem.Spec PyProof.Rows PySem.W

def CDivL (i j : Int) : Prop := 0 < j ∧ j < 18446744073709551616
theorem op_fdivL {X : Cx} : OpR X (binaryOp .FloorDiv) (rI CDivL fun i j => .int (i / j)) := opI fun i j _ _ _ _ _ hc q => by
  have h1 : (0 : Int) < j := hc.1
  have h2 : j < 18446744073709551616 := hc.2
  refine floordiv_int (by omega) (by rw [Int.fdiv_eq_ediv_of_nonneg i (by omega)]; exact q) (.inl (PyProof.noPylong_of_log2 ?_))
  have h3 : j.natAbs < 2 ^ 64 := by omega
  have : j.natAbs.log2 < 64 := (Nat.log2_lt (by omega)).mpr h3
  omega
end L2
namespace L2
theorem snoc_cases {α : Type} (xs : List α) : xs = [] ∨ ∃ ys y, xs = ys ++ [y] := by
  rcases List.eq_nil_or_concat xs with h | ⟨ys, y, h⟩
  · exact .inl h
  · exact .inr ⟨ys, y, by rw [h, List.concat_eq_append]⟩
end L2
namespace L2
open PySem PySem.Spec PyProof.Rows PySem.W
end L2


set_option Elab.async false
set_option linter.all false
set_option maxRecDepth 100000
set_option maxHeartbeats 1000000
namespace L2
open PySem PySem.Spec PyProof.Rows PySem.W

def sw (d : Int) (k : Nat) : Int := if d ≤ k then d else 0
theorem sw_sw {d : Int} {a b : Nat} (h : a ≤ b) : sw (sw d b) a = sw d a := by
  unfold sw
  by_cases h1 : d ≤ b
  · rw [if_pos h1]
  · rw [if_neg h1, if_pos (by omega : (0 : Int) ≤ a), if_neg (by omega)]
theorem distN_cases (f : Nat → Int) (p : Nat) : (NoPrev f p ∧ distN f p = 0) ∨ ∃ q, IsPrev f p q ∧ distN f p = (p : Int) - q := by
  rcases prev_or f p with h | ⟨q, h⟩
  · exact .inl ⟨h, by unfold distN; rw [fenA_no h, if_neg (by omega)]⟩
  · exact .inr ⟨q, h, by unfold distN; rw [fenA_prev h, if_pos (by omega)]⟩
theorem distN_bounds (f : Nat → Int) (p : Nat) : 0 ≤ distN f p ∧ distN f p ≤ p := by
  rcases distN_cases f p with ⟨_, e⟩ | ⟨q, h, e⟩
  · omega
  · have := h.1; omega
theorem sw_self (f : Nat → Int) (p : Nat) : sw (distN f p) p = distN f p := if_pos (distN_bounds f p).2

theorem distN_shift {f g : Nat → Int} {x i : Nat} (h : ∀ k, k ≤ i → g k = f (x + k)) : distN g i = sw (distN f (x + i)) i := by
  rcases distN_cases f (x + i) with ⟨h1, e⟩ | ⟨q, h1, e⟩
  · have : NoPrev g i := fun k hk => by rw [h k (by omega), h i (Nat.le_refl _)]; exact h1 (x + k) (by omega)
    rw [e]
    rcases distN_cases g i with ⟨_, e2⟩ | ⟨r, h2, _⟩
    · rw [e2]; unfold sw; rw [if_pos (by omega)]
    · exact absurd this (fun z => h2.no z)
  · rw [e]
    obtain ⟨q1, q2, q3⟩ := h1
    unfold sw
    by_cases hx : x ≤ q
    · rw [if_pos (by omega)]
      have : IsPrev g i (q - x) := ⟨by omega, by rw [h _ (by omega), h i (Nat.le_refl _), show x + (q - x) = q by omega]; exact q2, fun r r1 r2 => by rw [h r (by omega), h i (Nat.le_refl _)]; exact q3 (x + r) (by omega) (by omega)⟩
      rcases distN_cases g i with ⟨h2, _⟩ | ⟨r, h2, e2⟩
      · exact (this.no h2).elim
      · have := h2.unique this; omega
    · rw [if_neg (by omega)]
      have : NoPrev g i := fun k hk => by rw [h k (by omega), h i (Nat.le_refl _)]; exact q3 (x + k) (by omega) (by omega)
      rcases distN_cases g i with ⟨_, e2⟩ | ⟨r, h2, _⟩
      · exact e2
      · exact (h2.no this).elim
theorem dist_cut {ns : List Int} {a c i : Nat} (h : i < c) : distN (nth (cutN ns a c)) i = sw (distN (nth ns) (a + i)) i := distN_shift fun k hk => cutN_nth (by omega)

def KinD (f g : Nat → Int) (m : Nat) : Prop := ∀ i, i < m → distN f i = distN g i

def Mt (f g : Nat → Int) (m p : Nat) : Prop := ∀ i, i < m → distN f i = sw (distN g (p - m + i)) i
theorem Mt.succ {f g : Nat → Int} {m p : Nat} (h : m ≤ p) : Mt f g (m + 1) (p + 1) ↔ Mt f g m p ∧ distN f m = sw (distN g p) m := by
  constructor
  · intro H
    refine ⟨fun i hi => ?_, ?_⟩
    · have := H i (by omega); rw [show p + 1 - (m + 1) + i = p - m + i by omega] at this; exact this
    · have := H m (by omega); rw [show p + 1 - (m + 1) + m = p by omega] at this; exact this
  · rintro ⟨H, h2⟩ i hi
    rw [show p + 1 - (m + 1) + i = p - m + i by omega]
    by_cases e : i = m
    · rw [e, show p - m + m = p by omega]; exact h2
    · exact H i (by omega)
theorem Mt.part {f g : Nat → Int} {m c p : Nat} (hm : m ≤ c) (hc : c ≤ p) (h : Mt f g c p) : Mt f g m p ↔ Mt f f m c := by
  have key : ∀ j, j < m → sw (distN f (c - m + j)) j = sw (distN g (p - m + j)) j := fun j hj => by
    have := h (c - m + j) (by omega)
    rw [this, show p - c + (c - m + j) = p - m + j by omega, sw_sw (by omega)]
  constructor
  · intro H j hj; rw [key j hj]; exact H j hj
  · intro H j hj; rw [← key j hj]; exact H j hj
theorem Mt.zero (f g : Nat → Int) (p : Nat) : Mt f g 0 p := fun i hi => absurd hi (by omega)
theorem Mt.self (f : Nat → Int) (m : Nat) : Mt f f m m := fun i hi => by rw [Nat.sub_self, Nat.zero_add, sw_self]
def IsBorder (f : Nat → Int) (k m : Nat) : Prop := m < k ∧ Mt f f m k ∧ ∀ j, m < j → j < k → ¬ Mt f f j k
theorem IsBorder.unique {f : Nat → Int} {k m j : Nat} (h : IsBorder f k m) (h' : IsBorder f k j) : m = j := by
  rcases Nat.lt_trichotomy m j with z | z | z
  · exact absurd h'.2.1 (h.2.2 j z h'.1)
  · exact z
  · exact absurd h.2.1 (h'.2.2 m z h.1)
theorem mt_zero_dist (f : Nat → Int) : distN f 0 = 0 := by have := distN_bounds f 0; omega
theorem sw_zero (d : Int) (h : 0 ≤ d) : sw d 0 = 0 := by unfold sw; split <;> omega

def Goes (f : Nat → Int) (n s : Nat) (d : Int) (m : Nat) : Prop := m ≤ s ∧ Mt f f m s ∧ m < n ∧ distN f m = sw d m ∧ ∀ j, m < j → j ≤ s → Mt f f j s → ¬ (j < n ∧ distN f j = sw d j)

def Walk (f : Nat → Int) (n s : Nat) (d : Int) (c : Nat) : Prop := c ≤ s ∧ Mt f f c s ∧ ∀ j, c < j → j ≤ s → Mt f f j s → ¬ (j < n ∧ distN f j = sw d j)
theorem Walk.start (f : Nat → Int) (n s : Nat) (d : Int) : Walk f n s d s := ⟨Nat.le_refl _, Mt.self f s, fun j h1 h2 => absurd h1 (by omega)⟩
theorem Walk.step {f : Nat → Int} {n s : Nat} {d : Int} {c b : Nat} (h : Walk f n s d c) (no : ¬ (c < n ∧ distN f c = sw d c)) (hb : IsBorder f c b) : Walk f n s d b := by
  obtain ⟨h1, h2, h3⟩ := h
  obtain ⟨b1, b2, b3⟩ := hb
  refine ⟨by omega, (Mt.part (by omega) h1 h2).mpr b2, fun j j1 j2 j3 => ?_⟩
  rcases Nat.lt_trichotomy j c with z | z | z
  · exact absurd ((Mt.part (by omega) h1 h2).mp j3) (b3 j j1 z)
  · rw [z]; exact no
  · exact h3 j z j2 j3
theorem Walk.goes {f : Nat → Int} {n s : Nat} {d : Int} {c : Nat} (h : Walk f n s d c) (ok : c < n ∧ distN f c = sw d c) : Goes f n s d c := ⟨h.1, h.2.1, ok.1, ok.2, h.2.2⟩

theorem border_next {f : Nat → Int} {n k b m : Nat} (hk : k < n) (hb : IsBorder f k b) (h : Goes f n b (distN f k) m) : IsBorder f (k + 1) (m + 1) := by
  obtain ⟨b1, b2, b3⟩ := hb
  obtain ⟨h1, h2, h3, h4, h5⟩ := h
  have hm : Mt f f m k := (Mt.part (by omega) (by omega) b2).mpr h2
  refine ⟨by omega, (Mt.succ (by omega)).mpr ⟨hm, h4⟩, fun j j1 j2 j3 => ?_⟩
  obtain ⟨i, rfl⟩ : ∃ i, j = i + 1 := ⟨j - 1, by omega⟩
  obtain ⟨j4, j5⟩ := (Mt.succ (by omega)).mp j3
  have ib : i ≤ b := by
    by_cases z : i ≤ b
    · exact z
    · exact absurd j4 (b3 i (by omega) (by omega))
  exact h5 i (by omega) ib ((Mt.part ib (by omega) b2).mp j4) ⟨by omega, j5⟩
theorem border_one (f : Nat → Int) : IsBorder f 1 0 := ⟨by omega, Mt.zero f f 1, fun j h1 h2 => absurd h1 (by omega)⟩

def IsLong (f g : Nat → Int) (n p m : Nat) : Prop := m ≤ n ∧ m ≤ p ∧ Mt f g m p ∧ ∀ j, m < j → j ≤ n → j ≤ p → ¬ Mt f g j p
theorem long_next {f g : Nat → Int} {n p s m : Nat} (hs : IsLong f g n p s) (h : Goes f n s (distN g p) m) : IsLong f g n (p + 1) (m + 1) := by
  obtain ⟨s1, s2, s3, s4⟩ := hs
  obtain ⟨h1, h2, h3, h4, h5⟩ := h
  have hm : Mt f g m p := (Mt.part h1 s2 s3).mpr h2
  refine ⟨by omega, by omega, (Mt.succ (by omega)).mpr ⟨hm, h4⟩, fun j j1 j2 j3 j4 => ?_⟩
  obtain ⟨i, rfl⟩ : ∃ i, j = i + 1 := ⟨j - 1, by omega⟩
  obtain ⟨j5, j6⟩ := (Mt.succ (by omega)).mp j4
  have ib : i ≤ s := by
    by_cases z : i ≤ s
    · exact z
    · exact absurd j5 (s4 i (by omega) (by omega) (by omega))
  exact h5 i (by omega) ib ((Mt.part ib s2 s3).mp j5) ⟨by omega, j6⟩
theorem long_zero (f g : Nat → Int) (n : Nat) : IsLong f g n 0 0 := ⟨by omega, by omega, Mt.zero f g 0, fun j h1 h2 h3 => absurd h1 (by omega)⟩

end L2
namespace L2
open PySem PySem.Spec PyProof.Rows PySem.W
theorem distI_nth {ns : List Int} {m : Nat} (h : m < ns.length) : nth (distI ns) m = distN (nth ns) m := map_range_nth h
theorem natsV_last {bs : List Nat} {i : Nat} (h : bs.length = i + 1) : atI (natsV bs) (-1) = some (V.int ((bs.getD i 0 : Nat) : Int)) := by
  refine atI_m1 (by rw [natsV_len]; omega) ?_
  rw [natsV_len, h, Nat.add_sub_cancel]
  simp [natsV, List.getD_eq_getElem?_getD, h]
end L2


set_option Elab.async false
set_option linter.all false
set_option maxRecDepth 100000
set_option maxHeartbeats 1000000
namespace L2
open PySem PySem.Spec PyProof.Rows PySem.W
end L2
namespace L2
end L2


set_option Elab.async false
set_option linter.all false
set_option maxRecDepth 100000
set_option maxHeartbeats 1000000
namespace L2
open PySem PySem.Spec PyProof.Rows PySem.W

structure FunD (K : PySem.W.Frag) (x qual : Str) (st : Stmt) (f : Addr) (fd : FuncData) (dV : Value) : Prop where
  ex : ∃ (oc : Value) (od : Option Addr) (kV doc pm : Value) (an : Option Addr) (cdv ct : Value) (osl : Array (Option Value)),
    fd = PySem.W.fnOf x qual (defArgs st) (defBody st) (defScope st) dV kV doc pm an cdv ct ∧ K.lookup f = some ⟨oc, od, .func fd, osl⟩ ∧ PySem.W.codeIn K cdv qual = true
  kp : PySem.W.keepIn K (.ref f) = true
section
variable {P : Program} {w : World} {K : PySem.W.Frag} {mg : Str → Option Value} {base : Heap}
theorem FunD.okX {x qual : Str} {st : Stmt} {f : Addr} {fd : FuncData} {dV : Value} {N ps : List Str} {k : Nat} {sp : Sp} (F : FunD K x qual st f fd dV) (S : FnScope N ps (defScope st)) (len : ∀ vs H Q E, sp vs H Q E → vs.length = ps.length)
    (hbody : ∀ (cdv : Value) (A : Around) (outer : List Env) (s : Shared) (H : Hp) (vs : List V) (Q : VK) (E : XK), Room k (A.deeper (envOfC qual (defScope st) s.heap.objs.size f cdv)) → sp vs H Q E →
      ∃ t, PSs (cxOf (CXE P w) P w K mg base N qual (defScope st) f cdv A outer s H E) (defBody st) t ∧ t { nx := fun _ H' => Q .non H', rt := Q } (start N vs) H) : FnOk P w K mg base (CXE P w) (k + 1) f fd ps sp := by
  obtain ⟨oc, od, kV, doc, pm, an, cdv, ct, osl, rfl, lk, hcd⟩ := F.ex
  exact fn_of lk hcd S len fun A outer s H vs Q E hr hsp => hbody cdv A outer s H vs Q E hr hsp
theorem FunD.binds {x qual : Str} {st : Stmt} {f : Addr} {fd : FuncData} {D : Addr} {ps : List Str} {ds : List Value} {oc : Value} {od : Option Addr} {items : Array Value} {ep : Nat} {sl : Array (Option Value)} (F : FunD K x qual st f fd (.ref D))
    (lk : K.lookup D = some ⟨oc, od, .seq items ep, sl⟩)
    (h : ∀ (kV doc pm : Value) (an : Option Addr) (cdv ct : Value) (us : List Value), (us ++ ds).length = ps.length → ∃ k, bindArgs (PySem.W.fnOf x qual (defArgs st) (defBody st) (defScope st) (.ref D) kV doc pm an cdv ct) ⟨us, []⟩ = seqItems? (.ref D) >>= k ∧ k (some items) = pure (ps.zip (us ++ ds))) : Binds K fd ps ds := by
  obtain ⟨oc, od, kV, doc, pm, an, cdv, ct, osl, rfl, lf, hcd⟩ := F.ex
  intro s us KX hl
  obtain ⟨k, h1, h2⟩ := h kV doc pm an cdv ct us hl
  exact BindsTo.of_defaults rfl (KX _ _ lk) rfl h1 h2
theorem fun_mkD {x qual : Str} {st : Stmt} {f : Addr} {oc : Value} {od an : Option Addr} {osl : Array (Option Value)} {dV kV doc pm cdv ct : Value} (l : K.lookup f = some ⟨oc, od, .func (PySem.W.fnOf x qual (defArgs st) (defBody st) (defScope st) dV kV doc pm an cdv ct), osl⟩)
    (c : PySem.W.codeIn K cdv qual = true) (k : PySem.W.keepIn K (.ref f) = true) : FunD K x qual st f (PySem.W.fnOf x qual (defArgs st) (defBody st) (defScope st) dV kV doc pm an cdv ct) dV := ⟨⟨oc, od, kV, doc, pm, an, cdv, ct, osl, rfl, l, c⟩, k⟩
end

def CalleeD (P : Program) (w : World) (K : Frag) (mg : Str → Option Value) (base : Heap) (x : Str) (k : Nat) (ps : List Str) (dvs : List V) (sp : Sp) : Prop :=
  ∃ f fd ds, mg x = some (.ref f) ∧ keepIn K (.ref f) = true ∧ Binds K fd ps ds ∧ Vals dvs ds ∧ FnOk P w K mg base (CXE P w) k f fd ps sp
theorem pe_callFD {X : Cx} {x : Str} {k : Nat} {ps : List Str} {dvs : List V} {sp : Sp} {E : XK} {e : Expr} {es : List Expr} {t : TA} {p pos : Pos} (C : CalleeD X.prog X.w X.K X.mg X.base x k ps dvs sp) (hr : Room k X.A) (hg : Gl X x) (hx : Passes (CXE X.prog X.w) X E)
    (ha : PA X (e :: es) t) (hdb : (x == ("__debug__" : Str)) = false := by decide) (he : starEach (e :: es) X.env = (false, eval e X.env) :: starEach es X.env := by rfl) (hpl : (backTo pos (starEach es X.env)).any (·.1) = false := by rfl) :
    PE X (.Call (.Name x p) (e :: es) [] pos) (tCall sp dvs E t) := by
  obtain ⟨f, fd, ds, hm, hk, hb, hv, F⟩ := C
  exact pe_call F hr hg hm hk hb hv hx ha hdb he hpl
end L2
namespace L2
open PySem PySem.Spec PyProof.Rows PySem.W
open Classical in

noncomputable def startsTo (f g : Nat → Int) (n p : Nat) : List Nat := (List.range (p + 1 - n)).filter fun s => decide (Mt f g n (s + n))
theorem mt_text {ns ms : List Int} {s : Nat} (h : s + ns.length ≤ ms.length) : KinD (nth ns) (nth (cutN ms s ns.length)) ns.length ↔ Mt (nth ns) (nth ms) ns.length (s + ns.length) := by
  have e2 : ∀ i, i < ns.length → distN (nth (cutN ms s ns.length)) i = sw (distN (nth ms) (s + ns.length - ns.length + i)) i := fun i hi => by rw [dist_cut hi, Nat.add_sub_cancel]
  constructor
  · intro h i hi; rw [← e2 i hi]; exact h i hi
  · intro h i hi; rw [e2 i hi]; exact h i hi
end L2


set_option Elab.async false
set_option linter.all false
set_option maxRecDepth 100000
set_option maxHeartbeats 1000000
namespace L2
open PySem PySem.Spec PyProof.Rows PySem.W

def RA (Z H : Hp) (l : Addr) (as : List Addr) (C : Nat) : Prop := H l = some (.lst (as.map V.ref)) ∧ l ∉ as ∧ Z l = none ∧ ∀ a ∈ as, Z a = none ∧ ∃ ns : List Int, H a = some (.lst (ns.map V.int)) ∧ ns.length ≤ C
open Classical in
noncomputable def intsOf (H : Hp) (a : Addr) : List Int := if h : ∃ ns : List Int, H a = some (.lst (ns.map V.int)) then Classical.choose h else []
theorem ints_inj {ns ms : List Int} (h : ns.map V.int = ms.map V.int) : ns = ms := by
  have := congrArg (List.map fun v => match v with | V.int i => i | _ => 0) h
  simpa [List.map_map, Function.comp_def] using this
theorem intsOf_eq {H : Hp} {a : Addr} {ns : List Int} (h : H a = some (.lst (ns.map V.int))) : intsOf H a = ns := by
  have e : ∃ ns : List Int, H a = some (.lst (ns.map V.int)) := ⟨ns, h⟩
  unfold intsOf
  rw [dif_pos e]
  have := Classical.choose_spec e
  exact ints_inj (HO.lst.inj (Option.some.inj (this.symm.trans h)))
theorem RA.rows {Z H : Hp} {l : Addr} {as : List Addr} {C : Nat} (R : RA Z H l as C) : ∃ rs : List (List Int), Rows H l rs ∧ rs.length = as.length ∧ ∀ x ∈ rs, x.length ≤ C := by
  obtain ⟨h1, h2, h3, h4⟩ := R
  refine ⟨as.map (intsOf H), ⟨as, h1, h2, by simp, fun i i1 i2 => ?_⟩, by simp, fun x hx => ?_⟩
  · obtain ⟨_, ns, e, _⟩ := h4 as[i] (List.getElem_mem _)
    rw [List.getElem_map, intsOf_eq e]; exact e
  · obtain ⟨a, ha, rfl⟩ := List.mem_map.mp hx
    obtain ⟨_, ns, e, hl⟩ := h4 a ha
    rw [intsOf_eq e]; exact hl
theorem RA.exc {Z H H' : Hp} {l p : Addr} {as : List Addr} {C : Nat} (R : RA Z H l as C) (e : Exc p H H') (hp : Z p ≠ none) : RA Z H' l as C :=
  ⟨e _ _ (fun z => hp (by rw [← z]; exact R.2.2.1)) R.1, R.2.1, R.2.2.1, fun a ha => ⟨(R.2.2.2 a ha).1, by
    obtain ⟨z, ns, h, hl⟩ := R.2.2.2 a ha
    exact ⟨ns, e _ _ (fun y => hp (by rw [← y]; exact z)) h, hl⟩⟩⟩
theorem RA.same {Z H H' : Hp} {l : Addr} {as : List Addr} {C : Nat} (R : RA Z H l as C) (s : Same H H') : RA Z H' l as C :=
  ⟨s _ _ R.1, R.2.1, R.2.2.1, fun a ha => ⟨(R.2.2.2 a ha).1, by
    obtain ⟨z, ns, h, hl⟩ := R.2.2.2 a ha
    exact ⟨ns, s _ _ h, hl⟩⟩⟩
theorem RA.mono {Z H : Hp} {l : Addr} {as : List Addr} {C D : Nat} (R : RA Z H l as C) (h : C ≤ D) : RA Z H l as D :=
  ⟨R.1, R.2.1, R.2.2.1, fun a ha => ⟨(R.2.2.2 a ha).1, by
    obtain ⟨z, ns, e, hl⟩ := R.2.2.2 a ha
    exact ⟨ns, e, by omega⟩⟩⟩

theorem RA.outer {Z H : Hp} {l : Addr} {as bs : List Addr} {C : Nat} (R : RA Z H l as C) (h : ∀ b ∈ bs, b ∈ as) : RA Z (upd H l (.lst (bs.map V.ref))) l bs C :=
  ⟨upd_same, fun z => R.2.1 (h _ z), R.2.2.1, fun a ha => ⟨(R.2.2.2 a (h a ha)).1, by
    obtain ⟨z, ns, e, hl⟩ := R.2.2.2 a (h a ha)
    exact ⟨ns, by rw [upd_ne (fun y => R.2.1 (by rw [← y]; exact h a ha))]; exact e, hl⟩⟩⟩

theorem RA.more {Z H : Hp} {l q : Addr} {as bs : List Addr} {C : Nat} {ns : List Int} (R : RA Z H l as C) (h : ∀ b ∈ bs, b ∈ as ∨ b = q) (hq : H q = some (.lst (ns.map V.int))) (zq : Z q = none) (hl : ns.length ≤ C) (nq : q ≠ l) : RA Z (upd H l (.lst (bs.map V.ref))) l bs C :=
  ⟨upd_same, fun z => (h _ z).elim R.2.1 (fun y => nq y.symm), R.2.2.1, fun a ha => by
    rcases h a ha with h1 | rfl
    · obtain ⟨z, ns, e, hl⟩ := R.2.2.2 a h1
      exact ⟨z, ns, by rw [upd_ne (fun y => R.2.1 (by rw [← y]; exact h1))]; exact e, hl⟩
    · exact ⟨zq, ns, by rw [upd_ne nq]; exact hq, hl⟩⟩

theorem RA.fresh {Z H : Hp} {l q u : Addr} {as bs : List Addr} {C : Nat} {ns : List Int} (R : RA Z H l as C) (h : ∀ b ∈ bs, b ∈ as ∨ b = q) (hq : H q = some (.lst (ns.map V.int))) (zq : Z q = none) (hl : ns.length ≤ C) (hu : H u = none) (zu : Z u = none) : RA Z (upd H u (.lst (bs.map V.ref))) u bs C := by
  have key : ∀ b ∈ bs, b ≠ u ∧ Z b = none ∧ ∃ ns : List Int, H b = some (.lst (ns.map V.int)) ∧ ns.length ≤ C := fun b hb => by
    rcases h b hb with h1 | rfl
    · obtain ⟨z, ns, e, hl⟩ := R.2.2.2 b h1
      exact ⟨ne_of_none e hu, z, ns, e, hl⟩
    · exact ⟨ne_of_none hq hu, zq, ns, hq, hl⟩
  exact ⟨upd_same, fun z => (key u z).1 rfl, zu, fun a ha => by
    obtain ⟨n, z, ns, e, hl⟩ := key a ha
    exact ⟨z, ns, by rw [upd_ne n]; exact e, hl⟩⟩

theorem RA.at {Z H : Hp} {l : Addr} {as : List Addr} {C i : Nat} (R : RA Z H l as C) (h : i < as.length) : ∃ (a : Addr) (ns : List Int), a ∈ as ∧ as[i]? = some a ∧ atI (as.map V.ref) (i : Int) = some (.ref a) ∧ H a = some (.lst (ns.map V.int)) ∧ ns.length ≤ C ∧ Z a = none ∧ a ≠ l := by
  obtain ⟨z, ns, e, hl⟩ := R.2.2.2 as[i] (List.getElem_mem _)
  refine ⟨as[i], ns, List.getElem_mem _, List.getElem?_eq_getElem h, ?_, e, hl, z, fun y => R.2.1 (by rw [← y]; exact List.getElem_mem _)⟩
  rw [atI_at rfl (by simpa using h)]; simp
theorem RA.from {Z H H' : Hp} {l p : Addr} {as : List Addr} {C : Nat} (R : RA H H' l as C) (e : Exc p Z H) (hp : H p ≠ none) : RA Z H' l as C :=
  ⟨R.1, R.2.1, e.free (fun z => hp (by rw [← z]; exact R.2.2.1)) R.2.2.1, fun a ha => ⟨e.free (fun z => hp (by rw [← z]; exact (R.2.2.2 a ha).1)) (R.2.2.2 a ha).1, (R.2.2.2 a ha).2⟩⟩
theorem RowsN.exc {Z H H' : Hp} {l p : Addr} {rs : List (List Int)} (R : RowsN Z H l rs) (e : Exc p H H') (hp : Z p ≠ none) : RowsN Z H' l rs := by
  obtain ⟨as, h1, h2, h3, h4, h5, h6⟩ := R
  exact ⟨as, e _ _ (fun z => hp (by rw [← z]; exact h5)) h1, h2, h3, fun i i1 i2 => e _ _ (fun z => hp (by rw [← z]; exact h6 _ (List.getElem_mem _))) (h4 i i1 i2), h5, h6⟩
theorem PoolAt.updN {H : Hp} {p q : Addr} {o : HO} (P : PoolAt H p) (h : q ≠ p) : PoolAt (L2.upd H q o) p := by
  obtain ⟨x, y, e, z⟩ := P
  exact ⟨x, y, by rw [upd_ne (fun w => h w.symm)]; exact e, z⟩
theorem IsL.mono {K : Frag} {H H' : Hp} {α : Type} {P P' : V → α → Prop} {v : V} {as : List α} (h : IsL K H P v as) (s : Same H H') (hp : ∀ x y, P x y → P' x y) : IsL K H' P' v as := by
  obtain ⟨a, xs, e, q, l, r⟩ := h
  exact ⟨a, xs, e, s.seq q, l, fun j x y h1 h2 => hp _ _ (r j x y h1 h2)⟩
theorem IsL2.same {K : Frag} {H H' : Hp} {v : V} {rs : List (List Int)} (h : IsL K H (IsL K H IsI) v rs) (s : Same H H') : IsL K H' (IsL K H' IsI) v rs := IsL.mono h s fun x y q => IsL.mono q s fun _ _ z => z
end L2


set_option Elab.async false
set_option linter.all false
set_option maxRecDepth 100000
set_option maxHeartbeats 1000000
namespace L2
open PySem PySem.Spec PyProof.Rows PySem.W

section
variable {X : Cx}
end

structure KindsOf (K : Frag) (mg : Str → Option Value) (C : Addr) (b : Nat → Bool) : Prop where
  z : ExK K C
  k0 : kitOne K (.ref C) (.ref (clsAt mg "Unlike")) = some (b 0)
  k1 : kitOne K (.ref C) (.ref (clsAt mg "Empty")) = some (b 1)
  k2 : kitOne K (.ref C) (.ref (clsAt mg "TooMany")) = some (b 2)
  k3 : kitOne K (.ref C) (.ref (clsAt mg "NoTree")) = some (b 3)
  k4 : kitOne K (.ref C) (.ref (clsAt mg "NoTelling")) = some (b 4)
  k5 : kitOne K (.ref C) (.ref (clsAt mg "NoPlace")) = some (b 5)
  k6 : kitOne K (.ref C) (.ref (clsAt mg "NoNumber")) = some (b 6)
  k7 : kitOne K (.ref C) (.ref (clsAt mg "NoPast")) = some (b 7)
  k8 : kitOne K (.ref C) (.ref (clsAt mg "NoText")) = some (b 8)
  k9 : kitOne K (.ref C) (.ref (clsAt mg "NoLine")) = some (b 9)
  kd : kitOne K (.ref C) (.ref (clsAt mg "DipError")) = some true
  kv : kitOne K (.ref C) (.type "ValueError") = some true
end L2


set_option Elab.async false
set_option linter.all false
set_option maxRecDepth 100000
set_option maxHeartbeats 1000000
namespace L2
open PySem PySem.Spec PyProof.Rows PySem.W

theorem low_step (f : Nat → Int) (a c : Nat) : lowF f a (c + 1) = if sw (distN f (a + c + 1)) (c + 1) = 0 then a + c + 1 else lowF f a c := by
  obtain ⟨l1, l2, l3, l4⟩ := lowF_is f a c
  rw [lowF]
  generalize lowF f a c = m at *
  rcases distN_cases f (a + c + 1) with ⟨h, e⟩ | ⟨q, ⟨q1, q2, q3⟩, e⟩
  · rw [e, if_pos (h m (by omega)), if_pos]
    unfold sw; split <;> rfl
  · rw [e]
    by_cases hq : a ≤ q
    · have hm : f m ≤ f q := by
        by_cases z : q < m
        · have := l3 q hq z; omega
        · by_cases y : q = m
          · rw [y]; exact Int.le_refl _
          · exact l4 q (by omega) (by omega)
      rw [if_neg (by omega), if_neg]
      unfold sw; rw [if_pos (by omega)]; omega
    · rw [if_pos (q3 m (by omega) (by omega)), if_pos]
      unfold sw; rw [if_neg (by omega)]
theorem KinD.lows {f g : Nat → Int} {n : Nat} (h : KinD f g n) : LowsEq f g n := by
  intro a c
  induction c with
  | zero => intro _; rfl
  | succ c ih => intro k; rw [low_step, low_step, ih (by omega), h (a + c + 1) (by omega)]
theorem LowsEq.kinD {f g : Nat → Int} {n : Nat} (h : LowsEq f g n) : KinD f g n := by
  intro i hi
  have key : ∀ k, 0 < k → k ≤ i → (sw (distN f i) k = 0 ↔ sw (distN g i) k = 0) := fun k k0 k1 => by
    have e := h (i - k) (k - 1 + 1) (by omega)
    rw [low_step, low_step] at e
    rw [show i - k + (k - 1) + 1 = i by omega, show k - 1 + 1 = k by omega] at e
    have b1 := (lowF_lt f (i - k) (k - 1)).2
    have b2 := (lowF_lt g (i - k) (k - 1)).2
    by_cases z : sw (distN f i) k = 0
    · rw [if_pos z] at e
      by_cases y : sw (distN g i) k = 0
      · exact ⟨fun _ => y, fun _ => z⟩
      · rw [if_neg y] at e; omega
    · rw [if_neg z] at e
      by_cases y : sw (distN g i) k = 0
      · rw [if_pos y] at e; omega
      · exact ⟨fun w => absurd w z, fun w => absurd w y⟩
  have b1 := distN_bounds f i
  have b2 := distN_bounds g i
  generalize distN f i = d at *
  generalize distN g i = d' at *
  apply Classical.byContradiction
  intro ne
  have main : ∀ x y : Int, 0 ≤ x → x ≤ i → 0 ≤ y → y ≤ i → (∀ k : Nat, 0 < k → k ≤ i → (sw x k = 0 ↔ sw y k = 0)) → ¬ x < y := fun x y x0 x1 y0 y1 kk hlt => by
    by_cases hx : x = 0
    · have := (kk y.toNat (by omega) (by omega)).mp (by rw [hx]; unfold sw; split <;> rfl)
      unfold sw at this
      rw [if_pos (by omega)] at this; omega
    · have := (kk x.toNat (by omega) (by omega)).mpr (by unfold sw; rw [if_neg (by omega)])
      unfold sw at this
      rw [if_pos (by omega)] at this; omega
  by_cases hlt : d < d'
  · exact main d d' b1.1 b1.2 b2.1 b2.2 key hlt
  · exact main d' d b2.1 b2.2 b1.1 b1.2 (fun k h1 h2 => (key k h1 h2).symm) (by omega)
def TupsAt (H : Hp) (l : Addr) (rs : List (List Int)) : Prop := ∃ as : List Addr, H l = some (.lst (as.map V.ref)) ∧ as.length = rs.length ∧ ∀ i (h1 : i < as.length) (h2 : i < rs.length), H as[i] = some (.tup (rs[i].map V.int))
theorem TupsAt.same {H H' : Hp} {l : Addr} {rs : List (List Int)} (R : TupsAt H l rs) (s : Same H H') : TupsAt H' l rs := by
  obtain ⟨as, h1, h2, h3⟩ := R
  exact ⟨as, s _ _ h1, h2, fun i i1 i2 => s _ _ (h3 i i1 i2)⟩
theorem TupsAt.nil {H : Hp} {l : Addr} (h : H l = some (.lst [])) : TupsAt H l [] := ⟨[], h, rfl, fun i i1 => absurd i1 (by simp)⟩
theorem TupsAt.push {H : Hp} {l t : Addr} {rs : List (List Int)} {r : List Int} {as : List Addr} (e : H l = some (.lst (as.map V.ref))) (hl : as.length = rs.length) (h : ∀ i (h1 : i < as.length) (h2 : i < rs.length), H as[i] = some (.tup (rs[i].map V.int))) (ht : H t = some (.tup (r.map V.int))) :
    TupsAt (upd H l (.lst (as.map V.ref ++ [V.ref t]))) l (rs ++ [r]) := by
  refine ⟨as ++ [t], by rw [upd_same]; simp, by simp [hl], fun i i1 i2 => ?_⟩
  have ne : ∀ (a : Addr) (xs : List V), H a = some (.tup xs) → a ≠ l := fun a xs h1 z => by rw [z, e] at h1; cases h1
  by_cases z : i < as.length
  · have h3 := h i z (by omega)
    rw [List.getElem_append_left z, List.getElem_append_left (show i < rs.length by omega), upd_ne (ne _ _ h3)]
    exact h3
  · have e1 : i = as.length := by simp at i1; omega
    subst e1
    rw [upd_ne (by simpa using ne _ _ ht)]
    simp [hl, ht]
end L2


set_option Elab.async false
set_option linter.all false
set_option maxRecDepth 100000
set_option maxHeartbeats 1000000
namespace L2
open PySem PySem.Spec PyProof.Rows PySem.W
def Once (k : Nat) (ss ls : List Int) : Prop := ss = ((List.range k).map fun (j : Nat) => (j : Int)).filter (fun j => decide (j ∉ ls)) ∧ ls = ((List.range k).map fun (j : Nat) => (j : Int)).filter (fun j => decide (j ∈ ls))
instance (k : Nat) (ss ls : List Int) : Decidable (Once k ss ls) := inferInstanceAs (Decidable (_ ∧ _))
theorem TupsAt.walk {K : Frag} {H1 : Hp} {d : Addr} {rs : List (List Int)} (R : TupsAt H1 d rs) : (∀ i H, Same H1 H → i < rs.length → (Itl K d).go i H) ∧ (∀ H, Same H1 H → (Itl K d).stop rs.length H) ∧
    ∀ i x H H' (h : i < rs.length), Same H1 H → (Itl K d).yld i H x H' → H' = H ∧ ∃ a, x = .ref a ∧ H a = some (.tup (rs[i].map V.int)) := by
  obtain ⟨as, e, hl, hh⟩ := R
  refine ⟨fun i H s hi => ⟨_, V.ref (as[i]'(by omega)), SqL.of (s _ _ e), by simp [show i < as.length by omega]⟩, fun H s => ⟨_, SqL.of (s _ _ e), by simp [hl]⟩, fun i x H H' hi s y => ?_⟩
  obtain ⟨e1, y⟩ := y
  have h1 := y _ (SqL.of (s _ _ e))
  rw [List.getElem?_map, List.getElem?_eq_getElem (show i < as.length by omega)] at h1
  cases h1
  exact ⟨e1, _, rfl, s _ _ (hh i (by omega) hi)⟩
theorem TupsAt.sq {K : Frag} {H : Hp} {l : Addr} {rs : List (List Int)} (R : TupsAt H l rs) : ∃ xs, SqL K H l xs := by
  obtain ⟨as, e, _⟩ := R
  exact ⟨_, SqL.of e⟩
theorem eqd_empty {K : Frag} {H : Hp} {n : Nat} {a c : Addr} {xs : List V} (h1 : H a = some (.lst xs)) (h2 : H c = some (.lst [])) : EqD K H (n + 1) (.ref a) (.ref c) (decide (xs = [])) := by
  cases xs with
  | nil =>
    have := EqD.lst (K := K) (H := H) (n := n) (fun _ => true) (SqL.of h1) (SqL.of h2) rfl fun j x y e1 e2 => by simp at e1
    simpa using this
  | cons x xs =>
    have := EqD.len (K := K) (H := H) (n := n) (SqL.of h1) (SqL.of h2) (by simp)
    simpa using this
end L2


set_option Elab.async false
set_option linter.all false
set_option maxRecDepth 100000
set_option maxHeartbeats 1000000
namespace L2
open PySem PySem.Spec PyProof.Rows PySem.W

theorem KinD.trans {f g h : Nat → Int} {n : Nat} (a : KinD f g n) (b : KinD g h n) : KinD f h n := fun i hi => (a i hi).trans (b i hi)
theorem kinD_trees {ns ms T : List Int} (h1 : TreeIs ns T) (h2 : TreeIs ms T) : KinD (nth ns) (nth ms) ns.length := by
  have e : ns.length = ms.length := h1.1.symm.trans h2.1
  exact ((kin_iff h1 h2).mpr ⟨e, rfl⟩).2.kinD
section
variable {X : Cx}
end
end L2


set_option Elab.async false
set_option linter.all false
set_option maxRecDepth 100000
set_option maxHeartbeats 1000000
namespace L2
open PySem PySem.Spec PyProof.Rows PySem.W

section
variable {N : Nat} {k : Nat → Int} {cmp : Nat → Nat → (Bool → Shared → Prop) → Shared → Prop} {s : Shared} {p : Array Nat}
def kk (k : Nat → Int) (p : Array Nat) (i : Nat) : Int := k (p.getD i 0)
def SoT (k : Nat → Int) (p : Array Nat) (m : Nat) : Prop := ∀ i j, i ≤ j → j < m → kk k p i ≤ kk k p j
def DeT (k : Nat → Int) (p : Array Nat) (m : Nat) : Prop := ∀ i j, i ≤ j → j < m → kk k p j ≤ kk k p i
def Bd (N : Nat) (p : Array Nat) : Prop := p.Perm (List.range N).toArray
theorem Bd.size (h : Bd N p) : p.size = N := by
  have := (Array.perm_iff_toList_perm.mp h).length_eq
  simpa using this
theorem Bd.lt (h : Bd N p) (hN : 0 < N) (i : Nat) : p.getD i 0 < N := by
  rw [Array.getD_eq_getD_getElem?]
  by_cases hi : i < p.size
  · rw [getElem?_pos p i hi]
    have := (Array.Perm.mem_iff h (a := p[i])).mp (Array.getElem_mem hi)
    simpa using this
  · rw [getElem?_neg p i hi]; exact hN
theorem SoT.next {m : Nat} (h : SoT k p m) (h1 : 1 ≤ m) (h2 : kk k p (m - 1) ≤ kk k p m) : SoT k p (m + 1) := by
  intro i j hij hj
  by_cases e : j = m
  · subst e
    by_cases e2 : i = j
    · rw [e2]; exact Int.le_refl _
    · exact Int.le_trans (h i (j - 1) (by omega) (by omega)) h2
  · exact h i j hij (by omega)
theorem DeT.next {m : Nat} (h : DeT k p m) (h1 : 1 ≤ m) (h2 : kk k p m ≤ kk k p (m - 1)) : DeT k p (m + 1) := by
  intro i j hij hj
  by_cases e : j = m
  · subst e
    by_cases e2 : i = j
    · rw [e2]; exact Int.le_refl _
    · exact Int.le_trans h2 (h i (j - 1) (by omega) (by omega))
  · exact h i j hij (by omega)
end
end L2


set_option Elab.async false
set_option linter.all false
set_option maxRecDepth 100000
set_option maxHeartbeats 1000000
namespace L2
open PySem PySem.Spec PyProof.Rows PySem.W

section
variable {prog : Program} {w : World} {E : Value → Shared → Prop} {s : Shared}
def Pr (h : Heap) (v : Value) (x y : Int) : Prop := ∃ a o n t u, v = .ref a ∧ h.get? a = some o ∧ o.cls = .type "tuple" ∧ o.data = .seq #[.int x t, .int y u] n
theorem Pr.keep {h h' : Heap} {v : Value} {x y : Int} (p : Pr h v x y) (k : ∀ b o, h.get? b = some o → h'.get? b = some o) : Pr h' v x y := by
  obtain ⟨a, o, n, t, u, e, g, r⟩ := p
  exact ⟨a, o, n, t, u, e, k _ _ g, r⟩
end
section
variable {X : Cx}
end
end L2


set_option Elab.async false
set_option linter.all false
set_option maxRecDepth 100000
set_option maxHeartbeats 1000000
namespace L2
open PySem PySem.Spec PyProof.Rows PySem.W

theorem spine_congr {f g : Nat → Int} {i : Nat} {S : List Nat} (h : ∀ q, q < i → f q = g q) (hs : Spine f i S) : Spine g i S := by
  refine ⟨hs.1, fun q => (hs.2 q).trans ⟨fun ⟨h1, h2⟩ => ⟨h1, fun r r1 r2 => by rw [← h q h1, ← h r r2]; exact h2 r r1 r2⟩, fun ⟨h1, h2⟩ => ⟨h1, fun r r1 r2 => by rw [h q h1, h r r2]; exact h2 r r1 r2⟩⟩⟩
theorem elder_congr {f g : Nat → Int} {i p : Nat} {e : Int} (h : ∀ q, q < i → f q = g q) (hp : p < i) (he : ElderIs f i p e) : ElderIs g i p e := by
  have c1 : NoPrev f p → NoPrev g p := fun z q hq => by rw [← h p hp, ← h q (by omega)]; exact z q hq
  have c2 : NoNext f i p → NoNext g i p := fun z r r1 r2 => by rw [← h p hp, ← h r r2]; exact z r r1 r2
  have c3 : ∀ q, IsPrev f p q → IsPrev g p q := fun q ⟨z1, z2, z3⟩ => ⟨z1, by rw [← h p hp, ← h q (by omega)]; exact z2, fun r r1 r2 => by rw [← h p hp, ← h r (by omega)]; exact z3 r r1 r2⟩
  have c4 : ∀ r, IsNext f i p r → IsNext g i p r := fun r ⟨z1, z2, z3, z4⟩ => ⟨z1, z2, by rw [← h p hp, ← h r z2]; exact z3, fun s s1 s2 => by rw [← h p hp, ← h s (by omega)]; exact z4 s s1 s2⟩
  rcases he with ⟨a, b, c⟩ | ⟨q, a, b, c⟩ | ⟨r, a, b, c⟩ | ⟨q, r, a, b, c⟩
  · exact .inl ⟨c1 a, c2 b, c⟩
  · exact .inr (.inl ⟨q, c3 q a, c2 b, c⟩)
  · exact .inr (.inr (.inl ⟨r, c1 a, c4 r b, c⟩))
  · exact .inr (.inr (.inr ⟨q, r, c3 q a, c4 r b, by rw [← h q (Nat.lt_trans a.1 hp), ← h r b.2.1]; exact c⟩))

def Hung (n i : Nat) (S : List Nat) (es : List Int) : Prop := ∃ f : Nat → Int, Spine f i S ∧ S.Pairwise (fun q r => f q + 2 ^ (n - i) ≤ f r) ∧ ∀ p, p < i → ElderIs f i p (es.getD p 0)
theorem Hung.lt {n i : Nat} {S : List Nat} {es : List Int} (h : Hung n i S es) : ∀ q ∈ S, q < i := by
  obtain ⟨f, hS, _⟩ := h
  exact fun q hq => ((hS.2 q).mp hq).1
theorem Hung.len {n i : Nat} {S : List Nat} {es : List Int} (h : Hung n i S es) : S.length ≤ i := by
  have hl := h.lt
  obtain ⟨f, hS, _⟩ := h
  rcases pw_len S i 0 hS.1 (fun q hq => ⟨Nat.zero_le _, hl q hq⟩) with z | z
  · omega
  · rw [z]; simp
theorem Hung.step {n i : Nat} {A B : List Nat} {es : List Int} (h : Hung n i (A ++ B) es) (hi : i < n) (hl : es.length = n) (he : es.getD i 0 = -1) : Hung n (i + 1) (A ++ [i]) (setE es A B i) := by
  have hlt := h.lt
  obtain ⟨f, hS, hg, hE⟩ := h
  have eD : (2 : Int) ^ (n - i) = 2 * 2 ^ (n - (i + 1)) := by
    rw [show n - i = n - (i + 1) + 1 by omega, Int.pow_succ, Int.mul_comm]
  have pD : (0 : Int) < 2 ^ (n - (i + 1)) := Int.pow_pos (by decide)
  rw [eD] at hg
  generalize hDD : (2 : Int) ^ (n - (i + 1)) = D at hg pD
  have hgA := (List.pairwise_append.mp hg).1
  have hgB := (List.pairwise_append.mp hg).2.1
  have hgX := (List.pairwise_append.mp hg).2.2
  obtain ⟨v, vA, vB⟩ : ∃ v : Int, (∀ q ∈ A, f q + D ≤ v) ∧ ∀ q ∈ B, v < f q := by
    cases B with
    | cons b Br =>
      refine ⟨f b - D, fun q hq => ?_, fun q hq => ?_⟩
      · have := hgX q hq b (by simp); omega
      · rcases List.mem_cons.mp hq with rfl | hq
        · omega
        · have := (List.pairwise_cons.mp hgB).1 q hq; omega
    | nil =>
      rcases snoc_cases A with rfl | ⟨A', a, rfl⟩
      · exact ⟨0, (fun q hq => by cases hq), fun q hq => by cases hq⟩
      · refine ⟨f a + D, fun q hq => ?_, fun q hq => by cases hq⟩
        rcases List.mem_append.mp hq with hq | hq
        · have := (List.pairwise_append.mp hgA).2.2 q hq a (by simp); omega
        · rw [List.mem_singleton.mp hq]; omega
  have hag : ∀ q, q < i → f q = (if q = i then v else f q) := fun q hq => by rw [if_neg (by omega)]
  have gi : (fun q => if q = i then v else f q) i = v := if_pos rfl
  have gq : ∀ q, q < i → (fun q => if q = i then v else f q) q = f q := fun q hq => if_neg (by omega)
  generalize (fun q => if q = i then v else f q) = g at gi gq
  have hag : ∀ q, q < i → f q = g q := fun q hq => (gq q hq).symm
  have lA : ∀ q ∈ A, q < i := fun q hq => hlt q (List.mem_append_left _ hq)
  have lB : ∀ q ∈ B, q < i := fun q hq => hlt q (List.mem_append_right _ hq)
  have SS := spine_step (f := g) (i := i) (A := A) (B := B) (spine_congr hag hS) (fun q hq => by rw [gi, gq q (lA q hq)]; have := vA q hq; omega) (fun q hq => by rw [gi, gq q (lB q hq)]; exact vB q hq)
  refine ⟨g, SS.1, ?_, fun p hp => ?_⟩
  · rw [hDD]
    refine List.pairwise_append.mpr ⟨?_, List.pairwise_singleton _ _, fun q hq r hr => ?_⟩
    · refine hgA.imp_of_mem fun {q r} hq hr z => ?_
      rw [gq q (lA q hq), gq r (lA r hr)]; omega
    · rw [List.mem_singleton.mp hr, gi, gq q (lA q hq)]; exact vA q hq
  · have hbi : ∀ b, B.head? = some b → b ≠ i := fun b hb => by
      have := lB b (List.mem_of_head? hb); omega
    rw [setE_at _ _ _ _ _ (by omega) hbi]
    by_cases z : p = i
    · subst z
      rw [if_pos rfl, he]; exact SS.2.1
    · rw [if_neg z]
      exact SS.2.2 p _ (by omega) (elder_congr hag (by omega) (hE p (by omega)))
theorem Hung.tree {n : Nat} {S : List Nat} {es : List Int} (h : Hung n n S es) (hl : es.length = n) : ∃ ns, TreeIs ns es := by
  obtain ⟨f, _, _, hE⟩ := h
  refine ⟨(List.range n).map f, by simp [hl], fun p hp => ?_⟩
  have hp : p < n := by simpa using hp
  have := hE p hp
  rw [show ((List.range n).map f).length = n by simp]
  exact elder_congr (f := f) (fun q hq => (map_range_nth hq).symm) hp this
end L2
namespace L2
open PySem PySem.Spec PyProof.Rows PySem.W
section
variable {X : Cx}
end
end L2
namespace L2
open PySem PySem.Spec PyProof.Rows PySem.W
theorem TupsAt.keep {H H' : Hp} {l : Addr} {rs : List (List Int)} (R : TupsAt H l rs) (h1 : ∀ xs, H l = some (.lst xs) → H' l = some (.lst xs)) (h2 : ∀ a xs, H a = some (.tup xs) → H' a = some (.tup xs)) : TupsAt H' l rs := by
  obtain ⟨as, e, hl, h⟩ := R
  exact ⟨as, h1 _ e, hl, fun i i1 i2 => h2 _ _ (h i i1 i2)⟩
theorem TupsAt.exc {H H' : Hp} {l p : Addr} {rs : List (List Int)} (R : TupsAt H l rs) (e : Exc p H H') (P : PoolAt H p) (n : l ≠ p) : TupsAt H' l rs := by
  obtain ⟨x, y, hp, _⟩ := P
  exact R.keep (fun xs h => e _ _ n h) fun a xs h => e _ _ (fun z => by rw [z, hp] at h; cases h) h
end L2


set_option Elab.async false
set_option linter.all false
set_option maxRecDepth 100000
set_option maxHeartbeats 1000000
namespace L2
open PySem PySem.Spec PyProof.Rows PySem.W

end L2


set_option Elab.async false
set_option linter.all false
set_option maxRecDepth 100000
set_option maxHeartbeats 1000000
namespace L2
open PySem PySem.Spec PyProof.Rows PySem.W

theorem next_or (f : Nat → Int) (n p : Nat) : NoNext f n p ∨ ∃ r, IsNext f n p r := by
  by_cases h : ∀ j, j < n - (p + 1) → f p ≤ f (p + 1 + j)
  · exact .inl fun r h1 h2 => by
      have := h (r - (p + 1)) (by omega)
      rwa [show p + 1 + (r - (p + 1)) = r by omega] at this
  · obtain ⟨j, hj, h1, h2⟩ := first_not _ h
    refine .inr ⟨p + 1 + j, by omega, by omega, by omega, fun s s1 s2 => ?_⟩
    have := h2 (s - (p + 1)) (by omega)
    rwa [show p + 1 + (s - (p + 1)) = s by omega] at this
end L2


set_option Elab.async false
set_option linter.all false
set_option maxRecDepth 100000
set_option maxHeartbeats 1000000
namespace L2
open PySem PySem.Spec PyProof.Rows PySem.W

section
variable {X : Cx}
end

def rSlU (K : Frag) : V → Option Int → Option Int → Hp → VK → Prop := fun x lo hi H Q => ∃ a xs, x = .ref a ∧ SqT K H a xs ∧ ∀ p H', Same H H' → SqT K H' p (cutV xs lo hi) → Q (.ref p) H'
theorem TupsAt.at {K : Frag} {H : Hp} {l : Addr} {rs : List (List Int)} {p : Nat} (R : TupsAt H l rs) (h : p < rs.length) : ∃ xs a, SqL K H l xs ∧ atI xs (p : Int) = some (V.ref a) ∧ H a = some (.tup (rs[p].map V.int)) := by
  obtain ⟨as, e, hl, ht⟩ := R
  refine ⟨as.map V.ref, as[p]'(by omega), SqL.of e, ?_, ht p (by omega) h⟩
  rw [atI_at rfl (by rw [List.length_map]; omega)]; simp

end L2


set_option Elab.async false
set_option linter.all false
set_option maxRecDepth 100000
set_option maxHeartbeats 1000000
namespace L2
open PySem PySem.Spec PyProof.Rows PySem.W

def NextAt (f : Nat → Int) (p k : Nat) : Prop := p < k ∧ f k < f p ∧ ∀ s, p < s → s < k → f p ≤ f s
open Classical in

noncomputable def dropAt (f : Nat → Int) (k : Nat) : Nat := (List.range k).countP fun p => decide (NextAt f p k)
theorem count_mem {B : List Nat} {n : Nat} (hB : B.Nodup) (hlt : ∀ q ∈ B, q < n) : (List.range n).countP (fun p => decide (p ∈ B)) = B.length := by
  rw [List.countP_eq_length_filter]
  refine List.Perm.length_eq ((List.perm_ext_iff_of_nodup (List.nodup_range.filter _) hB).mpr fun a => ?_)
  rw [List.mem_filter, List.mem_range, decide_eq_true_iff]
  exact ⟨fun h => h.2, fun h => ⟨hlt a h, h⟩⟩
theorem spine_drop {f : Nat → Int} {i : Nat} {A B : List Nat} (hs : Spine f i (A ++ B)) (hA : ∀ q ∈ A, f q ≤ f i) (hB : ∀ q ∈ B, f i < f q) : dropAt f i = B.length := by
  have hm : ∀ p, NextAt f p i ↔ p ∈ B := fun p => by
    constructor
    · rintro ⟨h1, h2, h3⟩
      rcases List.mem_append.mp ((hs.2 p).mpr ⟨h1, h3⟩) with z | z
      · have := hA p z; omega
      · exact z
    · intro z
      obtain ⟨h1, h2⟩ := (hs.2 p).mp (List.mem_append_right _ z)
      exact ⟨h1, hB p z, h2⟩
  have nd : B.Nodup := (List.pairwise_append.mp hs.1).2.1.imp fun h => Nat.ne_of_lt h
  have hlt : ∀ q ∈ B, q < i := fun q hq => ((hs.2 q).mp (List.mem_append_right _ hq)).1
  unfold dropAt
  rw [← count_mem nd hlt]
  refine List.countP_congr fun p _ => ?_
  simp [hm p]
theorem dropAt_congr {f g : Nat → Int} {k : Nat} (h : ∀ q, q ≤ k → f q = g q) : dropAt f k = dropAt g k := by
  unfold dropAt
  refine List.countP_congr fun p hp => ?_
  have hp := List.mem_range.mp hp
  simp only [decide_eq_true_eq]
  constructor
  · rintro ⟨a, b, c⟩
    exact ⟨a, by rw [← h k (Nat.le_refl _), ← h p (by omega)]; exact b, fun s s1 s2 => by rw [← h p (by omega), ← h s (by omega)]; exact c s s1 s2⟩
  · rintro ⟨a, b, c⟩
    exact ⟨a, by rw [h k (Nat.le_refl _), h p (by omega)]; exact b, fun s s1 s2 => by rw [h p (by omega), h s (by omega)]; exact c s s1 s2⟩
def HungD (n i : Nat) (S : List Nat) (es : List Int) (ds : List Nat) : Prop := ∃ f : Nat → Int, Spine f i S ∧ S.Pairwise (fun q r => f q + 2 ^ (n - i) ≤ f r) ∧ (∀ p, p < i → ElderIs f i p (es.getD p 0)) ∧ ∀ k, k < i → dropAt f k = ds.getD k 0
theorem HungD.lt {n i : Nat} {S ds : List Nat} {es : List Int} (h : HungD n i S es ds) : ∀ q ∈ S, q < i := by
  obtain ⟨f, hS, _⟩ := h
  exact fun q hq => ((hS.2 q).mp hq).1
theorem HungD.step {n i : Nat} {A B ds : List Nat} {es : List Int} (h : HungD n i (A ++ B) es ds) (hi : i < n) (hl : es.length = n) (he : es.getD i 0 = -1) (hd : ds.getD i 0 = B.length) : HungD n (i + 1) (A ++ [i]) (setE es A B i) ds := by
  have hlt := h.lt
  obtain ⟨f, hS, hg, hE, hD⟩ := h
  have eD : (2 : Int) ^ (n - i) = 2 * 2 ^ (n - (i + 1)) := by
    rw [show n - i = n - (i + 1) + 1 by omega, Int.pow_succ, Int.mul_comm]
  have pD : (0 : Int) < 2 ^ (n - (i + 1)) := Int.pow_pos (by decide)
  rw [eD] at hg
  generalize hDD : (2 : Int) ^ (n - (i + 1)) = D at hg pD
  have hgA := (List.pairwise_append.mp hg).1
  have hgB := (List.pairwise_append.mp hg).2.1
  have hgX := (List.pairwise_append.mp hg).2.2
  obtain ⟨v, vA, vB⟩ : ∃ v : Int, (∀ q ∈ A, f q + D ≤ v) ∧ ∀ q ∈ B, v < f q := by
    cases B with
    | cons b Br =>
      refine ⟨f b - D, fun q hq => ?_, fun q hq => ?_⟩
      · have := hgX q hq b (by simp); omega
      · rcases List.mem_cons.mp hq with rfl | hq
        · omega
        · have := (List.pairwise_cons.mp hgB).1 q hq; omega
    | nil =>
      rcases snoc_cases A with rfl | ⟨A', a, rfl⟩
      · exact ⟨0, (fun q hq => by cases hq), fun q hq => by cases hq⟩
      · refine ⟨f a + D, fun q hq => ?_, fun q hq => by cases hq⟩
        rcases List.mem_append.mp hq with hq | hq
        · have := (List.pairwise_append.mp hgA).2.2 q hq a (by simp); omega
        · rw [List.mem_singleton.mp hq]; omega
  have gi : (fun q => if q = i then v else f q) i = v := if_pos rfl
  have gq : ∀ q, q < i → (fun q => if q = i then v else f q) q = f q := fun q hq => if_neg (by omega)
  generalize (fun q => if q = i then v else f q) = g at gi gq
  have hag : ∀ q, q < i → f q = g q := fun q hq => (gq q hq).symm
  have lA : ∀ q ∈ A, q < i := fun q hq => hlt q (List.mem_append_left _ hq)
  have lB : ∀ q ∈ B, q < i := fun q hq => hlt q (List.mem_append_right _ hq)
  have sA : ∀ q ∈ A, g q ≤ g i := fun q hq => by rw [gi, gq q (lA q hq)]; have := vA q hq; omega
  have sB : ∀ q ∈ B, g i < g q := fun q hq => by rw [gi, gq q (lB q hq)]; exact vB q hq
  have SS := spine_step (f := g) (i := i) (A := A) (B := B) (spine_congr hag hS) sA sB
  refine ⟨g, SS.1, ?_, fun p hp => ?_, fun k hk => ?_⟩
  · rw [hDD]
    refine List.pairwise_append.mpr ⟨?_, List.pairwise_singleton _ _, fun q hq r hr => ?_⟩
    · refine hgA.imp_of_mem fun {q r} hq hr z => ?_
      rw [gq q (lA q hq), gq r (lA r hr)]; omega
    · rw [List.mem_singleton.mp hr, gi, gq q (lA q hq)]; exact vA q hq
  · have hbi : ∀ b, B.head? = some b → b ≠ i := fun b hb => by
      have := lB b (List.mem_of_head? hb); omega
    rw [setE_at _ _ _ _ _ (by omega) hbi]
    by_cases z : p = i
    · subst z
      rw [if_pos rfl, he]; exact SS.2.1
    · rw [if_neg z]
      exact SS.2.2 p _ (by omega) (elder_congr hag (by omega) (hE p (by omega)))
  · by_cases z : k = i
    · subst z
      rw [hd]; exact spine_drop (spine_congr hag hS) sA sB
    · rw [← dropAt_congr (f := f) (g := g) (k := k) (fun q hq => hag q (by omega))]
      exact hD k (by omega)

end L2


set_option Elab.async false
set_option linter.all false
set_option maxRecDepth 100000
set_option maxHeartbeats 1000000
namespace L2
open PySem PySem.Spec PyProof.Rows PySem.W

end L2
namespace L2
open PySem PySem.Spec PyProof.Rows PySem.W

section
variable {prog : Program} {w : World} {A : Around} {E : Value → Shared → Prop} {s : Shared}
end
section
variable {X : Cx} {tg : Expr}
end
end L2
namespace L2

end L2


set_option Elab.async false
set_option linter.all false
set_option maxRecDepth 100000
set_option maxHeartbeats 1000000
namespace L2
open PySem PySem.Spec PyProof.Rows PySem.W
section
variable {X : Cx}

end

end L2
namespace L2
open PySem PySem.Spec PyProof.Rows PySem.W
end L2
namespace L2
open PySem PySem.Spec PyProof.Rows PySem.W

end L2


set_option Elab.async false
set_option linter.all false
set_option maxRecDepth 100000
set_option maxHeartbeats 1000000
namespace L2
open PySem PySem.Spec PyProof.Rows PySem.W
section
variable {X : Cx}

end
end L2


set_option Elab.async false
set_option linter.all false
set_option maxRecDepth 100000
set_option maxHeartbeats 1000000
namespace L2
open PySem PySem.Spec PyProof.Rows PySem.W
section
variable {X : Cx}

end

end L2


set_option Elab.async false
set_option linter.all false
set_option maxRecDepth 100000
set_option maxHeartbeats 1000000
namespace L2

def Ok : Nat → List Nat → Prop
  | _, [] => True
  | st, d :: ds => d ≤ st ∧ Ok (st - d + 1) ds
end L2
namespace L2

end L2
namespace L2
end L2
namespace L2
open PySem PySem.Spec PyProof.Rows PySem.W
end L2


set_option Elab.async false
set_option linter.all false
set_option maxRecDepth 100000
set_option maxHeartbeats 1000000
namespace L2
open PySem PySem.Spec PyProof.Rows PySem.W

section
variable {X : Cx}
end
end L2


set_option Elab.async false
set_option linter.all false
set_option maxRecDepth 100000
set_option maxHeartbeats 1000000
namespace L2
end L2


set_option Elab.async false
set_option linter.all false
set_option maxRecDepth 100000
set_option maxHeartbeats 1000000

namespace L2
open PySem PySem.Spec PyProof.Rows PySem.W
end L2


set_option Elab.async false
set_option linter.all false
set_option maxRecDepth 100000
set_option maxHeartbeats 1000000

namespace L2
open PySem PySem.Spec PyProof.Rows PySem.W
section
variable {X : Cx}
end
end L2
namespace L2
open PySem PySem.Spec PyProof.Rows PySem.W

abbrev cds (x : Str) : List Nat := x.cps.toList
def dg (m : Nat) : List Nat := (Nat.toDigits 10 m).map Char.toNat
def numS (i : Int) : Str := Str.ofString (toString i)
structure NumFacts (i : Int) : Prop where
  len : (numS i).length ≤ 61
  fig : ∃ m, cds (Txt.removeprefix (numS i) (Str.ofString "-")) = dg m ∧ (m = 0 → i = 0) ∧ m < 10 ^ 60
  val : PySem.intText? (numS i) = some i
end L2


set_option Elab.async false
set_option linter.all false
set_option maxRecDepth 100000
set_option maxHeartbeats 1000000

namespace L2
open PySem PySem.Spec PyProof.Rows PySem.W

def CalleeI (P : Program) (w : World) (K : Frag) (mg : Str → Option Value) (base : Heap) (c : Str) (k : Nat) (ps : List Str) (sp : Sp) : Prop :=
  ∃ f fd, Mk K (clsAt mg c) f ∧ mg c = some (.ref (clsAt mg c)) ∧ Binds K fd ps [] ∧ FnOk P w K mg base (CXE P w) k f fd ps sp

def CalleeM (P : Program) (w : World) (K : Frag) (mg : Str → Option Value) (base : Heap) (c m : Str) (k : Nat) (ps : List Str) (sp : Sp) : Prop :=
  ∃ f fd, Cls K (clsAt mg c) ∧ Meth K (clsAt mg c) m f ∧ Binds K fd ps [] ∧ FnOk P w K mg base (CXE P w) k f fd ps sp
section
variable {X : Cx} {a : Expr} {ta : TE} {pos : Pos}

def tFldC (C : Addr) (ta : TE) (f : Str) : TE := fun σ H Q => ta σ H fun x H1 => ∃ (o dx : Addr) (fs : List (Str × V)) (v : V), x = .ref o ∧ H1 o = some (.ins C dx fs) ∧ fs.lookup f = some v ∧ Q v H1
theorem pe_fldC {K : Frag} {C : Addr} {f : Str} (hK : X.K = K) (c : Cls K C) (n : NoAttr K C f) (he : PE X a ta) (hb : attributeBase a f X.env (eval a X.env) = eval a X.env := by rfl) : PE X (.Attribute a f pos) (tFldC C ta f) := by
  subst hK
  intro pins s σ H Q I h
  refine attr_of hb (thn (he pins s σ H _ I h) fun u s1 ⟨x, H1, I1, rx, o, dx, fs, v, ex, ea, l, q⟩ => ?_)
  subst ex
  obtain rfl : u = Value.ref o := rx
  exact getattr_ok I1 ea c n l fun u' s2 I2 ru => ⟨v, H1, I2, ru, q⟩

def sFldC (C : Addr) (ta tv : TE) (f : Str) : TS := fun D σ H => tv σ H fun y H1 => ta σ H1 fun x H2 => ∃ (o dx : Addr) (fs : List (Str × V)), x = .ref o ∧ H2 o = some (.ins C dx fs) ∧ fs.length < 1000 ∧ D.nx σ (upd H2 o (.ins C dx (putF f y fs)))
theorem ps_fldC {K : Frag} {C : Addr} {f : Str} {value : Expr} {tv : TE} {pos' : Pos} (hK : X.K = K) (c : Cls K C) (n : NoAttr K C f) (ha : PE X a ta) (hv : PE X value tv) (hs : swapsWith value (some (.Attribute a f pos')) pos.line X.env = pure false := by rfl) : PS X (.Assign [.Attribute a f pos'] value pos) (sFldC C ta tv f) := by
  subst hK
  intro pins s σ H D I h
  refine plainObj_wpAny_Assign_Attribute (thn (hv pins s σ H _ I h) fun u s1 ⟨y, H1, I1, ry, q⟩ => thn (ha pins s1 σ H1 _ I1 q) fun ov s2 ⟨x, H2, I2, rx, o, dx, fs, ex, ea, l, q2⟩ => ?_) hs
  subst ex
  obtain rfl : ov = Value.ref o := rx
  exact setattr_ok I2 ea c n l ry fun s3 I3 => ⟨σ, _, I3, q2⟩
theorem pe_makeF {x : Str} {k : Nat} {ps : List Str} {sp : Sp} {E : XK} {e : Expr} {es : List Expr} {t : TA} {p : Pos} {mg : Str → Option Value} (hmg : X.mg = mg) (C : CalleeI X.prog X.w X.K mg X.base x k ps sp) (hr : Room (k + 1) X.A) (hg : Gl X x) (hx : Passes (CXE X.prog X.w) X E)
    (ha : PA X (e :: es) t) (hdb : (x == ("__debug__" : Str)) = false := by decide) (he : starEach (e :: es) X.env = (false, eval e X.env) :: starEach es X.env := by rfl) (hpl : (backTo pos (starEach es X.env)).any (·.1) = false := by rfl) :
    PE X (.Call (.Name x p) (e :: es) [] pos) (tMake (clsAt mg x) sp [] E t) := by
  subst hmg
  obtain ⟨f, fd, hM, hm, hb, F⟩ := C
  exact pe_make hM F hr hg hm hb .nil hx ha hdb he hpl
theorem pe_methF {c m : Str} {k : Nat} {ps : List Str} {sp : Sp} {E : XK} {e : Expr} {es : List Expr} {t : TA} {apos : Pos} {mg : Str → Option Value} (hmg : X.mg = mg) {pl : Sem Bool} (C : CalleeM X.prog X.w X.K mg X.base c m k ps sp) (hr : Room k X.A) (hx : Passes (CXE X.prog X.w) X E) (he : PE X a ta)
    (ha : PA X (e :: es) t) (hst : starEach (e :: es) X.env = (false, eval e X.env) :: starEach es X.env := by rfl) (hpl : (backTo pos (starEach es X.env)).any (·.1) = false := by rfl)
    (ht : eval (.Call (.Attribute a m apos) (e :: es) [] pos) X.env = (do
      let ov ← eval a X.env
      standAt apos.atName
      let (f, first) ← holding [ov] (getMethod ov m pl)
      callWith pos f first (backTo pos (starEach (e :: es) X.env)) (backToKw pos (keywordEach [] X.env))) := by rfl) :
    PE X (.Call (.Attribute a m apos) (e :: es) [] pos) (tMeth (clsAt mg c) m sp [] E ta t) := by
  subst hmg
  obtain ⟨f, fd, hc, hm, hb, F⟩ := C
  exact pe_meth he hc hm F hr hb .nil hx ha hst hpl ht
theorem pe_methF0 {c m : Str} {k : Nat} {ps : List Str} {sp : Sp} {E : XK} {apos : Pos} {mg : Str → Option Value} (hmg : X.mg = mg) {pl : Sem Bool} (C : CalleeM X.prog X.w X.K mg X.base c m k ps sp) (hr : Room k X.A) (hx : Passes (CXE X.prog X.w) X E) (he : PE X a ta)
    (ht : eval (.Call (.Attribute a m apos) [] [] pos) X.env = (do
      let ov ← eval a X.env
      standAt apos.atName
      let (f, first) ← holding [ov] (getMethod ov m pl)
      callWith pos f first (backTo pos (starEach [] X.env)) (backToKw pos (keywordEach [] X.env))) := by rfl) :
    PE X (.Call (.Attribute a m apos) [] [] pos) (tMeth (clsAt mg c) m sp [] E ta tNil) := by
  subst hmg
  obtain ⟨f, fd, hc, hm, hb, F⟩ := C
  exact pe_meth0 he hc hm F hr hb .nil hx ht
end
end L2


set_option Elab.async false
set_option linter.all false
set_option maxRecDepth 100000
set_option maxHeartbeats 1000000
namespace L2
open PySem PySem.Spec PyProof.Rows

section
variable {κ : Type} [DecidableEq κ]
def valV (kvs : List (κ × V)) (k : κ) : Option V := (kvs.find? fun kv => decide (kv.1 = k)).map (·.2)

def putK (kvs : List (κ × V)) (k : κ) (v : V) : List (κ × V) :=
  if (kvs.any fun kv => decide (kv.1 = k)) = true then kvs.map (fun kv => if kv.1 = k then (kv.1, v) else kv) else kvs ++ [(k, v)]
def dropK (kvs : List (κ × V)) (k : κ) : List (κ × V) := kvs.filter fun kv => decide (kv.1 ≠ k)

theorem valV_pos {p : κ × V} {r : List (κ × V)} {k : κ} (e : p.1 = k) : valV (p :: r) k = some p.2 := by simp [valV, List.find?_cons, e]
theorem valV_neg {p : κ × V} {r : List (κ × V)} {k : κ} (e : ¬ p.1 = k) : valV (p :: r) k = valV r k := by simp [valV, List.find?_cons, e]
theorem RelO.getD {o : Option V} {u : Option Value} {d : V} {d' : Value} (r : RelO o u) (rd : RelV d d') : RelV (o.getD d) (u.getD d') := by
  cases o with
  | none => cases u with
    | none => exact rd
    | some _ => exact (show False from r).elim
  | some _ => cases u with
    | none => exact (show False from r).elim
    | some _ => exact r


theorem KV.val {kvs : List (κ × V)} {vs : List (κ × Value)} (r : KV kvs vs) (k : κ) : RelO (valV kvs k) (valueAt vs k) := by
  unfold KV at r
  induction r with
  | nil => exact True.intro
  | @cons p q ps qs h t ih =>
    obtain ⟨h1, h2⟩ := h
    by_cases e : p.1 = k
    · have e' : q.1 = k := h1.symm.trans e
      have b : valueAt (q :: qs) k = some q.2 := by simp [valueAt, List.find?_cons, e']
      rw [valV_pos e, b]; exact h2
    · have e' : ¬ q.1 = k := fun z => e (h1.trans z)
      have b : valueAt (q :: qs) k = valueAt qs k := by simp [valueAt, List.find?_cons, e']
      rw [valV_neg e, b]; exact ih
theorem KV.any {kvs : List (κ × V)} {vs : List (κ × Value)} (r : KV kvs vs) (k : κ) : (kvs.any fun kv => decide (kv.1 = k)) = vs.any fun kv => decide (kv.1 = k) := by
  unfold KV at r
  induction r with
  | nil => rfl
  | cons h t ih => rw [List.any_cons, List.any_cons, ih, h.1]
theorem KV.drop {kvs : List (κ × V)} {vs : List (κ × Value)} (r : KV kvs vs) (k : κ) : KV (dropK kvs k) (without vs k) := by
  unfold KV at r ⊢
  unfold dropK without
  induction r with
  | nil => exact .nil
  | @cons p q ps qs h t ih =>
    obtain ⟨h1, h2⟩ := h
    rw [List.filter_cons, List.filter_cons]
    by_cases e : p.1 = k
    · have a : ¬ decide (p.1 ≠ k) = true := by simp [e]
      have b : ¬ decide (q.1 ≠ k) = true := by simp [h1.symm.trans e]
      rw [if_neg a, if_neg b]; exact ih
    · have e' : ¬ q.1 = k := fun z => e (h1.trans z)
      have a : decide (p.1 ≠ k) = true := by simp [e]
      have b : decide (q.1 ≠ k) = true := by simp [e']
      rw [if_pos a, if_pos b]; exact .cons ⟨h1, h2⟩ ih
theorem KV.length {kvs : List (κ × V)} {vs : List (κ × Value)} (r : KV kvs vs) : kvs.length = vs.length := Paired.length r
end



abbrev KT (H : Hp) : List (List Key × V) → List (List Key × Addr × Value) → Prop := Paired fun p q => p.1 = q.1 ∧ H q.2.1 = some (.tup (p.1.map kV)) ∧ RelV p.2 q.2.2
theorem KT.val {H : Hp} {kvs : List (List Key × V)} {xs : List (List Key × Addr × Value)} (r : KT H kvs xs) (k : List Key) : RelO (valV kvs k) ((atKey xs k).map (·.2)) := by
  induction r with
  | nil => exact True.intro
  | @cons p q ps qs h t ih =>
    obtain ⟨h1, _, h2⟩ := h
    by_cases e : p.1 = k
    · have e' : q.1 = k := h1.symm.trans e
      have b : atKey (q :: qs) k = some q.2 := by simp [atKey, List.find?_cons, e']
      rw [valV_pos e, b]; exact h2
    · have e' : ¬ q.1 = k := fun z => e (h1.trans z)
      have b : atKey (q :: qs) k = atKey qs k := by simp [atKey, List.find?_cons, e']
      rw [valV_neg e, b]; exact ih
theorem KT.keeps {H H' : Hp} {kvs : List (List Key × V)} {xs : List (List Key × Addr × Value)} (r : KT H kvs xs) (ht : ∀ b ys, H b = some (.tup ys) → H' b = some (.tup ys)) : KT H' kvs xs :=
  Paired.mapP r fun _ _ z => ⟨z.1, ht _ _ z.2.1, z.2.2⟩

section
variable {P : Program} {w : World} {H : Hp} {h : Heap} {a : Addr}
end


def DGet (H : Hp) (a : Addr) (y : V) (r : Option V) : Prop :=
  (∃ kvs k, Rd H a (.dK kvs) ∧ y = kV k ∧ r = valV kvs k) ∨ ∃ kvs k b, Rd H a (.dT kvs) ∧ y = .ref b ∧ H b = some (.tup (k.map kV)) ∧ r = valV kvs k

def DPut (H : Hp) (a : Addr) (y v : V) (H' : Hp) : Prop :=
  (∃ kvs k, H a = some (.dK kvs) ∧ y = kV k ∧ kvs.length < sizeLine ∧ H' = upd H a (.dK (putK kvs k v))) ∨
  ∃ kvs k b, H a = some (.dT kvs) ∧ y = .ref b ∧ H b = some (.tup (k.map kV)) ∧ kvs.length < sizeLine ∧ H' = upd H a (.dT (putK kvs k v))
theorem DGet.k {H : Hp} {a : Addr} {kvs : List (Key × V)} {k : Key} (e : H a = some (.dK kvs)) : DGet H a (kV k) (valV kvs k) := .inl ⟨kvs, k, .inl e, rfl, rfl⟩
theorem DGet.t {H : Hp} {a b : Addr} {kvs : List (List Key × V)} {k : List Key} (e : H a = some (.dT kvs)) (eb : H b = some (.tup (k.map kV))) : DGet H a (.ref b) (valV kvs k) := .inr ⟨kvs, k, b, .inl e, rfl, eb, rfl⟩
theorem DPut.k {H : Hp} {a : Addr} {kvs : List (Key × V)} {k : Key} {v : V} (e : H a = some (.dK kvs)) (hl : kvs.length < sizeLine) : DPut H a (kV k) v (upd H a (.dK (putK kvs k v))) := .inl ⟨kvs, k, e, rfl, hl, rfl⟩
theorem DPut.t {H : Hp} {a b : Addr} {kvs : List (List Key × V)} {k : List Key} {v : V} (e : H a = some (.dT kvs)) (eb : H b = some (.tup (k.map kV))) (hl : kvs.length < sizeLine) :
    DPut H a (.ref b) v (upd H a (.dT (putK kvs k v))) := .inr ⟨kvs, k, b, e, rfl, eb, hl, rfl⟩


section
variable {X : Cx} {pins : List (Addr × Obj)} {σ : St} {H : Hp} {s : Shared} {a : Addr} {y v : V} {u r : Value} {o : Option V} {A : Around} {E : Value → Shared → Prop}

end

section
variable {X : Cx} {pins : List (Addr × Obj)} {σ : St} {H : Hp} {s : Shared} {a : Addr} {kvs : List (Key × V)} {k : Key} {u : Value} {A : Around} {E : Value → Shared → Prop}

end




section
variable {X : Cx} {o i e value : Expr} {pos pos' tpos : Pos} {td ty tv : TE}
end



section
variable {X : Cx} {pos : Pos}
end


structure M1 (X : Cx) (o : Expr) (m : Str) (apos : Pos) (e : Expr) (cpos : Pos) : Prop where
  base : attributeBase o m X.env (eval o X.env) = eval o X.env
  few : ((backTo cpos (starEach [e] X.env)).all (fun x => !x.1) && (backToKw cpos (keywordEach [] X.env)).all (fun x => x.1.isSome)
    && decide (([e] : List Expr).length + ([] : List Keyword).length + (if ([] : List Keyword).isEmpty then 0 else 1) < 30)) = true
  line : (apos.endLine == cpos.line) = true
  trees : backTo cpos (starEach [e] X.env) = [(false, eval e X.env)]
structure M2 (X : Cx) (o : Expr) (m : Str) (apos : Pos) (e f : Expr) (cpos : Pos) : Prop where
  base : attributeBase o m X.env (eval o X.env) = eval o X.env
  few : ((backTo cpos (starEach [e, f] X.env)).all (fun x => !x.1) && (backToKw cpos (keywordEach [] X.env)).all (fun x => x.1.isSome)
    && decide (([e, f] : List Expr).length + ([] : List Keyword).length + (if ([] : List Keyword).isEmpty then 0 else 1) < 30)) = true
  line : (apos.endLine == cpos.line) = true
  trees : backTo cpos (starEach [e, f] X.env) = [(false, eval e X.env), (false, eval f X.env)]


section
variable {X : Cx} {pins : List (Addr × Obj)} {σ : St} {H : Hp} {s : Shared} {a : Addr} {y d : V} {u r : Value} {o : Option V} {A : Around} {E : Value → Shared → Prop}

end

section
variable {X : Cx} {o e f : Expr} {apos cpos : Pos} {td ty tx : TE}
end


section
variable {κ : Type} [DecidableEq κ]
end
end L2


set_option Elab.async false
set_option linter.all false
set_option maxRecDepth 100000
set_option maxHeartbeats 1000000

namespace L2
open PySem PySem.Spec PyProof.Rows PySem.W PySem.Calls
section
variable {X : Cx}
end
end L2


set_option Elab.async false
set_option linter.all false
set_option maxRecDepth 100000
set_option maxHeartbeats 1000000

namespace L2
open PySem PySem.Spec PyProof.Rows PySem.W
section
variable {X : Cx}
end
end L2


set_option Elab.async false
set_option linter.all false
set_option maxRecDepth 100000
set_option maxHeartbeats 1000000

namespace L2
open PySem PySem.Spec PyProof.Rows PySem.W
def TrisL (H : Hp) (as : List Addr) (L : List (List V)) : Prop := as.length = L.length ∧ ∀ i (h1 : i < as.length) (h2 : i < L.length), H as[i] = some (.tup L[i])
theorem TrisL.same {H H' : Hp} {as : List Addr} {L : List (List V)} (h : TrisL H as L) (s : Same H H') : TrisL H' as L := ⟨h.1, fun i i1 i2 => s _ _ (h.2 i i1 i2)⟩
theorem TrisL.nil {H : Hp} : TrisL H [] [] := ⟨rfl, fun i h => absurd h (by simp)⟩
theorem TrisL.push {H : Hp} {as : List Addr} {L : List (List V)} {u : Addr} {r : List V} (h : TrisL H as L) (hu : H u = some (.tup r)) : TrisL H (as ++ [u]) (L ++ [r]) := by
  refine ⟨by simp [h.1], fun i i1 i2 => ?_⟩
  have hl := h.1
  by_cases e : i < as.length
  · rw [List.getElem_append_left e, List.getElem_append_left (by omega)]; exact h.2 i e (by omega)
  · have : i = as.length := by simp at i1; omega
    subst this
    have e1 : (as ++ [u])[as.length]'i1 = u := by simp
    have e2 : (L ++ [r])[as.length]'i2 = r := by simp [hl]
    rw [e1, e2]; exact hu
def TrisAt (H : Hp) (c : Addr) (L : List (List V)) : Prop := ∃ as : List Addr, H c = some (.lst (as.map V.ref)) ∧ TrisL H as L
theorem TrisAt.same {H H' : Hp} {c : Addr} {L : List (List V)} (h : TrisAt H c L) (s : Same H H') : TrisAt H' c L := by
  obtain ⟨as, h1, h2⟩ := h
  exact ⟨as, s _ _ h1, h2.same s⟩
end L2


set_option Elab.async false
set_option linter.all false
set_option maxRecDepth 100000
set_option maxHeartbeats 1000000

namespace L2
open PySem PySem.Spec PyProof.Rows PySem.W

def ChB (f : Nat → Int) (N p : Nat) : Prop := NoNext f N p ∧ f N < f p ∧ ∀ q, IsPrev f p q → f q ≤ f N
theorem ChB.unique {f : Nat → Int} {N p p' : Nat} (hp : p < N) (hp' : p' < N) (h : ChB f N p) (h' : ChB f N p') : p = p' := by
  have key : ∀ {p p' : Nat}, p < p' → p' < N → ChB f N p → ChB f N p' → False := fun {p p'} hlt hN h h' => by
    rcases prev_or f p' with z | ⟨q, z⟩
    · have := z p hlt; have := h.1 p' hlt hN; omega
    · have h1 := h'.2.2 q z
      have h2 := h.2.1
      rcases Nat.lt_trichotomy q p with w | w | w
      · have := z.2.2 p w hlt; have := h.1 p' hlt hN; omega
      · rw [w] at h1; omega
      · have := h.1 q w (by have := z.1; omega); omega
  rcases Nat.lt_trichotomy p p' with w | w | w
  · exact (key w hp' h h').elim
  · exact w
  · exact (key w hp h' h).elim

def ChA (f : Nat → Int) (N p : Nat) : Prop := NoPrev (fun i => f (i + 1)) p ∧ f 0 ≤ f (p + 1) ∧ ∀ r, IsNext (fun i => f (i + 1)) N p r → f (r + 1) < f 0
theorem ChA.unique {f : Nat → Int} {N p p' : Nat} (hp : p < N) (hp' : p' < N) (h : ChA f N p) (h' : ChA f N p') : p = p' := by
  have key : ∀ {p p' : Nat}, p < p' → p' < N → ChA f N p → ChA f N p' → False := fun {p p'} hlt hN h h' => by
    rcases next_or (fun i => f (i + 1)) N p with z | ⟨r, z⟩
    · have := z p' hlt hN; have := h'.1 p hlt; dsimp only at *; omega
    · have h1 := h.2.2 r z
      have h2 := h'.2.1
      rcases Nat.lt_trichotomy r p' with w | w | w
      · have := h'.1 r w; dsimp only at *; omega
      · rw [w] at h1; omega
      · have := z.2.2.2 p' hlt w; have := h'.1 p hlt; dsimp only at *; omega
  rcases Nat.lt_trichotomy p p' with w | w | w
  · exact (key w hp' h h').elim
  · exact w
  · exact (key w hp h' h).elim
theorem nth_snoc {a : List Int} {x : Int} {p : Nat} (h : p < a.length) : nth (a ++ [x]) p = nth a p := by simp [nth, List.getD_eq_getElem?_getD, List.getElem?_append_left h]
end L2


set_option Elab.async false
set_option linter.all false
set_option maxRecDepth 100000
set_option maxHeartbeats 1000000

namespace L2
open PySem PySem.Spec PyProof.Rows PySem.W
section
variable {X : Cx} {a : Expr} {ta : TE} {pos : Pos}
end

end L2


set_option Elab.async false
set_option linter.all false
set_option maxRecDepth 100000
set_option maxHeartbeats 1000000
namespace L2
open PySem PySem.Spec PyProof.Rows PySem.W

abbrev Trip (h : Heap) (T : Addr) (a b c : Value) : Prop := h.get? T = some { cls := .type "tuple", data := .seq #[a, b, c] }

structure Apart3 (z TI TO i j k a b c : Addr) : Prop where
  own : z ≠ TI ∧ z ≠ TO ∧ z ≠ i ∧ z ≠ j ∧ z ≠ k ∧ TI ≠ TO ∧ TI ≠ i ∧ TI ≠ j ∧ TI ≠ k ∧ TO ≠ i ∧ TO ≠ j ∧ TO ≠ k ∧ i ≠ j ∧ i ≠ k ∧ j ≠ k
  la : a ≠ z ∧ a ≠ TO ∧ a ≠ i ∧ a ≠ j ∧ a ≠ k
  lb : b ≠ z ∧ b ≠ TO ∧ b ≠ i ∧ b ≠ j ∧ b ≠ k
  lc : c ≠ z ∧ c ≠ TO ∧ c ≠ i ∧ c ≠ j ∧ c ≠ k
section
variable {s : Shared} {prog : Program} {w : World} {A : Around} {E : Value → Shared → Prop}
theorem upd_trip {T : Addr} {a b c x : Value} {n : Nat} {Q : Unit → Shared → Prop} (e : Trip s.heap T a b c)
    (h : ∀ h', h'.get? T = some { cls := .type "tuple", data := .seq ((#[a, b, c] : Array Value).setIfInBounds n x) } → Heap.SameBut T s.heap h' → Q () { s with heap := h' }) :
    wpAny (model prog w) A (updateSeq T (·.setIfInBounds n x)) Q E s := by
  refine wpAny_updateSeq e rfl (h _ ?_ (Heap.SameBut.update ..))
  rw [Heap.get?_update_self _ e rfl]
  simp [Obj.mapSeq]
theorem zip3_item {z TI TO i j k a b c : Addr} {n : Nat} {xs ys us : Array Value} {x y u p q r : Value} {Q : Value → Shared → Prop} (D : Apart3 z TI TO i j k a b c)
    (zz : IsZip s.heap z TI TO .none) (tI : Trip s.heap TI (.ref i) (.ref j) (.ref k)) (tO : Trip s.heap TO p q r)
    (gi : s.heap.IsListIter i a n) (gj : s.heap.IsListIter j b n) (gk : s.heap.IsListIter k c n) (la : s.heap.IsList a xs) (lb : s.heap.IsList b ys) (lc : s.heap.IsList c us) (ex : xs[n]? = some x) (ey : ys[n]? = some y) (eu : us[n]? = some u)
    (hQ : ∀ h', IsZip h' z TI TO (rawInt s.heap.objs.size) → Trip h' TO x y u → h'.IsListIter i a (n + 1) → h'.IsListIter j b (n + 1) → h'.IsListIter k c (n + 1) → Trip h' s.heap.objs.size x y u →
      (∀ d o, d ≠ z → d ≠ TO → d ≠ i → d ≠ j → d ≠ k → s.heap.get? d = some o → h'.get? d = some o) → Q (.ref s.heap.objs.size) { s with heap := h' }) : wpAny (model prog w) A (Builtin.«zip.__next__» ⟨[.ref z], []⟩) (fun fin s' => ∃ v, fin = .done (.ret v) ∧ Q v s') E s := by
  obtain ⟨⟨zI, zO, zi, zj, zk, IO, Ii, Ij, Ik, Oi, Oj, Ok, ij, ik, jk⟩, ⟨az, aO, ai, aj, ak⟩, ⟨bz, bO, bi, bj, bk⟩, ⟨cz, cO, ci, cj, ck⟩⟩ := D
  refine show wpAny _ _ (field (.ref z) 2 >>= _) _ _ _ from wpAny_bind (wpAny_field zz rfl (x := .bool false) rfl ?_)
  refine show wpAny _ _ (field (.ref z) 3 >>= _) _ _ _ from wpAny_bind (wpAny_field zz rfl (x := .ref TI) rfl ?_)
  refine wpAny_bind (wpAny_seqItems tI rfl ?_)
  refine show wpAny _ _ (Builtin.SmallTypes.ownedTupleIsFree (.ref z) >>= _) _ _ _ from wpAny_bind ?_
  delta Builtin.SmallTypes.ownedTupleIsFree
  refine wpAny_bind (wpAny_field zz rfl (x := .none) rfl (wpAny_pure ?_))
  simp only [if_true]
  refine wpAny_bind <| wpAny_rule ?_
  refine wpAny_bind (wpAny_field zz rfl (x := .ref TO) rfl ?_)
  refine wpAny_bind (wpAny_setField_rec zz (by simp) fun h1 z1 s1 => ?_)
  replace z1 : IsZip h1 z TI TO .ellipsis := z1
  refine wpAny_bind ?_
  simp only [List.forIn_cons, List.forIn_nil, List.zipIdx_cons, List.zipIdx_nil]
  refine wpAny_bind <| wpAny_bind <| wpAny_onRaise ?_
  show wpAny _ _ (Builtin.SmallTypes.nextOf (.ref i) >>= _) _ _ _
  refine wpAny_bind (wpAny_nextOf_list_item (gi.extBut s1.extBut zi.symm) (la.extBut s1.extBut az) ex fun h2 i2 s2 => wpAny_pure ?_)
  have o2 : Trip h2 TO p q r := s2.extBut _ _ Oi (s1.extBut _ _ zO.symm tO)
  refine wpAny_bind (wpAny_seqItems o2 rfl ?_)
  refine wpAny_bind (upd_trip o2 fun h3 o3 s3 => ?_)
  replace o3 : Trip h3 TO x q r := o3
  refine wpAny_bind <| wpAny_letGo <| wpAny_pure ?_
  refine wpAny_bind <| wpAny_bind <| wpAny_onRaise ?_
  show wpAny _ _ (Builtin.SmallTypes.nextOf (.ref j) >>= _) _ _ _
  refine wpAny_bind (wpAny_nextOf_list_item (((gj.extBut s1.extBut zj.symm).extBut s2.extBut ij.symm).extBut s3.extBut Oj.symm) (((lb.extBut s1.extBut bz).extBut s2.extBut bi).extBut s3.extBut bO) ey fun h4 j4 s4 => wpAny_pure ?_)
  have o4 : Trip h4 TO x q r := s4.extBut _ _ Oj o3
  refine wpAny_bind (wpAny_seqItems o4 rfl ?_)
  refine wpAny_bind (upd_trip o4 fun h5 o5 s5 => ?_)
  replace o5 : Trip h5 TO x y r := o5
  refine wpAny_bind <| wpAny_letGo <| wpAny_pure ?_
  refine wpAny_bind <| wpAny_bind <| wpAny_onRaise ?_
  show wpAny _ _ (Builtin.SmallTypes.nextOf (.ref k) >>= _) _ _ _
  refine wpAny_bind (wpAny_nextOf_list_item (((((gk.extBut s1.extBut zk.symm).extBut s2.extBut ik.symm).extBut s3.extBut Ok.symm).extBut s4.extBut jk.symm).extBut s5.extBut Ok.symm) (((((lc.extBut s1.extBut cz).extBut s2.extBut ci).extBut s3.extBut cO).extBut s4.extBut cj).extBut s5.extBut cO) eu fun h6 k6 s6 => wpAny_pure ?_)
  have o6 : Trip h6 TO x y r := s6.extBut _ _ Ok o5
  refine wpAny_bind (wpAny_seqItems o6 rfl ?_)
  refine wpAny_bind (upd_trip o6 fun h7 o7 s7 => ?_)
  replace o7 : Trip h7 TO x y u := o7
  refine wpAny_bind <| wpAny_letGo <| wpAny_pure <| wpAny_pure ?_
  refine wpAny_bind (wpAny_seqItems o7 rfl ?_)
  refine wpAny_bind <| wpAny_newTuple ?_
  have size : h7.objs.size = s.heap.objs.size := by rw [s7.1, s6.1, s5.1, s4.1, s3.1, s2.1, s1.1]
  have z7 : IsZip h7 z TI TO .ellipsis := s7.extBut _ _ zO (s6.extBut _ _ zk (s5.extBut _ _ zO (s4.extBut _ _ zj (s3.extBut _ _ zO (s2.extBut _ _ zi z1)))))
  have keep : ∀ d o, d ≠ z → d ≠ TO → d ≠ i → d ≠ j → d ≠ k → s.heap.get? d = some o → h7.get? d = some o := fun d o d1 d2 d3 d4 d5 e =>
    s7.extBut _ _ d2 (s6.extBut _ _ d5 (s5.extBut _ _ d2 (s4.extBut _ _ d4 (s3.extBut _ _ d2 (s2.extBut _ _ d3 (s1.extBut _ _ d1 e))))))
  have i7 : h7.IsListIter i a (n + 1) := ((((i2.extBut s3.extBut Oi.symm).extBut s4.extBut ij).extBut s5.extBut Oi.symm).extBut s6.extBut ik).extBut s7.extBut Oi.symm
  have j7 : h7.IsListIter j b (n + 1) := ((j4.extBut s5.extBut Oj.symm).extBut s6.extBut jk).extBut s7.extBut Oj.symm
  have k7 : h7.IsListIter k c (n + 1) := k6.extBut s7.extBut Ok.symm
  have zlt : z < h7.objs.size := Heap.lt_size z7
  show wpAny _ _ (Builtin.SmallTypes.ownedTupleHandOut (.ref z) (.ref h7.objs.size) >>= _) _ _ _
  refine wpAny_bind ?_
  delta Builtin.SmallTypes.ownedTupleHandOut
  have z8 : IsZip (h7.push { cls := .type "tuple", data := .seq #[x, y, u] }) z TI TO .ellipsis := Heap.get?_push_of_some _ z7
  refine wpAny_bind (wpAny_setField_rec z8 (by simp) fun h9 z9 s9 => ?_)
  replace z9 : IsZip h9 z TI TO (rawInt h7.objs.size) := z9
  refine wpAny_setField_rec z9 (by simp) fun h10 z10 s10 => ?_
  replace z10 : IsZip h10 z TI TO (rawInt h7.objs.size) := z10
  have up : ∀ d o, d ≠ z → h7.get? d = some o → h10.get? d = some o := fun d o d1 e => s10.extBut _ _ d1 (s9.extBut _ _ d1 (Heap.get?_push_of_some _ e))
  have t10 : Trip h10 h7.objs.size x y u := s10.extBut _ _ (Nat.ne_of_gt zlt) (s9.extBut _ _ (Nat.ne_of_gt zlt) (Heap.get?_push_size _ rfl))
  rw [size] at z10 t10
  refine wpAny_pure ⟨.ref h7.objs.size, rfl, ?_⟩
  show Q (.ref h7.objs.size) _
  rw [size]
  exact hQ h10 z10 (up _ _ zO.symm o7) (i7.at fun o e => up _ o zi.symm e) (j7.at fun o e => up _ o zj.symm e) (k7.at fun o e => up _ o zk.symm e) t10 fun d o d1 d2 d3 d4 d5 e => up d o d1 (keep d o d1 d2 d3 d4 d5 e)
theorem zip3_end {z TI TO i j k a b c : Addr} {n : Nat} {xs ys us : Array Value} {p q r : Value} {Q : Fin → Shared → Prop} (hh : A.handled = none) (D : Apart3 z TI TO i j k a b c)
    (zz : IsZip s.heap z TI TO .none) (tI : Trip s.heap TI (.ref i) (.ref j) (.ref k)) (tO : Trip s.heap TO p q r)
    (gi : s.heap.IsListIter i a n) (gj : s.heap.IsListIter j b n) (gk : s.heap.IsListIter k c n) (la : s.heap.IsList a xs) (lb : s.heap.IsList b ys) (lc : s.heap.IsList c us) (no : xs[n]? = none ∨ ys[n]? = none ∨ us[n]? = none)
    (hE : ∀ h' e, (∀ d o, d ≠ z → d ≠ TO → d ≠ i → d ≠ j → d ≠ k → s.heap.get? d = some o → h'.get? d = some o) → (∃ o, h'.get? e = some o ∧ o.cls = .type "StopIteration") → E (.ref e) { s with heap := h' }) : wpAny (model prog w) A (Builtin.«zip.__next__» ⟨[.ref z], []⟩) Q E s := by
  obtain ⟨⟨zI, zO, zi, zj, zk, IO, Ii, Ij, Ik, Oi, Oj, Ok, ij, ik, jk⟩, ⟨az, aO, ai, aj, ak⟩, ⟨bz, bO, bi, bj, bk⟩, ⟨cz, cO, ci, cj, ck⟩⟩ := D
  refine show wpAny _ _ (field (.ref z) 2 >>= _) _ _ _ from wpAny_bind (wpAny_field zz rfl (x := .bool false) rfl ?_)
  refine show wpAny _ _ (field (.ref z) 3 >>= _) _ _ _ from wpAny_bind (wpAny_field zz rfl (x := .ref TI) rfl ?_)
  refine wpAny_bind (wpAny_seqItems tI rfl ?_)
  refine show wpAny _ _ (Builtin.SmallTypes.ownedTupleIsFree (.ref z) >>= _) _ _ _ from wpAny_bind ?_
  delta Builtin.SmallTypes.ownedTupleIsFree
  refine wpAny_bind (wpAny_field zz rfl (x := .none) rfl (wpAny_pure ?_))
  simp only [if_true]
  refine wpAny_bind <| wpAny_rule ?_
  refine wpAny_bind (wpAny_field zz rfl (x := .ref TO) rfl ?_)
  refine wpAny_bind (wpAny_setField_rec zz (by simp) fun h1 z1 s1 => ?_)
  replace z1 : IsZip h1 z TI TO .ellipsis := z1
  refine wpAny_bind ?_
  simp only [List.forIn_cons, List.forIn_nil, List.zipIdx_cons, List.zipIdx_nil]
  refine wpAny_bind <| wpAny_bind <| wpAny_onRaise ?_
  show wpAny _ _ (Builtin.SmallTypes.nextOf (.ref i) >>= _) _ _ _
  rcases ex : xs[n]? with _ | x
  · refine wpAny_bind (wpAny_nextOf_list_end hh (gi.extBut s1.extBut zi.symm) (la.extBut s1.extBut az) ex fun h2 e s2 ⟨oe, he, ce⟩ => ?_)
    have z2 : IsZip h2 z TI TO .ellipsis := s2 _ _ zi z1
    have ez : e ≠ z := fun y => by subst y; rw [z2] at he; cases he; simp at ce
    exact wpAny_setField_rec z2 (by simp) fun h3 _ s3 => hE h3 e (fun d o d1 _ d3 _ _ y => s3.extBut _ _ d1 (s2 _ _ d3 (s1.extBut _ _ d1 y))) ⟨oe, s3.extBut _ _ ez he, ce⟩
  refine wpAny_bind (wpAny_nextOf_list_item (gi.extBut s1.extBut zi.symm) (la.extBut s1.extBut az) ex fun h2 i2 s2 => wpAny_pure ?_)
  have o2 : Trip h2 TO p q r := s2.extBut _ _ Oi (s1.extBut _ _ zO.symm tO)
  refine wpAny_bind (wpAny_seqItems o2 rfl ?_)
  refine wpAny_bind (upd_trip o2 fun h3 o3 s3 => ?_)
  replace o3 : Trip h3 TO x q r := o3
  refine wpAny_bind <| wpAny_letGo <| wpAny_pure ?_
  refine wpAny_bind <| wpAny_bind <| wpAny_onRaise ?_
  show wpAny _ _ (Builtin.SmallTypes.nextOf (.ref j) >>= _) _ _ _
  have gj3 := ((gj.extBut s1.extBut zj.symm).extBut s2.extBut ij.symm).extBut s3.extBut Oj.symm
  have lb3 := ((lb.extBut s1.extBut bz).extBut s2.extBut bi).extBut s3.extBut bO
  have z3 : IsZip h3 z TI TO .ellipsis := s3.extBut _ _ zO (s2.extBut _ _ zi z1)
  have k3 : ∀ d o, d ≠ z → d ≠ TO → d ≠ i → s.heap.get? d = some o → h3.get? d = some o := fun d o d1 d2 d3 y => s3.extBut _ _ d2 (s2.extBut _ _ d3 (s1.extBut _ _ d1 y))
  rcases ey : ys[n]? with _ | y
  · refine wpAny_bind (wpAny_nextOf_list_end hh gj3 lb3 ey fun h4 e s4 ⟨oe, he, ce⟩ => ?_)
    have z4 : IsZip h4 z TI TO .ellipsis := s4 _ _ zj z3
    have ez : e ≠ z := fun y => by subst y; rw [z4] at he; cases he; simp at ce
    exact wpAny_setField_rec z4 (by simp) fun h5 _ s5 => hE h5 e (fun d o d1 d2 d3 d4 _ y => s5.extBut _ _ d1 (s4 _ _ d4 (k3 d o d1 d2 d3 y))) ⟨oe, s5.extBut _ _ ez he, ce⟩
  refine wpAny_bind (wpAny_nextOf_list_item gj3 lb3 ey fun h4 j4 s4 => wpAny_pure ?_)
  have o4 : Trip h4 TO x q r := s4.extBut _ _ Oj o3
  refine wpAny_bind (wpAny_seqItems o4 rfl ?_)
  refine wpAny_bind (upd_trip o4 fun h5 o5 s5 => ?_)
  refine wpAny_bind <| wpAny_letGo <| wpAny_pure ?_
  refine wpAny_bind <| wpAny_bind <| wpAny_onRaise ?_
  show wpAny _ _ (Builtin.SmallTypes.nextOf (.ref k) >>= _) _ _ _
  have eu : us[n]? = none := by
    rcases no with h | h | h
    · rw [ex] at h; cases h
    · rw [ey] at h; cases h
    · exact h
  refine wpAny_bind (wpAny_nextOf_list_end hh (((((gk.extBut s1.extBut zk.symm).extBut s2.extBut ik.symm).extBut s3.extBut Ok.symm).extBut s4.extBut jk.symm).extBut s5.extBut Ok.symm) (((((lc.extBut s1.extBut cz).extBut s2.extBut ci).extBut s3.extBut cO).extBut s4.extBut cj).extBut s5.extBut cO) eu fun h6 e s6 ⟨oe, he, ce⟩ => ?_)
  have z6 : IsZip h6 z TI TO .ellipsis := s6 _ _ zk (s5.extBut _ _ zO (s4.extBut _ _ zj z3))
  have ez : e ≠ z := fun y => by subst y; rw [z6] at he; cases he; simp at ce
  exact wpAny_setField_rec z6 (by simp) fun h7 _ s7 => hE h7 e (fun d o d1 d2 d3 d4 d5 y => s7.extBut _ _ d1 (s6 _ _ d5 (s5.extBut _ _ d2 (s4.extBut _ _ d4 (k3 d o d1 d2 d3 y))))) ⟨oe, s7.extBut _ _ ez he, ce⟩

theorem next_zip3 {z TI TO i j k a b c : Addr} {n : Nat} {xs ys us : Array Value} {x y u p q r : Value} {Q : Option Value → Shared → Prop} (D : Apart3 z TI TO i j k a b c)
    (zz : IsZip s.heap z TI TO .none) (tI : Trip s.heap TI (.ref i) (.ref j) (.ref k)) (tO : Trip s.heap TO p q r)
    (gi : s.heap.IsListIter i a n) (gj : s.heap.IsListIter j b n) (gk : s.heap.IsListIter k c n) (la : s.heap.IsList a xs) (lb : s.heap.IsList b ys) (lc : s.heap.IsList c us) (ex : xs[n]? = some x) (ey : ys[n]? = some y) (eu : us[n]? = some u)
    (hQ : ∀ h', IsZip h' z TI TO (rawInt s.heap.objs.size) → Trip h' TO x y u → h'.IsListIter i a (n + 1) → h'.IsListIter j b (n + 1) → h'.IsListIter k c (n + 1) → Trip h' s.heap.objs.size x y u →
      (∀ d o, d ≠ z → d ≠ TO → d ≠ i → d ≠ j → d ≠ k → s.heap.get? d = some o → h'.get? d = some o) → Q (some (.ref s.heap.objs.size)) { s with heap := h' }) : wpAny (model prog w) A (pyNext (.ref z)) Q E s := by
  have ty : s.TypeIs (.ref z) "zip" := ⟨_, zz, rfl⟩
  delta pyNext
  exact wpAny_bind (wpAny_attempt (wpAny_callSpecial?_slot (name := Str.ofString "__next__") ty F.slot_zip_next (wpAny_call_entry F.slot_zip_next ty F.entry_zip_next
    (zip3_item D zz tI tO gi gj gk la lb lc ex ey eu fun h' a1 a2 a3 a4 a5 a6 a7 => wpAny_pure (hQ h' a1 a2 a3 a4 a5 a6 a7)) (F.args_zip_next_1 _))))
theorem stop_zip3 {z TI TO i j k a b c : Addr} {n : Nat} {xs ys us : Array Value} {p q r : Value} {Q : Option Value → Shared → Prop} (hh : A.handled = none) (D : Apart3 z TI TO i j k a b c)
    (zz : IsZip s.heap z TI TO .none) (tI : Trip s.heap TI (.ref i) (.ref j) (.ref k)) (tO : Trip s.heap TO p q r)
    (gi : s.heap.IsListIter i a n) (gj : s.heap.IsListIter j b n) (gk : s.heap.IsListIter k c n) (la : s.heap.IsList a xs) (lb : s.heap.IsList b ys) (lc : s.heap.IsList c us) (no : xs[n]? = none ∨ ys[n]? = none ∨ us[n]? = none)
    (hQ : ∀ h', (∀ d o, d ≠ z → d ≠ TO → d ≠ i → d ≠ j → d ≠ k → s.heap.get? d = some o → h'.get? d = some o) → Q none { s with heap := h' }) : wpAny (model prog w) A (pyNext (.ref z)) Q E s := by
  have ty : s.TypeIs (.ref z) "zip" := ⟨_, zz, rfl⟩
  delta pyNext
  refine wpAny_bind (wpAny_attempt (wpAny_callSpecial?_slot (name := Str.ofString "__next__") ty F.slot_zip_next (wpAny_call_entry F.slot_zip_next ty F.entry_zip_next
    (zip3_end hh D zz tI tO gi gj gk la lb lc no fun h' e hk ⟨o, ho, hc⟩ => ?_) (F.args_zip_next_1 _))))
  exact wpAny_bind (wpAny_isInstance (T := "StopIteration") (b := true) ⟨o, ho, hc⟩ isSubtype_stop (wpAny_pure (hQ _ hk)))
end
theorem tc_zip3 (a b c : Value) : checkTypeCall "zip" ⟨[a, b, c], []⟩ = pure () := by kernel_rfl
theorem nc_zip3 (a b c : Value) : checkBuiltinCall "zip.__new__" ⟨[.type "zip", a, b, c], []⟩ = pure () := by kernel_rfl
theorem oi_four (a b c d : Value) : argsOk "object.__init__" ⟨[a, b, c, d], []⟩ := by
  delta argsOk
  rw [signature?_of (n := ['_', '_', 't', 'i', 'n', 'i', '_', '_']) (o := ['t', 'c', 'e', 'j', 'b', 'o']) (id := "object.__init__") (by kernel_rfl) F.owner_object]
  kernel_rfl
abbrev itO (l : Addr) : Obj := { cls := .type "list_iterator", data := .fields #[.ref l, .int 0 0] }
abbrev zA (h : Heap) (a : Addr) : Heap := h.push (itO a)
abbrev zB (h : Heap) (a b : Addr) : Heap := (zA h a).push (itO b)
abbrev zC (h : Heap) (a b c : Addr) : Heap := (zB h a b).push (itO c)
abbrev zD (h : Heap) (a b c : Addr) : Heap := (zC h a b c).push { cls := .type "tuple", data := .seq #[.ref h.objs.size, .ref (zA h a).objs.size, .ref (zB h a b).objs.size] }
abbrev zE (h : Heap) (a b c : Addr) : Heap := (zD h a b c).push { cls := .type "tuple", data := .seq #[.none, .none, .none] }
abbrev zF (h : Heap) (a b c : Addr) : Heap := (zE h a b c).push { cls := .type "zip", data := .fields #[.none, .bool false, .bool false, .ref (zC h a b c).objs.size, .ref (zD h a b c).objs.size] }
theorem new_zip3 (a b c : Addr) (xs ys us : Array Value) :
    Meets (Builtin.«zip.__new__» ⟨[.type "zip", .ref a, .ref b, .ref c], []⟩) (fun _ R s => s.heap.IsList a xs ∧ s.heap.IsList b ys ∧ s.heap.IsList c us ∧
      R (.ok (.ret (.ref (zE s.heap a b c).objs.size))) { s with heap := zF s.heap a b c }) :=
  .of_wp fun pg wd A R s h => by
    obtain ⟨hp, gs, dn, tk, os⟩ := s
    obtain ⟨la, lb, lc, h⟩ := h
    have hsub := sub_zip
    have A1 : Heap.IsList (Shared.heap ⟨hp, gs, dn, tk, os⟩) a xs := la
    have B1 : Heap.IsList (Shared.heap ⟨hp.push (itO a), gs, dn, tk, os⟩) b ys := Heap.IsList.push lb _
    have C1 : Heap.IsList (Shared.heap ⟨(hp.push (itO a)).push (itO b), gs, dn, tk, os⟩) c us := Heap.IsList.push (Heap.IsList.push lc _) _
    wp_walk using wpAny_pyIter_list A1, wpAny_pyIter_list B1, wpAny_pyIter_list C1
    exact ⟨_, rfl, h⟩
section
variable {s : Shared} {prog : Program} {w : World} {A : Around} {E : Value → Shared → Prop}
theorem call_zip3 {a b c : Addr} {xs ys us : Array Value} {Q : Value → Shared → Prop} (la : s.heap.IsList a xs) (lb : s.heap.IsList b ys) (lc : s.heap.IsList c us)
    (h : ∀ h', IsZip h' (s.heap.objs.size + 5) (s.heap.objs.size + 3) (s.heap.objs.size + 4) .none → Trip h' (s.heap.objs.size + 3) (.ref s.heap.objs.size) (.ref (s.heap.objs.size + 1)) (.ref (s.heap.objs.size + 2)) →
      Trip h' (s.heap.objs.size + 4) .none .none .none → h'.IsListIter s.heap.objs.size a 0 → h'.IsListIter (s.heap.objs.size + 1) b 0 → h'.IsListIter (s.heap.objs.size + 2) c 0 →
      (∀ d o, s.heap.get? d = some o → h'.get? d = some o) → Q (.ref (s.heap.objs.size + 5)) { s with heap := h' }) :
    wpAny (model prog w) A (call (.type "zip") [.ref a, .ref b, .ref c]) Q E s := by
  refine callType_new F.called_zip (by decide) (tc_zip3 _ _ _) (nc_zip3 _ _ _) (fun obj => oi_four obj _ _ _) F.entry_zip_new (new_zip3 a b c xs ys us) ⟨la, lb, lc, ?_⟩
  have n1 : (zA s.heap a).objs.size = s.heap.objs.size + 1 := Heap.size_push ..
  have n2 : (zB s.heap a b).objs.size = s.heap.objs.size + 2 := by rw [Heap.size_push, n1]
  have n3 : (zC s.heap a b c).objs.size = s.heap.objs.size + 3 := by rw [Heap.size_push, n2]
  have n4 : (zD s.heap a b c).objs.size = s.heap.objs.size + 4 := by rw [Heap.size_push, n3]
  have n5 : (zE s.heap a b c).objs.size = s.heap.objs.size + 5 := by rw [Heap.size_push, n4]
  have up : ∀ (h : Heap) (o' : Obj) d o, h.get? d = some o → (h.push o').get? d = some o := fun _ _ _ _ e => Heap.get?_push_of_some _ e
  have g6 : (zF s.heap a b c).get? (zE s.heap a b c).objs.size = some _ := Heap.get?_push_size _ rfl
  have g5 : (zF s.heap a b c).get? (zD s.heap a b c).objs.size = some _ := up _ _ _ _ (Heap.get?_push_size _ rfl)
  have g4 : (zF s.heap a b c).get? (zC s.heap a b c).objs.size = some _ := up _ _ _ _ (up _ _ _ _ (Heap.get?_push_size _ rfl))
  have g3 : (zF s.heap a b c).get? (zB s.heap a b).objs.size = some _ := up _ _ _ _ (up _ _ _ _ (up _ _ _ _ (Heap.get?_push_size _ rfl)))
  have g2 : (zF s.heap a b c).get? (zA s.heap a).objs.size = some _ := up _ _ _ _ (up _ _ _ _ (up _ _ _ _ (up _ _ _ _ (Heap.get?_push_size _ rfl))))
  have g1 : (zF s.heap a b c).get? s.heap.objs.size = some _ := up _ _ _ _ (up _ _ _ _ (up _ _ _ _ (up _ _ _ _ (up _ _ _ _ (Heap.get?_push_size _ rfl)))))
  show _ ∧ _
  rw [n3, n4, n5] at g6
  rw [n1, n2, n3] at g4
  rw [n4] at g5
  rw [n2] at g3
  rw [n1] at g2
  rw [n5]
  exact ⟨⟨_, g6, rfl⟩, h _ g6 g4 g5 ⟨_, g1, rfl, rfl⟩ ⟨_, g2, rfl, rfl⟩ ⟨_, g3, rfl, rfl⟩ fun d o e => up _ _ _ _ (up _ _ _ _ (up _ _ _ _ (up _ _ _ _ (up _ _ _ _ (up _ _ _ _ e)))))⟩
end

def Itz3 (K : Frag) (a b c : Addr) : It :=
  ⟨fun i H => ∃ xs ys us x y u, SqL K H a xs ∧ SqL K H b ys ∧ SqL K H c us ∧ xs[i]? = some x ∧ ys[i]? = some y ∧ us[i]? = some u,
   fun i H v H' => ∃ p x y u, H p = none ∧ v = .ref p ∧ H' = upd H p (.tup [x, y, u]) ∧ (∀ xs, SqL K H a xs → xs[i]? = some x) ∧ (∀ ys, SqL K H b ys → ys[i]? = some y) ∧ ∀ us, SqL K H c us → us[i]? = some u,
   fun i H => ∃ xs ys us, SqL K H a xs ∧ SqL K H b ys ∧ SqL K H c us ∧ (xs.length ≤ i ∨ ys.length ≤ i ∨ us.length ≤ i)⟩
theorem turn_zip3 {P : Program} {w : World} {K : Frag} {elts : List Expr} {x1} {pos : Pos} {a b c z TI TO i1 i2 i3 : Addr} (D : Apart3 z TI TO i1 i2 i3 a b c) :
    Turn P w K (.Tuple elts x1 pos) (Itz3 K a b c) [z, TI, TO, i1, i2, i3] z (fun i h => IsZip h z TI TO .none ∧ Trip h TI (.ref i1) (.ref i2) (.ref i3) ∧ (∃ u v t, Trip h TO u v t) ∧ h.IsListIter i1 a i ∧ h.IsListIter i2 b i ∧ h.IsListIter i3 c i) where
  mem := by simp
  obj := fun i h st d hd => by
    obtain ⟨q1, q2, ⟨u, v, t, q3⟩, ⟨o4, q4, _, d4⟩, ⟨o5, q5, _, d5⟩, ⟨o6, q6, _, d6⟩⟩ := st
    simp at hd
    rcases hd with rfl | rfl | rfl | rfl | rfl | rfl
    · exact ⟨_, q1, fun v z => by cases z⟩
    · exact ⟨_, q2, fun v z => by cases z⟩
    · exact ⟨_, q3, fun v z => by cases z⟩
    · exact ⟨_, q4, fun v z => by rw [d4] at z; cases z⟩
    · exact ⟨_, q5, fun v z => by rw [d5] at z; cases z⟩
    · exact ⟨_, q6, fun v z => by rw [d6] at z; cases z⟩
  keep := fun i h h' st k => by
    obtain ⟨q1, q2, ⟨u, v, t, q3⟩, q4, q5, q6⟩ := st
    exact ⟨k z (by simp) _ q1, k TI (by simp) _ q2, ⟨u, v, t, k TO (by simp) _ q3⟩, q4.at fun o e => k i1 (by simp) o e, q5.at fun o e => k i2 (by simp) o e, q6.at fun o e => k i3 (by simp) o e⟩
  item := by
    intro X hP hw hK hc i pins s σ H E I hf st hg
    subst hP hw hK
    obtain ⟨xs, ys, us, x, y, u, qa, qb, qc, hx, hy, hu⟩ := hg
    obtain ⟨q1, q2, ⟨u0, v0, t0, q3⟩, q4, q5, q6⟩ := st
    obtain ⟨is1, r1, p1, _⟩ := I.list qa
    obtain ⟨is2, r2, p2, _⟩ := I.list qb
    obtain ⟨is3, r3, p3, _⟩ := I.list qc
    obtain ⟨vx, gx, rx⟩ := r1.get hx
    obtain ⟨vy, gy, ry⟩ := r2.get hy
    obtain ⟨vu, gu, ru⟩ := r3.get hu
    refine next_zip3 D q1 q2 q3 q4 q5 q6 p1.isList p2.isList p3.isList (x := vx) (y := vy) (u := vu) (by simpa using gx) (by simpa using gy) (by simpa using gu) fun h' a1 a2 a3 a4 a5 a6 a7 => ?_
    refine ⟨_, rfl, ?_⟩
    refine wpAny_letOwnedTupleGo_zip (s := { s with heap := h' }) a1 fun h2 b1 b2 => ?_
    have hfr : H s.heap.objs.size = none := I.hok.fresh (Nat.le_refl _)
    have I1 : Inv X pins σ (upd H s.heap.objs.size (.tup [x, y, u])) { s with heap := s.heap.push { cls := .type "tuple", data := .seq #[vx, vy, vu] } } := by
      refine I.laid (t' := s.toks) (fun b u e => Heap.get?_push_of_some _ e) (Nat.le_refl _) ?_
      exact ⟨by show 3 ≤ sizeLine; decide, [vx, vy, vu], .cons rx (.cons ry (.cons ru .nil)), ⟨_, Heap.get?_push_size _ rfl, rfl, _, rfl⟩⟩
    have nz : ∀ d ∈ [z, TI, TO, i1, i2, i3], d ≠ s.heap.objs.size := fun d hd e => by
      have : ∃ o, s.heap.get? d = some o := by
        simp at hd
        rcases hd with rfl | rfl | rfl | rfl | rfl | rfl
        · exact ⟨_, q1⟩
        · exact ⟨_, q2⟩
        · exact ⟨_, q3⟩
        · obtain ⟨o, q, _⟩ := q4; exact ⟨o, q⟩
        · obtain ⟨o, q, _⟩ := q5; exact ⟨o, q⟩
        · obtain ⟨o, q, _⟩ := q6; exact ⟨o, q⟩
      obtain ⟨o, q⟩ := this
      exact absurd (Heap.lt_size q) (by rw [e]; exact Nat.lt_irrefl _)
    have hf1 : ∀ d ∈ [z, TI, TO, i1, i2, i3], FpOk X pins (upd H s.heap.objs.size (.tup [x, y, u])) d := fun d hd => by
      obtain ⟨f0, f1, f2, f3, f4, f5⟩ := hf d hd
      exact ⟨by rw [upd_ne (nz d hd)]; exact f0, f1, f2, f3, f4, f5⟩
    obtain ⟨⟨zI, zO, zi, zj, zk, IO, Ii, Ij, Ik, Oi, Oj, Ok, ij, ik, jk⟩, _⟩ := D
    have I2 : Inv X pins σ (upd H s.heap.objs.size (.tup [x, y, u])) { s with heap := h2 } := by
      refine Inv.turnedL (s := { s with heap := s.heap.push { cls := .type "tuple", data := .seq #[vx, vy, vu] } }) (t' := s.toks) (fp := [z, TI, TO, i1, i2, i3]) I1 (fun d o hd e => ?_) hf1
      simp only [List.mem_cons, List.not_mem_nil, or_false, not_or] at hd
      obtain ⟨c1, c2, c3, c4, c5, c6⟩ := hd
      refine b2.extBut _ _ c1 ?_
      by_cases hs : d = s.heap.objs.size
      · subst hs
        have e' : (s.heap.push { cls := .type "tuple", data := .seq #[vx, vy, vu] }).get? s.heap.objs.size = some _ := Heap.get?_push_size _ rfl
        have ee : o = { cls := .type "tuple", data := .seq #[vx, vy, vu] } := Option.some.inj (e.symm.trans e')
        rw [ee]; exact a6
      · have : s.heap.get? d = some o := by
          rcases Heap.get?_push_cases e with ⟨q, _⟩ | q
          · exact absurd q hs
          · exact q
        exact a7 d o c1 c3 c4 c5 c6 this
    refine ⟨.ref s.heap.objs.size, _, I2, rfl, ⟨_, x, y, u, hfr, rfl, rfl, fun xs' q' => ?_, fun ys' q' => ?_, fun us' q' => ?_⟩, ⟨b1, ?_, ⟨vx, vy, vu, ?_⟩, ?_, ?_, ?_⟩, fun d hd => (hf1 d hd).1⟩
    · rw [I.list_inj q' qa]; exact hx
    · rw [I.list_inj q' qb]; exact hy
    · rw [I.list_inj q' qc]; exact hu
    · exact b2.extBut _ _ zI.symm (a7 _ _ zI.symm IO Ii Ij Ik q2)
    · exact b2.extBut _ _ zO.symm a2
    · exact a3.extBut b2.extBut zi.symm
    · exact a4.extBut b2.extBut zj.symm
    · exact a5.extBut b2.extBut zk.symm
  done := by
    intro X hP hw hK hc i pins s σ H E I hf st hg
    subst hP hw hK
    obtain ⟨xs, ys, us, qa, qb, qc, hx⟩ := hg
    obtain ⟨q1, q2, ⟨u0, v0, t0, q3⟩, q4, q5, q6⟩ := st
    obtain ⟨is1, r1, p1, _⟩ := I.list qa
    obtain ⟨is2, r2, p2, _⟩ := I.list qb
    obtain ⟨is3, r3, p3, _⟩ := I.list qc
    refine stop_zip3 (I.ok.hd hc) D q1 q2 q3 q4 q5 q6 p1.isList p2.isList p3.isList ?_ fun h' k => ⟨rfl, I.turnedL (t' := s.toks) (fp := [z, TI, TO, i1, i2, i3]) (fun d o hd e => ?_) hf⟩
    · rcases hx with hx | hx | hx
      · left; simp; rw [← r1.length]; exact hx
      · right; left; simp; rw [← r2.length]; exact hx
      · right; right; simp; rw [← r3.length]; exact hx
    · simp only [List.mem_cons, List.not_mem_nil, or_false, not_or] at hd
      obtain ⟨c1, c2, c3, c4, c5, c6⟩ := hd
      exact k d o c1 c3 c4 c5 c6 e
  self := fun _ _ _ _ _ st h => wpAny_pyIter_zip st.1 h
theorem three_vals : ∀ {x y z : V} {us : List Value}, Vals [x, y, z] us → ∃ u v t, us = [u, v, t] ∧ RelV x u ∧ RelV y v ∧ RelV z t
  | _, _, _, _, .cons r (.cons q (.cons t .nil)) => ⟨_, _, _, rfl, r, q, t⟩
theorem apart3 (n a b c : Nat) (h1 : a < n) (h2 : b < n) (h3 : c < n) : Apart3 (n + 5) (n + 3) (n + 4) n (n + 1) (n + 2) a b c := by
  have N : ∀ u v : Nat, u < v ∨ v < u → (u : Addr) ≠ v := fun u v h e => by have e : u = v := e; omega
  exact ⟨⟨N _ _ (by omega), N _ _ (by omega), N _ _ (by omega), N _ _ (by omega), N _ _ (by omega), N _ _ (by omega), N _ _ (by omega), N _ _ (by omega), N _ _ (by omega), N _ _ (by omega), N _ _ (by omega), N _ _ (by omega), N _ _ (by omega), N _ _ (by omega), N _ _ (by omega)⟩,
    ⟨N _ _ (by omega), N _ _ (by omega), N _ _ (by omega), N _ _ (by omega), N _ _ (by omega)⟩, ⟨N _ _ (by omega), N _ _ (by omega), N _ _ (by omega), N _ _ (by omega), N _ _ (by omega)⟩, ⟨N _ _ (by omega), N _ _ (by omega), N _ _ (by omega), N _ _ (by omega), N _ _ (by omega)⟩⟩
section
variable {X : Cx}
def iZip3 (K : Frag) (ta : TA) : TI := fun σ H R => ta σ H fun vs H1 => ∃ a b c xs ys us, vs = [.ref a, .ref b, .ref c] ∧ SqL K H1 a xs ∧ SqL K H1 b ys ∧ SqL K H1 c us ∧ R (Itz3 K a b c) H1
theorem pi_zip3 {elts : List Expr} {x1} {tp : Pos} {e1 e2 e3 : Expr} {ta : TA} {p pos : Pos} (hg : Gl X "zip") (hm : X.mg "zip" = none) (ha : PA X [e1, e2, e3] ta) (he : starEach [e1, e2, e3] X.env = (false, eval e1 X.env) :: starEach [e2, e3] X.env := by rfl) (hpl : (backTo pos (starEach [e2, e3] X.env)).any (·.1) = false := by rfl) :
    PI X (.Tuple elts x1 tp) (.Call (.Name "zip" p) [e1, e2, e3] [] pos) (iZip3 X.K ta) := by
  intro pins s σ H R I h
  refine wpAny_Call_Name_kw (ld_blt I hg hm boot_zip' ?_)
  refine PyProof.Rows.callWith_type1 (thn (ha pos pins s σ H _ I h) fun us s1 ⟨vs, H1, I1, r1, a, b, c, xs, ys, zs, e1, qa, qb, qc, q⟩ => ?_) he hpl
  subst e1
  obtain ⟨u, v, t, rfl, ru, rv, rt⟩ := three_vals r1
  cases (show u = Value.ref a from ru)
  cases (show v = Value.ref b from rv)
  cases (show t = Value.ref c from rt)
  obtain ⟨is1, rr1, p1, _⟩ := I1.list qa
  obtain ⟨is2, rr2, p2, _⟩ := I1.list qb
  obtain ⟨is3, rr3, p3, _⟩ := I1.list qc
  refine call_zip3 p1.isList p2.isList p3.isList fun h' c1 c2 c3 c4 c5 c6 c7 => ?_
  refine wpAny_pyIter_zip c1 ?_
  have l1 : a < s1.heap.objs.size := by obtain ⟨o, e, _⟩ := p1.isList; exact Heap.lt_size e
  have l2 : b < s1.heap.objs.size := by obtain ⟨o, e, _⟩ := p2.isList; exact Heap.lt_size e
  have l3 : c < s1.heap.objs.size := by obtain ⟨o, e, _⟩ := p3.isList; exact Heap.lt_size e
  have sm : ∀ b, s1.heap.objs.size ≤ b → FpOk X pins H1 b := fun b hb => I1.fpOk hb (I1.hok.fresh hb)
  refine ⟨_, [s1.heap.objs.size + 5, s1.heap.objs.size + 3, s1.heap.objs.size + 4, s1.heap.objs.size, s1.heap.objs.size + 1, s1.heap.objs.size + 2], _, _, H1, rfl, I1.kept (t' := s1.toks) c7, turn_zip3 (a := a) (b := b) (c := c) ?_, ⟨c1, c2, ⟨_, _, _, c3⟩, c4, c5, c6⟩, fun d hd => ?_, q⟩
  · exact apart3 _ _ _ _ l1 l2 l3
  · simp at hd
    rcases hd with rfl | rfl | rfl | rfl | rfl | rfl <;> exact sm _ (by omega)
end
end L2


set_option Elab.async false
set_option linter.all false
set_option maxRecDepth 100000
set_option maxHeartbeats 1000000
namespace L2
open PySem PySem.Spec PyProof.Rows PySem.W
section
variable {X : Cx}

theorem call_max1 (hc : X.calm = true) : CallR X (.builtin "max") (fun xs H Q => ∃ (p : Addr) (ns : List Int), xs = [.ref p] ∧ SqL X.K H p (ns.map V.int) ∧ ns ≠ [] ∧ ∀ m, m ∈ ns → (∀ a ∈ ns, a ≤ m) → Q (.int m) H) := by
  intro pins s σ H xs us Q I r h
  obtain ⟨p, ns, rfl, hp, hne, q⟩ := h
  obtain ⟨u, rfl, ru⟩ := r.one
  cases (show u = Value.ref p from ru)
  obtain ⟨its, rv, pl, hz⟩ := I.list hp
  obtain ⟨ys, e1, e2⟩ := ints_of rv
  have hsz : 0 < ys.size := by
    have := congrArg List.length e2
    rw [List.length_map, Array.length_toList] at this
    cases ns with
    | nil => exact absurd rfl hne
    | cons => simp at this; omega
  refine max_intList (xs := ys) (I.ok.hd hc) (e1 ▸ pl.isList) hsz fun v h' tk hv k => ?_
  obtain ⟨tq, rfl⟩ := intItems_at hv
  obtain ⟨h1, h2⟩ := argBest_gt (numAt ys) (ys.size - 1)
  refine ⟨.int _, H, I.kept k, ⟨tq, rfl⟩, q _ ?_ fun a ha => ?_⟩
  · rw [numAt_eq, e2]; exact getD_mem (by rw [← e2, List.length_map, Array.length_toList]; omega)
  · obtain ⟨jq, hj, rfl⟩ := mem_getD ha
    rw [← e2, List.length_map, Array.length_toList] at hj
    rw [← e2, ← numAt_eq]; exact h2 jq (by omega)
end
end L2


set_option Elab.async false
set_option linter.all false
set_option maxRecDepth 100000
set_option maxHeartbeats 1000000

namespace L2
open PySem PySem.Spec PyProof.Rows PySem.W
section
variable {prog : Program} {w : World} {A : Around} {E : Value → Shared → Prop} {s : Shared} {z TI TO i1 i2 l1 l2 : Addr} {k1 k2 : Nat} {xs ys : Array Value} {a b : Value}

def IsZipG (h : Heap) (z TI TO : Addr) : Prop := ∃ f0 f1 : Value, (f0 = .none ∨ ∃ T : Nat, f0 = rawInt T) ∧ h.get? z = some { cls := .type "zip", dict := none, data := .fields #[f0, f1, .bool false, .ref TI, .ref TO], slots := #[] }
theorem IsZipG.type (hz : IsZipG s.heap z TI TO) : s.TypeIs (.ref z) "zip" := by obtain ⟨f0, f1, _, e⟩ := hz; exact ⟨_, e, rfl⟩
end
section
variable {X : Cx} {pins : List (Addr × Obj)} {σ : St} {H : Hp} {s : Shared}

end
end L2


set_option Elab.async false
set_option linter.all false
set_option maxRecDepth 100000
set_option maxHeartbeats 1000000

namespace L2
open PySem PySem.Spec PyProof.Rows PySem.W
section
variable {X : Cx}
theorem pe_bmK {K : Frag} {T : String} {id : String} {name : Str} {r : V → List V → Hp → VK → Prop} {o e : Expr} {es : List Expr} {to : TE} {t : TA} {apos cpos : Pos} (hK : X.K = K) (pa : PlainAttrs T) (slot : Slot T name id) (hty : typeOf (.builtin id) = pure (.type "method_descriptor")) (hm : MtM X id r) (ho : PE X o to) (ha : PA X (e :: es) t)
    (hbase : attributeBase o name X.env (eval o X.env) = eval o X.env := by rfl)
    (hfew : ((backTo cpos (starEach (e :: es) X.env)).all (fun x => !x.1) && (backToKw cpos (keywordEach [] X.env)).all (fun x => x.1.isSome)
      && decide ((e :: es).length + ([] : List Keyword).length + (if ([] : List Keyword).isEmpty then 0 else 1) < 30)) = true := by rfl)
    (hline : (apos.endLine == cpos.line) = true := by rfl) (hs : starEach (e :: es) X.env = (false, eval e X.env) :: starEach es X.env := by rfl) (hplain : (backTo cpos (starEach es X.env)).any (·.1) = false := by rfl) :
    PE X (.Call (.Attribute o name apos) (e :: es) [] cpos) (tBM K T r to t) := by
  subst hK
  exact pe_bm pa slot hty hm ho ha hbase hfew hline hs hplain
end
end L2


set_option Elab.async false
set_option linter.all false
set_option maxRecDepth 100000
set_option maxHeartbeats 4000000
namespace K43
open PySem PySem.Spec PyProof.Rows L2
local macro_rules | `(tactic| walk_at "rd") => `(tactic| simp only [tIfS, tNot, tTest, tChain, rI0, rI, rU, tVar, tC, tB, tIf, tAndV, tOrV, tNotV, tCall, tCallX, tCons, tNil, tAsg, tSeq, tRet, tNext, tOp, tUn, tAnd, tOr, tDrop, gName, gSub, tAug, tCB, tSl, tRaise, tLst, tTup, L2.start, tYes, gTup, gCons, gNil, iniC, Option.join_some, Option.join_none, rEq, rNe, scal_ii, scal_bb, scal_ss, scal_nn, scal_ni, scal_in, tBM, Bool.true_eq_false, List.map_cons, List.map_nil, List.cons_append, List.nil_append, List.length_cons, List.length_nil, List.replicate, List.append_nil, List.set_cons_zero, List.set_cons_succ, List.getElem?_cons_zero, List.getElem?_cons_succ, Option.some.injEq, V.int.injEq, V.bl.injEq, V.ref.injEq, List.cons.injEq, and_true, true_and, exists_eq_left, exists_eq_left', exists_and_left, exists_eq, decide_eq_true_eq, Bool.not_eq_true', decide_eq_false_iff_not, cxK, and_assoc, Bool.false_eq_true, ↓reduceIte, tFor_eq, tWhile_eq, tComp_eq, iRng1, iRng2, iList, iTup, iZip, iRev, rIxL, rIxT, rSetL, rCat, rIsi, rSum, rCount, tDelT, rPop, rIntB, tPar, rInsert, rIndex, rLen, rLof, rTof, tChain3, rBits, iSeq, tBM0, rEqD, tRngV, rLstR, tRngV2, rLstR2, rIn, gSubSl, rSlQ, iEnum, iEnumT, tMaxDT, tMaxD, tMinD, rOr, rAll, rAny, ipM, rIxQ, rSlL, tPart, tNoPart, tSl, ipI, rAppend, rRep, cOf_ref, cOf_ty, rTupR2, rPopAt, iZipQ, rExtend, rSlU, tAugS, tFldC, sFldC, tMeth, tMake, iZip3])
def top (i : Nat) : Stmt := PySem.Challenge.pw_dipkin_k43_a_watch_tells.main.body.getD i (.Pass ⟨0, 0, 0, 0⟩)
abbrev s_need_numbers : Stmt := top 6
abbrev s_settle : Stmt := top 8
abbrev s_tree_of : Stmt := top 9
abbrev s_way_up : Stmt := top 10
abbrev s_fences_of : Stmt := top 11
abbrev s_distance_list : Stmt := top 13
abbrev s_row_distances : Stmt := top 15
abbrev s_seen_within : Stmt := top 16
abbrev s_follow : Stmt := top 17
abbrev s_borders_by : Stmt := top 18
abbrev s_need_watched : Stmt := top 21
abbrev s_next_distance : Stmt := top 22
abbrev s_Watch___init__ : Stmt := inClass (top 23) 0
abbrev s_Watch_give : Stmt := inClass (top 23) 1
abbrev s_Watch_reach_now : Stmt := inClass (top 23) 2
abbrev s_Watch_how_many : Stmt := inClass (top 23) 3
abbrev s__law_deal : Stmt := top 25
abbrev s__law_take : Stmt := top 26
abbrev s__law_whole : Stmt := top 27
abbrev s__law_row : Stmt := top 28
abbrev s__law_elder : Stmt := top 29
abbrev s__law_tree : Stmt := top 30
abbrev s__law_either : Stmt := top 31
abbrev s__law_rows : Stmt := top 32
abbrev s__law_stream : Stmt := top 33
abbrev s__law_ended : Stmt := top 34
abbrev s__law_beginnings : Stmt := top 35
abbrev s__law_right : Stmt := top 36
abbrev s_law : Stmt := top 37
structure Txt (K : PySem.W.Frag) (mg : Str → Option Value) : Prop where
  b_all : mg "all" = none
  b_bool : mg "bool" = none
  b_enumerate : mg "enumerate" = none
  b_int : mg "int" = none
  b_isinstance : mg "isinstance" = none
  b_len : mg "len" = none
  b_list : mg "list" = none
  b_max : mg "max" = none
  b_min : mg "min" = none
  b_range : mg "range" = none
  b_tuple : mg "tuple" = none
  b_zip : mg "zip" = none
  c_DipError : mg "DipError" = some (.ref (clsAt mg "DipError"))
  x_DipError : PySem.W.excIn K (clsAt mg "DipError") bmV newV = true
  c_Empty : mg "Empty" = some (.ref (clsAt mg "Empty"))
  x_Empty : PySem.W.excIn K (clsAt mg "Empty") bmV newV = true
  c_TooMany : mg "TooMany" = some (.ref (clsAt mg "TooMany"))
  x_TooMany : PySem.W.excIn K (clsAt mg "TooMany") bmV newV = true
  c_Watch : mg "Watch" = some (.ref (clsAt mg "Watch"))
  cl_Watch : Cls K (clsAt mg "Watch")
  n_Watch_distances : NoAttr K (clsAt mg "Watch") "distances"
  n_Watch_borders : NoAttr K (clsAt mg "Watch") "borders"
  n_Watch_given : NoAttr K (clsAt mg "Watch") "given"
  n_Watch_sizes : NoAttr K (clsAt mg "Watch") "sizes"
  m_MOST_WATCHED : mg "MOST_WATCHED" = some (.int 12 (tokAt mg "MOST_WATCHED"))
abbrev SpT := PySem.W.Frag → (Str → Option Value) → Sp
def spLaw (K : PySem.W.Frag) : Sp := fun vs H Q E => ∃ (a : Addr) (ns : List Int), vs = [.ref a] ∧ SqL K H a (ns.map V.int) ∧ ns.length ≤ 63 ∧ ∀ H', Q (.bl true) H'
def sp__law_whole : SpT := fun K mg vs H Q E => ∃ i : Int, vs = [.int i] ∧ Q (.bl true) H

def sp__law_deal : SpT := fun K mg vs H Q E => ∃ (a : Addr) (ns : List Int) (k : Int), vs = [.ref a, .int k] ∧ SqL K H a (ns.map V.int) ∧ 0 ≤ k ∧ k ≤ 100 ∧ ∀ p H', H p = none → Same H H' → PotAt H' p → Q (.ref p) H'
def sp__law_take : SpT := fun K mg vs H Q E => ∃ (p : Addr) (many : Int), vs = [.ref p, .int many] ∧ 0 < many ∧ many ≤ 1000000001 ∧ PotAt H p ∧ ∀ d H', 0 ≤ d → d < many → PotAt H' p → Exc p H H' → Q (.int d) H'
def sp__law_row : SpT := fun K mg vs H Q E => ∃ (p : Addr) (most : Int), vs = [.ref p, .int most] ∧ 0 ≤ most ∧ most ≤ 1000 ∧ PotAt H p ∧ ∀ (r : Addr) (ns : List Int) H', H r = none → (ns.length : Int) ≤ most → H' r = some (.lst (ns.map V.int)) → PotAt H' p → Exc p H H' → Q (.ref r) H'
def sp__law_elder : SpT := fun K mg vs H Q E => ∃ (r : Addr) (ns : List Int) (i : Nat), vs = [.ref r, .int (i : Int)] ∧ H r = some (.lst (ns.map V.int)) ∧ ns.length ≤ 1000 ∧ i < ns.length ∧ ∀ (e : Int) H', ElderIs (nth ns) ns.length i e → Same H H' → Q (.int e) H'
def sp__law_tree : SpT := fun K mg vs H Q E => ∃ (r : Addr) (ns : List Int), vs = [.ref r] ∧ H r = some (.lst (ns.map V.int)) ∧ ns.length ≤ 1000 ∧ ∀ (t : Addr) (es : List Int) H', TreeIs ns es → Same H H' → H' t = some (.tup (es.map V.int)) → Q (.ref t) H'

def sp_settle : SpT := fun K mg vs H Q E => ∃ (el sp : Addr) (es : List Int) (A B : List Nat) (i : Nat), vs = [.ref el, .ref sp, .int i, .int A.length] ∧ H el = some (.lst (es.map V.int)) ∧ H sp = some (.lst (natsV (A ++ B))) ∧ el ≠ sp ∧ i < es.length ∧ (∀ q ∈ A ++ B, q < es.length) ∧ (A ++ B).length ≤ 1000 ∧
  ∀ H', (∀ b o, b ≠ el → b ≠ sp → H b = some o → H' b = some o) → H' el = some (.lst ((setE es A B i).map V.int)) → H' sp = some (.lst (natsV (A ++ [i]))) → Q .non H'
def sp_tree_of : SpT := fun K mg vs H Q E => ∃ (r : Addr) (ns : List Int), vs = [.ref r] ∧ (SqL K H r (ns.map V.int) ∨ SqT K H r (ns.map V.int)) ∧ ns.length ≤ 1000 ∧ ∀ (t : Addr) (es : List Int) H', TreeIs ns es → Same H H' → H' t = some (.tup (es.map V.int)) → Q (.ref t) H'

def sp_way_up : SpT := fun K mg vs H Q E => ∃ (t : Addr) (T : List Int) (p : Nat), vs = [.ref t, .int p] ∧ H t = some (.tup (T.map V.int)) ∧ T.length ≤ 1000 ∧ p < T.length ∧ ∀ (w : Addr) H', H w = none → Same H H' → H' w = some (.lst ((wayI T p).map V.int)) → Q (.ref w) H'

def sp_fences_of : SpT := fun K mg vs H Q E => ∃ (t : Addr) (ns T : List Int), vs = [.ref t] ∧ H t = some (.tup (T.map V.int)) ∧ TreeIs ns T ∧ ns.length ≤ 1000 ∧ ∀ (l : Addr) H', Same H H' → PairsAt H' l ns.length (fun p => (fenA (nth ns) p, fenB (nth ns) ns.length p)) → Q (.ref l) H'
def sp_distance_list : SpT := fun K mg vs H Q E => ∃ (t : Addr) (ns T : List Int), vs = [.ref t] ∧ H t = some (.tup (T.map V.int)) ∧ TreeIs ns T ∧ ns.length ≤ 1000 ∧ ∀ (l : Addr) H', H l = none → Same H H' → H' l = some (.lst ((distI ns).map V.int)) → Q (.ref l) H'

def sp_row_distances : SpT := fun K mg vs H Q E => ∃ (r : Addr) (ns : List Int), vs = [.ref r] ∧ (SqL K H r (ns.map V.int) ∨ SqT K H r (ns.map V.int)) ∧ ns.length ≤ 1000 ∧ ∀ (l : Addr) H', H l = none → Same H H' → H' l = some (.lst ((distI ns).map V.int)) → Q (.ref l) H'
def sp_seen_within : SpT := fun K mg vs H Q E => ∃ (d : Int) (k : Nat), vs = [.int d, .int k] ∧ Q (.int (sw d k)) H
def BordersAt (f : Nat → Int) (bs : List Nat) : Prop := ∀ k, k < bs.length → IsBorder f (k + 1) (bs.getD k 0)
def sp_follow : SpT := fun K mg vs H Q E => ∃ (l b : Addr) (ns : List Int) (bs : List Nat) (s : Nat) (d : Int), vs = [.ref l, .ref b, .int s, .int d] ∧ H l = some (.lst ((distI ns).map V.int)) ∧ H b = some (.lst (natsV bs)) ∧ BordersAt (nth ns) bs ∧ ns.length ≤ 1000 ∧ 0 < ns.length ∧ s ≤ bs.length ∧ bs.length ≤ ns.length ∧ 0 ≤ d ∧ ∀ m : Nat, Goes (nth ns) ns.length s d m → Q (.int ((m + 1 : Nat) : Int)) H
def sp_borders_by : SpT := fun K mg vs H Q E => ∃ (l : Addr) (ns : List Int), vs = [.ref l] ∧ H l = some (.lst ((distI ns).map V.int)) ∧ ns.length ≤ 1000 ∧ ∀ (b : Addr) (bs : List Nat) H', H b = none → bs.length = ns.length → BordersAt (nth ns) bs → Same H H' → H' b = some (.lst (natsV bs)) → Q (.ref b) H'
def sp_borders_of : SpT := fun K mg vs H Q E => ∃ (r : Addr) (ns : List Int), vs = [.ref r] ∧ (SqL K H r (ns.map V.int) ∨ SqT K H r (ns.map V.int)) ∧ ns.length ≤ 1000 ∧ ∀ (b : Addr) (bs : List Nat) H', H b = none → bs.length = ns.length → BordersAt (nth ns) bs → Same H H' → H' b = some (.lst (natsV bs)) → Q (.ref b) H'

def sp_need_numbers : SpT := fun K mg vs H Q E => ∃ (r : Addr) (ns : List Int) (k : Int), vs = [.ref r, .int k] ∧ (SqL K H r (ns.map V.int) ∨ SqT K H r (ns.map V.int)) ∧ ns.length ≤ 1000 ∧ 0 ≤ k ∧ k ≤ 1000 ∧ (k ≤ ns.length → Q .non H) ∧ ((ns.length : Int) < k → E (.ref (clsAt mg "Empty")) none H)
def sp_starts_of : SpT := fun K mg vs H Q E => ∃ (r t : Addr) (ns ms : List Int), vs = [.ref r, .ref t] ∧ (SqL K H r (ns.map V.int) ∨ SqT K H r (ns.map V.int)) ∧ (SqL K H t (ms.map V.int) ∨ SqT K H t (ms.map V.int)) ∧ ns.length ≤ 1000 ∧ ms.length ≤ 1000 ∧ (ns.length = 0 → E (.ref (clsAt mg "Empty")) none H) ∧
  (0 < ns.length → ∀ (b : Addr) H', H b = none → Same H H' → H' b = some (.lst (natsV (startsTo (nth ns) (nth ms) ns.length ms.length))) → Q (.ref b) H')
def sp__law_sought : SpT := fun K mg vs H Q E => ∃ p : Addr, vs = [.ref p] ∧ PotAt H p ∧ ∀ (r : Addr) (ns : List Int) H', H r = none → 0 < ns.length → ns.length ≤ 40 → H' r = some (.lst (ns.map V.int)) → PotAt H' p → Exc p H H' → Q (.ref r) H'
def sp__law_text : SpT := fun K mg vs H Q E => ∃ (p r : Addr) (ns : List Int), vs = [.ref p, .ref r] ∧ PotAt H p ∧ r ≠ p ∧ H r = some (.lst (ns.map V.int)) ∧ 0 < ns.length ∧ ns.length ≤ 40 ∧ ∀ (t : Addr) (ms : List Int) H', H t = none → ms.length ≤ 40 → H' t = some (.lst (ms.map V.int)) → PotAt H' p → Exc p H H' → Q (.ref t) H'
def sp__law_starts : SpT := fun K mg vs H Q E => ∃ (r t : Addr) (ns ms : List Int), vs = [.ref r, .ref t] ∧ H r = some (.lst (ns.map V.int)) ∧ H t = some (.lst (ms.map V.int)) ∧ ns.length ≤ 1000 ∧ ms.length ≤ 1000 ∧ 0 < ns.length ∧ ∀ (b : Addr) H', H b = none → Same H H' → H' b = some (.lst (natsV (startsTo (nth ns) (nth ms) ns.length ms.length))) → Q (.ref b) H'

def RowsX (N : Addr → Prop) (H : Hp) (q : Addr) (Rs : List (List Int)) : Prop := ∃ as : List Addr, H q = some (.lst (as.map V.ref)) ∧ as.length = Rs.length ∧ ∀ i (h1 : i < as.length) (h2 : i < Rs.length), N as[i] ∧ H as[i] = some (.lst (Rs[i].map V.int))
theorem RowsX.same {N : Addr → Prop} {H H' : Hp} {q : Addr} {Rs : List (List Int)} (h : RowsX N H q Rs) (s : Same H H') : RowsX N H' q Rs := by
  obtain ⟨as, h1, h2, h3⟩ := h
  exact ⟨as, s _ _ h1, h2, fun i i1 i2 => ⟨(h3 i i1 i2).1, s _ _ (h3 i i1 i2).2⟩⟩
theorem RowsX.pot {H H' : Hp} {q p : Addr} {Rs : List (List Int)} (h : RowsX (fun a => a ≠ p) H q Rs) (n : q ≠ p) (e : Exc p H H') : RowsX (fun a => a ≠ p) H' q Rs := by
  obtain ⟨as, h1, h2, h3⟩ := h
  exact ⟨as, e _ _ n h1, h2, fun i i1 i2 => ⟨(h3 i i1 i2).1, e _ _ (h3 i i1 i2).1 (h3 i i1 i2).2⟩⟩
theorem RowsX.push {N : Addr → Prop} {H : Hp} {q r : Addr} {Rs : List (List Int)} {R : List Int} {xs : List V} (h : RowsX N H q Rs) (hx : H q = some (.lst xs)) (hr : H r = some (.lst (R.map V.int))) (n : N r) (nq : r ≠ q) (nn : ∀ i (h1 : i < Rs.length), ∀ as : List Addr, H q = some (.lst (as.map V.ref)) → ∀ h2 : i < as.length, as[i] ≠ q) : RowsX N (upd H q (.lst (xs ++ [V.ref r]))) q (Rs ++ [R]) := by
  obtain ⟨as, h1, h2, h3⟩ := h
  have ex : xs = as.map V.ref := by rw [h1] at hx; cases hx; rfl
  subst ex
  refine ⟨as ++ [r], by rw [upd_same]; simp, by simp [h2], fun i i1 i2 => ?_⟩
  by_cases hi : i < as.length
  · rw [List.getElem_append_left hi, List.getElem_append_left (show i < Rs.length by omega)]
    exact ⟨(h3 i hi (by omega)).1, by rw [upd_ne (nn i (by omega) as h1 hi)]; exact (h3 i hi (by omega)).2⟩
  · have hi' : i = as.length := by simp at i1; omega
    subst hi'
    have e1 : (as ++ [r])[as.length]'i1 = r := by simp
    have e2 : (Rs ++ [R])[as.length]'i2 = R := by simp [h2]
    rw [e1, e2]
    exact ⟨n, by rw [upd_ne nq]; exact hr⟩
def Few (Rs : List (List Int)) (n : Nat) : Prop := 0 < Rs.length ∧ Rs.length ≤ n ∧ ∀ R ∈ Rs, 0 < R.length ∧ R.length ≤ 12
def sp_next_distance : SpT := fun K mg vs H Q E => ∃ (g : Addr) (gs : List Int) (n : Int), vs = [.ref g, .int n] ∧ H g = some (.lst (gs.map V.int)) ∧ gs.length ≤ 1000 ∧ Q (.int (distN (nth (gs ++ [n])) gs.length)) H
/-- rows in a list or a tuple, each a list or a tuple -/
def RowsQ (H : Hp) (q : Addr) (Rs : List (List Int)) : Prop := ∃ (t : Bool) (as : List Addr), H q = some (if t then .tup (as.map V.ref) else .lst (as.map V.ref)) ∧ as.length = Rs.length ∧ ∀ i (h1 : i < as.length) (h2 : i < Rs.length), H as[i] = some (.lst (Rs[i].map V.int)) ∨ H as[i] = some (.tup (Rs[i].map V.int))
theorem RowsQ.same {H H' : Hp} {q : Addr} {Rs : List (List Int)} (h : RowsQ H q Rs) (s : Same H H') : RowsQ H' q Rs := by
  obtain ⟨t, as, h1, h2, h3⟩ := h
  exact ⟨t, as, s _ _ h1, h2, fun i i1 i2 => (h3 i i1 i2).imp (s _ _) (s _ _)⟩
def sp_need_watched : SpT := fun K mg vs H Q E => ∃ (q : Addr) (Rs : List (List Int)), vs = [.ref q] ∧ RowsQ H q Rs ∧ Few Rs 12 ∧ ∀ H', Same H H' → Q .non H'
def cW (mg : Str → Option Value) : Addr := clsAt mg "Watch"
/-- the attributes of a watch -/
def wF (d b g z : Addr) : List (Str × V) := putF "sizes" (.ref z) (putF "given" (.ref g) (putF "borders" (.ref b) (putF "distances" (.ref d) [])))
theorem wF_z (d b g z : Addr) : (wF d b g z).lookup ("sizes" : Str) = some (.ref z) := by unfold wF; rw [lookup_putF, if_pos rfl]
theorem wF_g (d b g z : Addr) : (wF d b g z).lookup ("given" : Str) = some (.ref g) := by unfold wF; rw [lookup_putF, if_neg (by decide +kernel), lookup_putF, if_pos rfl]
theorem wF_b (d b g z : Addr) : (wF d b g z).lookup ("borders" : Str) = some (.ref b) := by unfold wF; rw [lookup_putF, if_neg (by decide +kernel), lookup_putF, if_neg (by decide +kernel), lookup_putF, if_pos rfl]
theorem wF_d (d b g z : Addr) : (wF d b g z).lookup ("distances" : Str) = some (.ref d) := by unfold wF; rw [lookup_putF, if_neg (by decide +kernel), lookup_putF, if_neg (by decide +kernel), lookup_putF, if_neg (by decide +kernel), lookup_putF, if_pos rfl]
theorem wF_no {m : Str} {d b g z : Addr} (h1 : ¬ m = "sizes") (h2 : ¬ m = "given") (h3 : ¬ m = "borders") (h4 : ¬ m = "distances") : (wF d b g z).lookup m = none := by unfold wF; rw [lookup_putF, if_neg h1, lookup_putF, if_neg h2, lookup_putF, if_neg h3, lookup_putF, if_neg h4]; rfl
/-- the distances and borders of the rows: da, ba their addresses, all in N -/
def ToldAt (N : Addr → Prop) (H : Hp) (da ba : List Addr) (Rs : List (List Int)) : Prop := da.length = Rs.length ∧ ba.length = Rs.length ∧ ∀ i (h1 : i < da.length) (h2 : i < ba.length) (h3 : i < Rs.length), N da[i] ∧ N ba[i] ∧ H da[i] = some (.lst ((distI Rs[i]).map V.int)) ∧ ∃ L : List Nat, L.length = Rs[i].length ∧ BordersAt (nth Rs[i]) L ∧ H ba[i] = some (.lst (natsV L))
def LongsIs (Rs : List (List Int)) (gs : List Int) (S : List Nat) : Prop := S.length = Rs.length ∧ ∀ i (h1 : i < Rs.length) (h2 : i < S.length), IsLong (nth Rs[i]) (nth gs) Rs[i].length gs.length S[i]
def WatchAt (N : Addr → Prop) (mg : Str → Option Value) (H : Hp) (x d b g z : Addr) (Rs : List (List Int)) (gs : List Int) (S : List Nat) : Prop := ∃ (dx : Addr) (da ba za : List Addr) (zl : Addr), H x = some (.ins (cW mg) dx (wF d b g z)) ∧ H d = some (.lst (da.map V.ref)) ∧ H b = some (.lst (ba.map V.ref)) ∧ ToldAt (fun a => a ≠ g ∧ a ≠ z) H da ba Rs ∧ H g = some (.lst (gs.map V.int)) ∧ H z = some (.lst ((za ++ [zl]).map V.ref)) ∧ za.length = gs.length ∧ H zl = some (.lst (natsV S)) ∧ (d ≠ g ∧ d ≠ z ∧ b ≠ g ∧ b ≠ z ∧ g ≠ z ∧ zl ≠ g ∧ zl ≠ z ∧ N d ∧ N b ∧ N zl ∧ (∀ a ∈ da, N a) ∧ ∀ a ∈ ba, N a) ∧ LongsIs Rs gs S ∧ ∀ j (h : j < za.length), ∃ S0, (N za[j] ∧ za[j] ≠ g ∧ za[j] ≠ z) ∧ H za[j] = some (.lst (natsV S0)) ∧ LongsIs Rs (gs.take j) S0
def hitsL (Rs : List (List Int)) (S : List Nat) : List Nat := (List.range Rs.length).filter fun i => decide (S.getD i 0 = (Rs.getD i []).length)
def sp_Watch___init__ : SpT := fun K mg vs H Q E => ∃ (x dx q : Addr) (M : Addr → Prop) (Rs : List (List Int)), vs = [.ref x, .ref q] ∧ H x = some (.ins (cW mg) dx []) ∧ RowsQ H q Rs ∧ Few Rs 12 ∧ (∀ a, H a = none → M a) ∧ ∀ (d b g z : Addr) H', WatchAt M mg H' x d b g z Rs [] (List.replicate Rs.length 0) → H g = none → H z = none → Exc x H H' → Q .non H'
def sp_Watch_reach_now : SpT := fun K mg vs H Q E => ∃ (N : Addr → Prop) (x d b g z : Addr) (Rs : List (List Int)) (gs : List Int) (S : List Nat), vs = [.ref x] ∧ WatchAt N mg H x d b g z Rs gs S ∧ 0 < Rs.length ∧ ∀ m : Nat, m ∈ S → (∀ a ∈ S, a ≤ m) → Q (.int (m : Int)) H
def sp_Watch_give : SpT := fun K mg vs H Q E => ∃ (N : Addr → Prop) (x d b g z : Addr) (n : Int) (Rs : List (List Int)) (gs : List Int) (S : List Nat), vs = [.ref x, .int n] ∧ WatchAt N mg H x d b g z Rs gs S ∧ (∀ a, H a = none → N a) ∧ Few Rs 12 ∧ gs.length ≤ 100 ∧ ∀ (c : Addr) (S' : List Nat) H', H c = none → H' c = some (.lst (natsV (hitsL Rs S'))) → WatchAt (fun a => N a ∧ a ≠ c) mg H' x d b g z Rs (gs ++ [n]) S' → (∀ a o, a ≠ g → a ≠ z → H a = some o → H' a = some o) → Q (.ref c) H'

/-- the trees of the beginnings of the rows: a list of lists of tuples -/
def TreesX (N : Addr → Prop) (H : Hp) (t : Addr) (Rs : List (List Int)) : Prop := ∃ (as : List Addr) (bs : Nat → List Addr) (T : Nat → Nat → List Int), H t = some (.lst (as.map V.ref)) ∧ N t ∧ as.length = Rs.length ∧ ∀ i (h1 : i < as.length) (h2 : i < Rs.length), N as[i] ∧ H as[i] = some (.lst ((bs i).map V.ref)) ∧ (bs i).length = Rs[i].length ∧ ∀ k (h : k < (bs i).length), TreeIs (Rs[i].take (k + 1)) (T i k) ∧ H (bs i)[k] = some (.tup ((T i k).map V.int))
def sp__law_rows : SpT := fun K mg vs H Q E => ∃ p : Addr, vs = [.ref p] ∧ PotAt H p ∧ ∀ (q : Addr) (Rs : List (List Int)) H', H q = none → q ≠ p → Few Rs 12 → RowsX (fun a => a ≠ p) H' q Rs → PotAt H' p → Exc p H H' → Q (.ref q) H'
def sp__law_stream : SpT := fun K mg vs H Q E => ∃ (p q : Addr) (Rs : List (List Int)), vs = [.ref p, .ref q] ∧ PotAt H p ∧ RowsX (fun a => a ≠ p) H q Rs ∧ q ≠ p ∧ Few Rs 12 ∧ ∀ (g : Addr) (gs : List Int) H', H g = none → gs.length ≤ 60 → H' g = some (.lst (gs.map V.int)) → PotAt H' p → Exc p H H' → Q (.ref g) H'
def sp__law_beginnings : SpT := fun K mg vs H Q E => ∃ (q : Addr) (N M : Addr → Prop) (Rs : List (List Int)), vs = [.ref q] ∧ RowsX N H q Rs ∧ Few Rs 12 ∧ (∀ a, H a = none → M a) ∧ ∀ (t : Addr) H', Same H H' → TreesX M H' t Rs → Q (.ref t) H'
def sp__law_ended : SpT := fun K mg vs H Q E => ∃ (t g : Addr) (N : Addr → Prop) (Rs : List (List Int)) (gs : List Int), vs = [.ref t, .ref g] ∧ TreesX N H t Rs ∧ Few Rs 12 ∧ H g = some (.lst (gs.map V.int)) ∧ gs.length ≤ 200 ∧ ∀ (u e : Addr) (L : List Nat) (m : Nat) H', Same H H' → H e = none → H' u = some (.tup [.ref e, .int (m : Int)]) → H' e = some (.lst (natsV L)) → (∀ S, LongsIs Rs gs S → L = hitsL Rs S ∧ m ∈ S ∧ ∀ a ∈ S, a ≤ m) → Q (.ref u) H'
def sp_Watch_how_many : SpT := fun K mg vs H Q E => ∃ (N : Addr → Prop) (x d b g z : Addr) (Rs : List (List Int)) (gs : List Int) (S : List Nat), vs = [.ref x] ∧ WatchAt N mg H x d b g z Rs gs S ∧ Q (.int (gs.length : Int)) H
def BackW (mg : Str → Option Value) (N : Addr → Prop) (H : Hp) (x d b g z : Addr) (Rs : List (List Int)) (gs : List Int) (Q : VK) : Prop := ∀ (gs0 : List Int) (n : Int), gs = gs0 ++ [n] → ∀ S0 H', WatchAt N mg H' x d b g z Rs gs0 S0 → (∀ a o, a ≠ g → a ≠ z → H a = some o → H' a = some o) → Q (.int n) H'
def sp_Watch_take_back : SpT := fun K mg vs H Q E => ∃ (N : Addr → Prop) (x d b g z : Addr) (Rs : List (List Int)) (gs : List Int) (S : List Nat), vs = [.ref x] ∧ WatchAt N mg H x d b g z Rs gs S ∧ gs.length ≤ 200 ∧ (gs = [] → E (.ref (clsAt mg "NoPast")) none H) ∧ BackW mg N H x d b g z Rs gs Q
def sp__law_back : SpT := fun K mg vs H Q E => ∃ (N : Addr → Prop) (x d b g z : Addr) (Rs : List (List Int)) (gs : List Int) (S : List Nat), vs = [.ref x] ∧ WatchAt N mg H x d b g z Rs gs S ∧ gs.length ≤ 200 ∧ (gs = [] → ∀ (e : Addr) H', Same H H' → H' e = some (ExcO e (clsAt mg "NoPast")) → Q (.ref e) H') ∧ BackW mg N H x d b g z Rs gs Q
def sp__law_backward : SpT := fun K mg vs H Q E => ∃ (N : Addr → Prop) (x d b g z q : Addr) (Rs : List (List Int)) (gs : List Int) (S : List Nat), vs = [.ref x, .ref q] ∧ WatchAt N mg H x d b g z Rs gs S ∧ H q = some (.lst (gs.map V.int)) ∧ (∀ a, N a → a ≠ q) ∧ q ≠ g ∧ q ≠ z ∧ gs.length ≤ 200 ∧ ∀ S0 H', WatchAt N mg H' x d b g z Rs gs.dropLast S0 → H' q = some (.lst (gs.dropLast.map V.int)) → (∀ a o, a ≠ g → a ≠ z → a ≠ q → H a = some o → H' a = some o) → Q (.bl true) H'
def sp__law_stands : SpT := fun K mg vs H Q E => ∃ (N M : Addr → Prop) (x d b g z q t : Addr) (Rs : List (List Int)) (gs : List Int) (S : List Nat), vs = [.ref x, .ref t, .ref q] ∧ WatchAt N mg H x d b g z Rs gs S ∧ TreesX M H t Rs ∧ Few Rs 12 ∧ H q = some (.lst (gs.map V.int)) ∧ gs.length ≤ 200 ∧ ∀ H', Same H H' → Q (.bl true) H'

def sp__law_either : SpT := fun K mg vs H Q E => ∃ (p r : Addr) (ns : List Int), vs = [.ref p, .ref r] ∧ PotAt H p ∧ r ≠ p ∧ H r = some (.lst (ns.map V.int)) ∧ ns.length ≤ 1000 ∧ ∀ (u : Addr) H', H u = none → (H' u = some (.lst (ns.map V.int)) ∨ H' u = some (.tup (ns.map V.int))) → PotAt H' p → Exc p H H' → Q (.ref u) H'
/-- the watch tells, and the list told is then spoilt -/
def sp__law_right : SpT := fun K mg vs H Q E => ∃ (N M : Addr → Prop) (x d b g z t y c : Addr) (Rs : List (List Int)) (gs : List Int) (S : List Nat), vs = [.ref x, .ref t, .ref y, .ref c] ∧ WatchAt N mg H x d b g z Rs gs S ∧ (∀ a, N a → a ≠ c) ∧ c ≠ g ∧ c ≠ z ∧ y ≠ c ∧ TreesX M H t Rs ∧ Few Rs 12 ∧ H y = some (.lst (gs.map V.int)) ∧ gs.length ≤ 200 ∧ H c = some (.lst (natsV (hitsL Rs S))) ∧ ∀ H', Exc c H H' → Q (.bl true) H'

section
variable {P : Program} {w : World} {K : PySem.W.Frag} {mg : Str → Option Value} {base : Heap}
theorem sc_need_numbers : FnScope ["row", "fewest"] ["row", "fewest"] (defScope s_need_numbers) := ⟨rfl, rfl, rfl, by decide +kernel, rfl, by decide +kernel, by decide +kernel⟩
theorem sc_settle : FnScope ["elders", "spine", "place", "keep"] ["elders", "spine", "place", "keep"] (defScope s_settle) := ⟨rfl, rfl, rfl, by decide +kernel, rfl, by decide +kernel, by decide +kernel⟩
theorem sc_tree_of : FnScope ["row", "elders", "spine", "place", "keep"] ["row"] (defScope s_tree_of) := ⟨rfl, rfl, rfl, by decide +kernel, rfl, by decide +kernel, by decide +kernel⟩
theorem sc_way_up : FnScope ["tree", "place", "way", "at"] ["tree", "place"] (defScope s_way_up) := ⟨rfl, rfl, rfl, by decide +kernel, rfl, by decide +kernel, by decide +kernel⟩
theorem sc_fences_of : FnScope ["tree", "fences", "place", "way", "ahead", "behind"] ["tree"] (defScope s_fences_of) := ⟨rfl, rfl, rfl, by decide +kernel, rfl, by decide +kernel, by decide +kernel⟩
theorem sc_distance_list : FnScope ["tree"] ["tree"] (defScope s_distance_list) := ⟨rfl, rfl, rfl, by decide +kernel, rfl, by decide +kernel, by decide +kernel⟩
theorem sc_row_distances : FnScope ["row"] ["row"] (defScope s_row_distances) := ⟨rfl, rfl, rfl, by decide +kernel, rfl, by decide +kernel, by decide +kernel⟩
theorem sc_seen_within : FnScope ["distance", "size"] ["distance", "size"] (defScope s_seen_within) := ⟨rfl, rfl, rfl, by decide +kernel, rfl, by decide +kernel, by decide +kernel⟩
theorem sc_follow : FnScope ["told", "borders", "size", "distance"] ["told", "borders", "size", "distance"] (defScope s_follow) := ⟨rfl, rfl, rfl, by decide +kernel, rfl, by decide +kernel, by decide +kernel⟩
theorem sc_borders_by : FnScope ["told", "borders", "distance"] ["told"] (defScope s_borders_by) := ⟨rfl, rfl, rfl, by decide +kernel, rfl, by decide +kernel, by decide +kernel⟩
theorem sc_need_watched : FnScope ["rows", "row"] ["rows"] (defScope s_need_watched) := ⟨rfl, rfl, rfl, by decide +kernel, rfl, by decide +kernel, by decide +kernel⟩
theorem sc_next_distance : FnScope ["given", "number", "back"] ["given", "number"] (defScope s_next_distance) := ⟨rfl, rfl, rfl, by decide +kernel, rfl, by decide +kernel, by decide +kernel⟩
theorem sc_Watch___init__ : FnScope ["self", "rows"] ["self", "rows"] (defScope s_Watch___init__) := ⟨rfl, rfl, rfl, by decide +kernel, rfl, by decide +kernel, by decide +kernel⟩
theorem sc_Watch_give : FnScope ["self", "number", "distance", "sizes", "told", "borders", "size"] ["self", "number"] (defScope s_Watch_give) := ⟨rfl, rfl, rfl, by decide +kernel, rfl, by decide +kernel, by decide +kernel⟩
theorem sc_Watch_reach_now : FnScope ["self"] ["self"] (defScope s_Watch_reach_now) := ⟨rfl, rfl, rfl, by decide +kernel, rfl, by decide +kernel, by decide +kernel⟩
theorem sc_Watch_how_many : FnScope ["self"] ["self"] (defScope s_Watch_how_many) := ⟨rfl, rfl, rfl, by decide +kernel, rfl, by decide +kernel, by decide +kernel⟩
theorem sc__law_deal : FnScope ["script", "k", "cell", "seed", "number", "turn"] ["script", "k"] (defScope s__law_deal) := ⟨rfl, rfl, rfl, by decide +kernel, rfl, by decide +kernel, by decide +kernel⟩
theorem sc__law_take : FnScope ["pot", "many", "digit"] ["pot", "many"] (defScope s__law_take) := ⟨rfl, rfl, rfl, by decide +kernel, rfl, by decide +kernel, by decide +kernel⟩
theorem sc__law_whole : FnScope ["thing"] ["thing"] (defScope s__law_whole) := ⟨rfl, rfl, rfl, by decide +kernel, rfl, by decide +kernel, by decide +kernel⟩
theorem sc__law_row : FnScope ["pot", "most", "many", "kind", "turn", "row", "k"] ["pot", "most"] (defScope s__law_row) := ⟨rfl, rfl, rfl, by decide +kernel, rfl, by decide +kernel, by decide +kernel⟩
theorem sc__law_elder : FnScope ["row", "place", "earlier", "later"] ["row", "place"] (defScope s__law_elder) := ⟨rfl, rfl, rfl, by decide +kernel, rfl, by decide +kernel, by decide +kernel⟩
theorem sc__law_tree : FnScope ["row"] ["row"] (defScope s__law_tree) := ⟨rfl, rfl, rfl, by decide +kernel, rfl, by decide +kernel, by decide +kernel⟩
theorem sc__law_either : FnScope ["pot", "some"] ["pot", "some"] (defScope s__law_either) := ⟨rfl, rfl, rfl, by decide +kernel, rfl, by decide +kernel, by decide +kernel⟩
theorem sc__law_rows : FnScope ["pot", "rows", "turn", "row"] ["pot"] (defScope s__law_rows) := ⟨rfl, rfl, rfl, by decide +kernel, rfl, by decide +kernel, by decide +kernel⟩
theorem sc__law_stream : FnScope ["pot", "rows", "most", "given", "row", "turn"] ["pot", "rows"] (defScope s__law_stream) := ⟨rfl, rfl, rfl, by decide +kernel, rfl, by decide +kernel, by decide +kernel⟩
theorem sc__law_ended : FnScope ["trees", "given", "lasts", "ended", "most", "at", "begun", "k"] ["trees", "given"] (defScope s__law_ended) := ⟨rfl, rfl, rfl, by decide +kernel, rfl, by decide +kernel, by decide +kernel⟩
theorem sc__law_beginnings : FnScope ["rows"] ["rows"] (defScope s__law_beginnings) := ⟨rfl, rfl, rfl, by decide +kernel, rfl, by decide +kernel, by decide +kernel⟩
theorem sc__law_right : FnScope ["watch", "trees", "given", "told", "ended", "most", "turn"] ["watch", "trees", "given", "told"] (defScope s__law_right) := ⟨rfl, rfl, rfl, by decide +kernel, rfl, by decide +kernel, by decide +kernel⟩
theorem sc_law : FnScope ["script", "k", "pot", "both", "handed", "watches", "rows", "row", "streams", "trees", "at", "which", "told"] ["script"] (defScope s_law) := ⟨rfl, rfl, rfl, by decide +kernel, rfl, by decide +kernel, by decide +kernel⟩
theorem ok__law_whole {f : Addr} {fd : FuncData} (F : Fun K "_law_whole" "_law_whole" s__law_whole f fd)  (T : Txt K mg) : FnOk P w K mg base (CXE P w) 1 f fd ["thing"] (sp__law_whole K mg) := by
  refine F.okX sc__law_whole (fun vs H Q E h => ?_) (fun cdv A outer s H vs Q E hr h => ?_)
  · obtain ⟨n, rfl, _⟩ := h; rfl
  obtain ⟨i, rfl, k1⟩ := h
  refine ⟨_, (pss_one (ps_ret (pe_and (pe_callB (call_isiK (K := K) rfl) rfl T.b_isinstance bt_isinstance (pa_cons (pv 0) (pa_cons (pe_bltn (v := .ty "int") rfl T.b_int bt_int rfl) pa_nil))) (pe_one (pe_not (pe_callB (call_isiK (K := K) rfl) rfl T.b_isinstance bt_isinstance (pa_cons (pv 0) (pa_cons (pe_bltn (v := .ty "bool") rfl T.b_bool bt_bool rfl) pa_nil)))))))), ?_⟩
  walk_at "rd"
  exact ⟨_, ty_ii, iteT ⟨_, ty_ib, k1⟩⟩

theorem ok__law_deal {f : Addr} {fd : FuncData} (F : Fun K "_law_deal" "_law_deal" s__law_deal f fd)  (T : Txt K mg) : FnOk P w K mg base (CXE P w) 1 f fd ["script", "k"] (sp__law_deal K mg) := by
  refine F.okX sc__law_deal (fun vs H Q E h => ?_) (fun cdv A outer s H vs Q E hr h => ?_)
  · obtain ⟨a, ns, k, rfl, _⟩ := h; rfl
  obtain ⟨a, ns, k, rfl, hS, h0, h1, k1⟩ := h
  refine ⟨_, (pss_cons (ps_set (i := 2) sc__law_deal.nd rfl (Or.inl rfl) pe_int)
      (pss_cons (ps_if (pt_cmpR op_lt (pv 1) (pe_callB (call_lenK (K := K) rfl) rfl T.b_len PySem.boot_len (pa_cons (pv 0) pa_nil)) (nomark _)) (pss_one (ps_set (i := 2) sc__law_deal.nd rfl (Or.inl rfl) (pe_op op_mod (pe_ix ix_list (pv 0) (pv 1) (fun _ _ => rfl)) (pe_op op_mulX (pe_op op_mulX (pe_op op_mulX (pe_op op_pow pe_int pe_int) (pe_op op_pow pe_int pe_int)) (pe_op op_pow pe_int pe_int)) (pe_op op_pow pe_int pe_int))))) pss_nil)
      (pss_cons (ps_if (pt_cmpR op_ge (pv 2) (pe_op op_pow pe_int pe_int) (nomark _)) (pss_one (ps_ret (pe_lst (pa_cons (pe_op op_sub (pv 2) (pe_op op_pow pe_int pe_int)) pa_nil)))) pss_nil)
      (pss_cons (ps_set (i := 3) sc__law_deal.nd rfl (Or.inl rfl) (pe_op op_add (pe_op op_add (pe_op op_mod (pv 2) pe_int) (pe_op op_mulX pe_int (pv 1))) pe_int))
      (pss_cons (ps_set (i := 4) sc__law_deal.nd rfl (Or.inl rfl) pe_int)
      (pss_cons (ps_nox (ps_for PassesOwn.never rfl (pi_range1 rfl T.b_range (pa_cons pe_int pa_nil)) (pg_name (i := 5) sc__law_deal.nd rfl (Or.inl rfl)) (pss_cons (ps_set (i := 3) sc__law_deal.nd rfl (Or.inl rfl) (pe_op op_mod (pe_op op_add (pe_op op_mulX (pv 3) pe_int) pe_int) pe_int))
      (pss_one (ps_set (i := 4) sc__law_deal.nd rfl (Or.inl rfl) (pe_op op_add (pe_op op_mulX (pv 4) pe_int) (pe_op op_mod (pe_op op_fdivL (pe_op op_mod (pe_op op_mulX (pv 3) (pv 3)) pe_int) pe_int) pe_int)))))))
      (pss_one (ps_ret (pe_lst (pa_cons (pv 4) pa_nil)))))))))), ?_⟩
  simp only [tIfS, tNot, tTest, tChain, rI0, rI, rU, tVar, tC, tB, tIf, tAndV, tOrV, tNotV, tCall, tCallX, tCons, tNil, tAsg, tSeq, tRet, tNext, tOp, tUn, tAnd, tOr, tDrop, gName, gSub, tAug, tCB, tSl, tRaise, tLst, tTup, L2.start, tYes, gTup, gCons, gNil, iniC, Option.join_some, Option.join_none, rEq, rNe, scal_ii, scal_bb, scal_ss, scal_nn, scal_ni, scal_in, tBM, Bool.true_eq_false, List.map_cons, List.map_nil, List.cons_append, List.nil_append, List.length_cons, List.length_nil, List.replicate, List.append_nil, List.set_cons_zero, List.set_cons_succ, List.getElem?_cons_zero, List.getElem?_cons_succ, Option.some.injEq, V.int.injEq, V.bl.injEq, V.ref.injEq, List.cons.injEq, and_true, true_and, exists_eq_left, exists_eq_left', exists_and_left, exists_eq, decide_eq_true_eq, Bool.not_eq_true', decide_eq_false_iff_not, cxK, and_assoc, Bool.false_eq_true, ↓reduceIte, tFor_eq, tWhile_eq, tComp_eq, iRng1, iRng2, iList, iTup, iZip, iRev, rIxL, rIxT, rSetL, rCat, rIsi, rSum, rCount, tDelT, rPop, rIntB, tPar, rInsert, rIndex, rLen, rLof, rTof, tChain3, rBits, iSeq, tBM0, rEqD, tRngV, rLstR, tRngV2, rLstR2, rIn, gSubSl, rSlQ, iEnum, iEnumT, tMaxDT, tMaxD, tMinD, rOr, rAll, rAny, ipM, rIxQ, rSlL, tPart, tNoPart, tSl, ipI, rAppend, rRep, cOf_ref, cOf_ty, rTupR2, rPopAt, iZipQ, rExtend, rSlU, tAugS, tFldC, sFldC, tMeth, tMake, iZip3, cp18, cp60, qm1, qm2, qm3, qm4]
  have fin : ∀ g : Int, 0 ≤ g → ∀ p, H p = none → Q (V.ref p) (upd H p (.lst [V.int g])) := fun g hg p hp => k1 p _ hp ((Same.refl H).upd hp) ⟨_, upd_same, hg⟩
  refine ⟨_, .inl hS, ite2 (fun hk => ?_) (fun hk => ?_)⟩
  case' refine_1 =>
    obtain ⟨j, hj0⟩ := Int.eq_ofNat_of_zero_le h0
    have hj : j < (ns.map V.int).length := by omega
    refine ⟨_, hS, _, atI_at hj0 hj, ns[j]'(by simpa using hj), by simp, ite2 (fun c => ⟨by decide, fin _ (Int.sub_nonneg.mpr c)⟩) (fun _ => ⟨by decide, mul_l (by decide) (by decide), by decide, by decide, ?_⟩)⟩
  case' refine_2 =>
    refine ite2 (fun z => absurd z (by decide)) (fun _ => ⟨by decide, mul_l (by decide) (by decide), by decide, by decide, ?_⟩)
  all_goals
    refine for_range (fun i σ H' => ∃ v2 g o v5, σ = [some (.ref a), some (.int k), v2, some (.int o), some (.int g), v5] ∧ 0 ≤ g ∧ H' = H) ⟨_, 0, _, none, rfl, Int.le_refl _, rfl⟩ ?_ ?_
    · rintro i σ H' hi ⟨v2, g, o, v5, rfl, hg, rfl⟩
      walk_at "rd"
      have b1 := Int.emod_nonneg (o * 48271 + 12345) (b := 2147483647) (by decide)
      have b2 := Int.emod_lt_of_pos (o * 48271 + 12345) (b := 2147483647) (by decide)
      refine ⟨mul_r (by decide) (by decide), by decide, mul_r (by decide) (by decide), mul_l (by omega) (by omega), by decide, ⟨by decide, by decide⟩, by decide, ?_⟩
      have b3 := Int.emod_nonneg ((o * 48271 + 12345) % 2147483647 * ((o * 48271 + 12345) % 2147483647) % 2147483629 / 64) (b := 16777216) (by decide)
      have b4 := Int.mul_nonneg hg (show (0 : Int) ≤ 16777216 by decide)
      omega
    · rintro σ H' ⟨v2, g, o, v5, rfl, hg, rfl⟩
      walk_at "rd"
      exact ⟨by decide, fin g hg⟩
theorem ok__law_take {f : Addr} {fd : FuncData} (F : Fun K "_law_take" "_law_take" s__law_take f fd)  (T : Txt K mg) : FnOk P w K mg base (CXE P w) 1 f fd ["pot", "many"] (sp__law_take K mg) := by
  refine F.okX sc__law_take (fun vs H Q E h => ?_) (fun cdv A outer s H vs Q E hr h => ?_)
  · obtain ⟨p, many, rfl, _⟩ := h; rfl
  obtain ⟨p, many, rfl, h0, h1, ⟨x, hp, hx⟩, k1⟩ := h
  refine ⟨_, (pss_cons (ps_set (i := 2) sc__law_take.nd rfl (Or.inl rfl) (pe_op op_mod (pe_ix ix_list (pv 0) pe_int (fun _ _ => rfl)) (pv 1)))
      (pss_cons (ps_asg (pe_op op_fdivL (pe_ix ix_list (pv 0) pe_int (fun _ _ => rfl)) (pv 1)) (pg_sub (pv 0) pe_int set_list (fun _ => rfl)))
      (pss_one (ps_ret (pv 2))))), ?_⟩
  walk_at "rd"
  refine ⟨_, SqL.of hp, _, rfl, _, rfl, h0, ?_⟩
  refine ⟨_, SqL.of hp, _, rfl, _, rfl, ⟨h0, by omega⟩, _, hp, _, rfl, ?_⟩
  exact k1 _ _ (Int.emod_nonneg _ (by omega)) (Int.emod_lt_of_pos _ h0) ⟨_, upd_same, Int.ediv_nonneg hx (by omega)⟩ Exc.upd
theorem ok__law_row {f : Addr} {fd : FuncData} (F : Fun K "_law_row" "_law_row" s__law_row f fd) (G__law_take : Callee P w K mg base "_law_take" 1 ["pot", "many"] (sp__law_take K mg)) (T : Txt K mg) : FnOk P w K mg base (CXE P w) 2 f fd ["pot", "most"] (sp__law_row K mg) := by
  refine F.okX sc__law_row (fun vs H Q E h => ?_) (fun cdv A outer s H vs Q E hr h => ?_)
  · obtain ⟨p, most, rfl, _⟩ := h; rfl
  obtain ⟨p, most, rfl, h0, h1, hP, k1⟩ := h
  refine ⟨_, (pss_cons (ps_set (i := 2) sc__law_row.nd rfl (Or.inl rfl) (pe_callF G__law_take (hr.mono (by decide)) rfl passE (pa_cons (pv 0) (pa_cons (pe_op op_add (pv 1) pe_int) pa_nil))))
      (pss_cons (ps_set (i := 3) sc__law_row.nd rfl (Or.inl rfl) (pe_callF G__law_take (hr.mono (by decide)) rfl passE (pa_cons (pv 0) (pa_cons pe_int pa_nil))))
      (pss_cons (ps_set (i := 4) sc__law_row.nd rfl (Or.inl rfl) (pe_op op_add pe_int (pe_callF G__law_take (hr.mono (by decide)) rfl passE (pa_cons (pv 0) (pa_cons pe_int pa_nil)))))
      (pss_cons (ps_set (i := 5) sc__law_row.nd rfl (Or.inr rfl) (pe_lst pa_nil))
      (pss_cons (ps_nox (ps_for PassesOwn.never rfl (pi_range1 rfl T.b_range (pa_cons (pv 2) pa_nil)) (pg_name (i := 6) sc__law_row.nd rfl (Or.inl rfl)) (pss_one (ps_if (pt_cmpR op_lt (pv 3) pe_int (nomark _)) (pss_one (ps_expr (pe_bm PySem.F.plainAttrs_list PySem.F.slot_list_append PySem.F.type_list_append mt_append (pv 5) (pa_cons (pe_callF G__law_take (hr.mono (by decide)) rfl passE (pa_cons (pv 0) (pa_cons (pv 4) pa_nil))) pa_nil)))) (pss_one (ps_if (pt_cmpR op_eq (pv 3) pe_int (nomark _)) (pss_one (ps_expr (pe_bm PySem.F.plainAttrs_list PySem.F.slot_list_insert PySem.F.type_list_insert mt_insert (pv 5) (pa_cons (pe_callF G__law_take (hr.mono (by decide)) rfl passE (pa_cons (pv 0) (pa_cons (pe_op op_add (pv 6) pe_int) pa_nil))) (pa_cons (pv 6) pa_nil))))) (pss_one (ps_if (pt_cmpR op_eq (pv 3) pe_int (nomark _)) (pss_one (ps_expr (pe_bm PySem.F.plainAttrs_list PySem.F.slot_list_append PySem.F.type_list_append mt_append (pv 5) (pa_cons (pe_op op_sub (pe_op op_mod (pv 6) (pv 4)) (pe_op op_fdivL (pv 6) (pv 4))) pa_nil)))) (pss_one (ps_if (pt_cmpR op_eq (pv 3) pe_int (nomark _)) (pss_one (ps_expr (pe_bm PySem.F.plainAttrs_list PySem.F.slot_list_append PySem.F.type_list_append mt_append (pv 5) (pa_cons (pe_ix ix_list (pe_lst (pa_cons (pv 6) (pa_cons (pe_un un_neg (pv 6)) pa_nil))) (pe_op op_mod (pv 4) pe_int) (fun _ _ => rfl)) pa_nil)))) (pss_one (ps_if (pt_cmpR op_eq (pv 3) pe_int (nomark _)) (pss_one (ps_expr (pe_bm PySem.F.plainAttrs_list PySem.F.slot_list_append PySem.F.type_list_append mt_append (pv 5) (pa_cons (pe_op op_mulX (pe_op op_sub (pe_callF G__law_take (hr.mono (by decide)) rfl passE (pa_cons (pv 0) (pa_cons pe_int pa_nil))) pe_int) (pe_op op_pow pe_int pe_int)) pa_nil)))) (pss_one (ps_expr (pe_bm PySem.F.plainAttrs_list PySem.F.slot_list_append PySem.F.type_list_append mt_append (pv 5) (pa_cons (pe_op op_sub (pe_callF G__law_take (hr.mono (by decide)) rfl passE (pa_cons (pv 0) (pa_cons pe_int pa_nil))) pe_int) pa_nil))))))))))))))))
      (pss_cons (ps_if (pt_cmpR op_eq (pv 3) pe_int (nomark _)) (pss_one (ps_set (i := 5) sc__law_row.nd rfl (Or.inr rfl) (pe_compN ["k", "row"] [none, some 5] rfl rfl rfl (pi_range1 rfl T.b_range (pa_cons (pv 2) pa_nil)) (fun _ _ _ _ _ => (pg_name (i := 0) (show (["k", "row"] : List Str).Nodup from by decide +kernel) rfl (Or.inl rfl))) (fun _ _ _ _ _ => pifs_nil) (fun _ _ _ _ _ => (pe_bmK (K := K) rfl PySem.F.plainAttrs_list PySem.F.slot_list_index PySem.F.type_list_index (mt_index (K := K) rfl) (pv 1) (pa_cons (pv 0) pa_nil))) only_name))) pss_nil)
      (pss_one (ps_ret (pv 5))))))))), ?_⟩
  refine seqR (fun σ Hx => ∃ m : Int, σ = [some (.ref p), some (.int most), some (.int m), none, none, none, none] ∧ 0 ≤ m ∧ m ≤ most ∧ PotAt Hx p ∧ Exc p H Hx) (fun R hR => ?_) ?_
  · walk_at "rd"
    exact ⟨p, _, rfl, by omega, by omega, hP, fun d H1 d0 d1 P1 e1 => hR _ _ ⟨d, rfl, d0, by omega, P1, e1⟩⟩
  rintro σ H1 ⟨many, rfl, m0, m1, P1, e1⟩
  refine seqR (fun σ Hx => ∃ k : Int, σ = [some (.ref p), some (.int most), some (.int many), some (.int k), none, none, none] ∧ 0 ≤ k ∧ k < 8 ∧ PotAt Hx p ∧ Exc p H Hx) (fun R hR => ?_) ?_
  · walk_at "rd"
    exact ⟨p, _, rfl, by decide, by decide, P1, fun d H2 d0 d1 P2 e2 => hR _ _ ⟨d, rfl, d0, d1, P2, e1.trans e2⟩⟩
  clear P1 e1 H1
  rintro σ H1 ⟨kd, rfl, d0, d1, P1, e1⟩
  refine seqR (fun σ Hx => ∃ t : Int, σ = [some (.ref p), some (.int most), some (.int many), some (.int kd), some (.int t), none, none] ∧ 2 ≤ t ∧ t < 6 ∧ PotAt Hx p ∧ Exc p H Hx) (fun R hR => ?_) ?_
  · walk_at "rd"
    exact ⟨p, _, rfl, by decide, by decide, P1, fun d H2 d0 d1 P2 e2 => ⟨d, rfl, hR _ _ ⟨_, rfl, by omega, by omega, P2, e1.trans e2⟩⟩⟩
  clear P1 e1 H1
  rintro σ H1 ⟨tn, rfl, t0, t1, P1, e1⟩
  refine seqR (fun σ Hx => ∃ q : Addr, σ = [some (.ref p), some (.int most), some (.int many), some (.int kd), some (.int tn), some (.ref q), none] ∧ H q = none ∧ q ≠ p ∧ Hx q = some (.lst []) ∧ PotAt Hx p ∧ Exc p H Hx) (fun R hR => ?_) ?_
  · walk_at "rd"
    exact ⟨Nat.zero_le _, fun q hq => hR _ _ ⟨q, rfl, e1.free (P1.ne hq) hq, P1.ne hq, upd_same, P1.upd hq, e1.same ((Same.refl H1).upd hq)⟩⟩
  clear P1 e1 H1
  rintro σ H1 ⟨q, rfl, zq, nqp, hq1, P1, e1⟩
  refine seqR (fun σ Hx => ∃ (ns : List Int) (v6 : Option V), σ = [some (.ref p), some (.int most), some (.int many), some (.int kd), some (.int tn), some (.ref q), v6] ∧ (ns.length : Int) = many ∧ (kd = 3 → ∀ j : Nat, (j : Int) < many → (j : Int) ∈ ns) ∧ Hx q = some (.lst (ns.map V.int)) ∧ PotAt Hx p ∧ Exc p H Hx) (fun R hR => ?_) ?_
  · walk_at "rd"
    refine ⟨by omega, by omega, ?_⟩
    refine for_range (fun i σ Hx => ∃ (ns : List Int) (v6 : Option V), σ = [some (.ref p), some (.int most), some (.int many), some (.int kd), some (.int tn), some (.ref q), v6] ∧ ns.length = i ∧ (kd = 3 → ∀ j : Nat, j < i → (j : Int) ∈ ns) ∧ Hx q = some (.lst (ns.map V.int)) ∧ PotAt Hx p ∧ Exc p H Hx) ⟨[], none, rfl, rfl, (fun _ j hj => absurd hj (by omega)), hq1, P1, e1⟩ ?_ ?_
    · rintro i σ Hx hi ⟨ns, v6, rfl, hl, hin, hqx, Px, ex⟩
      have hi' : i < 1000 := by omega
      have hb : (ns.map V.int).length < sizeLine := Nat.lt_of_le_of_lt (show _ ≤ 1000 by rw [List.length_map]; omega) (by decide)
      have app : kd ≠ 3 → ∀ (y : Int) (Hy : Hp), Hy q = some (.lst (ns.map V.int)) → PotAt Hy p → Exc p H Hy → ∃ x_1, Hy q = some (HO.lst x_1) ∧ x_1.length < sizeLine ∧ ∃ ns' : List Int, ns'.length = i + 1 ∧ (kd = 3 → ∀ (j : Nat), j < i + 1 → (j : Int) ∈ ns') ∧ upd Hy q (HO.lst (x_1 ++ [V.int y])) q = some (HO.lst (List.map V.int ns')) ∧ PotAt (upd Hy q (HO.lst (x_1 ++ [V.int y]))) p ∧ Exc p H (upd Hy q (HO.lst (x_1 ++ [V.int y]))) := fun n3 y Hy hy Py ey =>
        ⟨_, hy, hb, ns ++ [y], by simp [hl], (fun z => absurd z n3), by rw [upd_same]; simp, Py.updN nqp, ey.updN zq⟩
      walk_at "rd"
      refine ite2 (fun k3 => ⟨tyV_list hqx, p, _, rfl, by omega, by omega, Px, fun d H2 d0 d1 P2 e2 => app (by omega) d H2 (e2 _ _ nqp hqx) P2 (ex.trans e2)⟩) fun k3 => ?_
      refine ite2 (fun k4 => ⟨tyV_list hqx, p, _, rfl, by omega, by omega, Px, fun d H2 d0 d1 P2 e2 => ?_⟩) fun k4 => ?_
      · refine ⟨_, d, rfl, e2 _ _ nqp hqx, d0, by omega, hb, ns.take d.toNat ++ (0 + (i : Int)) :: ns.drop d.toNat, by simp; omega, fun _ j hj => ?_, by rw [upd_same]; simp, P2.updN nqp, (ex.trans e2).updN zq⟩
        by_cases ej : j = i
        · rw [ej]; simp
        · have hm := hin k4 j (by omega)
          rw [← List.take_append_drop d.toNat ns] at hm
          rcases List.mem_append.mp hm with z | z
          · exact List.mem_append_left _ z
          · exact List.mem_append_right _ (List.mem_cons_of_mem _ z)
      refine ite2 (fun k5 => ⟨tyV_list hqx, by omega, ⟨by omega, by omega⟩, app k4 _ Hx hqx Px ex⟩) fun k5 => ?_
      refine ite2 (fun k6 => ⟨tyV_list hqx, by decide, fun u hu => ⟨by decide, ?_⟩⟩) fun k6 => ?_
      · obtain ⟨v, hv, y, rfl⟩ := atI_all (xs := [V.int (0 + (i : Int)), V.int (-(0 + (i : Int)))]) (i := tn % 2) (fun v => ∃ y : Int, v = V.int y) (by omega) (by show _ < ((2 : Nat) : Int); omega) (by
          intro x hx
          simp only [List.mem_cons, List.not_mem_nil, or_false] at hx
          rcases hx with rfl | rfl <;> exact ⟨_, rfl⟩)
        have g := (Same.refl Hx).upd (o := .lst [V.int (0 + (i : Int)), V.int (-(0 + (i : Int)))]) hu
        exact ⟨_, SqL.of upd_same, _, hv, app k4 y _ (g _ _ hqx) (Px.same g) (ex.same g)⟩
      exact ite2 (fun k7 => ⟨tyV_list hqx, p, _, rfl, by decide, by decide, Px, fun d H2 d0 d1 P2 e2 => ⟨d, rfl, cp59, mul_l (by omega) (by omega), app k4 _ H2 (e2 _ _ nqp hqx) P2 (ex.trans e2)⟩⟩) fun k7 => ⟨tyV_list hqx, p, _, rfl, by decide, by decide, Px, fun d H2 d0 d1 P2 e2 => ⟨d, rfl, app k4 _ H2 (e2 _ _ nqp hqx) P2 (ex.trans e2)⟩⟩
    · rintro σ Hx ⟨ns, v6, rfl, hl, hin, hqx, Px, ex⟩
      exact hR _ _ ⟨ns, v6, rfl, by omega, (fun z j hj => hin z j (by omega)), hqx, Px, ex⟩
  clear P1 e1 hq1 H1
  rintro σ H1 ⟨ns, v6, rfl, hl, hin, hq1, P1, e1⟩
  refine seqR (fun σ Hx => ∃ (q : Addr) (ns : List Int) (v6 : Option V), σ = [some (.ref p), some (.int most), some (.int many), some (.int kd), some (.int tn), some (.ref q), v6] ∧ H q = none ∧ (ns.length : Int) = many ∧ Hx q = some (.lst (ns.map V.int)) ∧ PotAt Hx p ∧ Exc p H Hx) (fun R hR => ?_) ?_
  · walk_at "rd"
    refine ite2 (fun k3 => ⟨by omega, by omega, ?_⟩) fun k3 => hR _ _ ⟨q, ns, v6, rfl, zq, hl, hq1, P1, e1⟩
    refine comp_map (n := many.toNat) (fun j => V.int ((ns.idxOf ((j : Nat) : Int) : Nat) : Int)) (Nat.lt_of_le_of_lt (show _ ≤ 1000 by omega) (by decide)) (fun j Hx s hj => hj) (fun Hx s => Nat.le_refl _) ?_ ?_
    · rintro j x Hx Hy hj s ⟨rfl, rfl⟩
      have e0 : ((0 : Int) + (j : Int)) = (j : Int) := by omega
      rw [e0]
      walk_at "rd"
      exact ⟨tyV_list (s _ _ hq1), _, SqL.of (s _ _ hq1), by omega, hin k3 j (by omega), CW.next hj rfl s⟩
    · intro l Hx s hlx
      have em : (List.range many.toNat).map (fun j => V.int ((ns.idxOf ((j : Nat) : Int) : Nat) : Int)) = ((List.range many.toNat).map fun j => ((ns.idxOf ((j : Nat) : Int) : Nat) : Int)).map V.int := by rw [List.map_map]; rfl
      rw [em]
      exact hR _ _ ⟨l, _, v6, rfl, e1.free ((P1.same s).ne hlx) (s.free hlx), by simp; omega, upd_same, (P1.same s).upd hlx, (e1.same s).same ((Same.refl Hx).upd hlx)⟩
  rintro σ H2 ⟨q2, ms, v6', rfl, zq2, hl2, hq2, P2, e2⟩
  walk_at "rd"
  exact k1 q2 ms _ zq2 (by omega) hq2 P2 e2
theorem ok__law_elder {f : Addr} {fd : FuncData} (F : Fun K "_law_elder" "_law_elder" s__law_elder f fd)  (T : Txt K mg) : FnOk P w K mg base (CXE P w) 1 f fd ["row", "place"] (sp__law_elder K mg) := by
  refine F.okX sc__law_elder (fun vs H Q E h => ?_) (fun cdv A outer s H vs Q E hr h => ?_)
  · obtain ⟨r, ns, i, rfl, _⟩ := h; rfl
  obtain ⟨r, ns, i, rfl, hr1, hn, hi, k1⟩ := h
  refine ⟨_, (pss_cons (ps_setCN (i := 2) ["other", "row", "place"] [none, some 0, some 1] sc__law_elder.nd rfl (Or.inl rfl) rfl rfl rfl (pi_range1 rfl T.b_range (pa_cons (pv 1) pa_nil)) (fun _ _ _ _ _ => (pg_name (i := 0) (show (["other", "row", "place"] : List Str).Nodup from by decide +kernel) rfl (Or.inl rfl))) (fun _ _ _ _ _ => pifs_one (pt_cmpR op_le (pe_ix (r := rIxL K) ix_list (pv 1) (pv 0) (fun _ _ => rfl)) (pe_ix (r := rIxL K) ix_list (pv 1) (pv 2) (fun _ _ => rfl)) (nomark _))) (fun _ _ _ _ _ => (pv 0)) only_name)
      (pss_cons (ps_setCN (i := 3) ["other", "row", "place"] [none, some 0, some 1] sc__law_elder.nd rfl (Or.inl rfl) rfl rfl rfl (pi_range2 rfl T.b_range (pa_cons (pe_op op_add (pv 1) pe_int) (pa_cons (pe_callB (call_lenK (K := K) rfl) rfl T.b_len PySem.boot_len (pa_cons (pv 0) pa_nil)) pa_nil))) (fun _ _ _ _ _ => (pg_name (i := 0) (show (["other", "row", "place"] : List Str).Nodup from by decide +kernel) rfl (Or.inl rfl))) (fun _ _ _ _ _ => pifs_one (pt_cmpR op_lt (pe_ix (r := rIxL K) ix_list (pv 1) (pv 0) (fun _ _ => rfl)) (pe_ix (r := rIxL K) ix_list (pv 1) (pv 2) (fun _ _ => rfl)) (nomark _))) (fun _ _ _ _ _ => (pv 0)) only_name)
      (pss_cons (ps_if (PW.pt (pw_or (pt_cmpR (op_eqD (K := K) rfl hr) (pv 2) (pe_lst pa_nil) (nomark _)) (pw_or1 (pt_cmpR (op_eqD (K := K) rfl hr) (pv 3) (pe_lst pa_nil) (nomark _))))) (pss_one (ps_ret (pe_ix ix_list (pe_op op_cat (pe_op op_cat (pe_slice sl_list (pv 2) (po_some (pe_un un_neg pe_int)) po_none) (pe_slice sl_list (pv 3) po_none (po_some pe_int))) (pe_lst (pa_cons (pe_un un_neg pe_int) pa_nil))) pe_int (fun _ _ => rfl)))) pss_nil)
      (pss_cons (ps_if (pt_cmpR op_gt (pe_ix ix_list (pv 0) (pe_ix ix_list (pv 2) (pe_un un_neg pe_int) (fun _ _ => rfl)) (fun _ _ => rfl)) (pe_ix ix_list (pv 0) (pe_ix ix_list (pv 3) pe_int (fun _ _ => rfl)) (fun _ _ => rfl)) (nomark _)) (pss_one (ps_ret (pe_ix ix_list (pv 2) (pe_un un_neg pe_int) (fun _ _ => rfl)))) pss_nil)
      (pss_one (ps_ret (pe_ix ix_list (pv 3) pe_int (fun _ _ => rfl)))))))), ?_⟩
  have eL : (ns.map V.int).length = ns.length := List.length_map ..
  have EE := elder_lists (f := nth ns) hi
  generalize hA : ((List.range i).filter fun q => decide (nth ns q ≤ nth ns i)) = A at EE
  generalize hB : ((List.range (ns.length - (i + 1))).filter fun j => decide (nth ns (i + 1 + j) < nth ns i)) = B at EE
  have hqa : ∀ q ∈ A, q < ns.length := fun q hq => by
    rw [← hA] at hq
    have := List.mem_range.mp (List.mem_filter.mp hq).1; omega
  have hqb : ∀ j ∈ B, i + 1 + j < ns.length := fun j hq => by
    rw [← hB] at hq
    have := List.mem_range.mp (List.mem_filter.mp hq).1; omega
  refine seqR (fun σ Hz => ∃ a, σ = [some (.ref r), some (.int (i : Int)), some (.ref a), none] ∧ Same H Hz ∧ Hz a = some (.lst (natsV A))) (fun R hR => ?_) ?_
  · walk_at "rd"
    refine ⟨by omega, by omega, ?_⟩
    have e1 : ((i : Int)).toNat = i := by omega
    rw [e1]
    refine comp_filt (n := i) (fun q => decide (nth ns q ≤ nth ns i)) (fun q => V.int ((q : Nat) : Int)) (Nat.lt_of_le_of_lt (show _ ≤ 1000 by omega) (by decide)) (fun j Hx s hj => hj) (fun Hx s => Nat.le_refl _) ?_ ?_
    · rintro j x Hx Hz hj s ⟨rfl, rfl⟩
      have e0 : ((0 : Int) + (j : Int)) = (j : Int) := by omega
      rw [e0]
      walk_at "rd"
      exact ⟨_, SqL.of (s _ _ hr1), _, nth_at (by omega), _, SqL.of (s _ _ hr1), _, nth_at (by omega), _, rfl, _, rfl, ite2 (fun h => CF.take hj (decide_eq_true h) rfl s) (fun h => CF.skip hj (decide_eq_false h) s)⟩
    · intro l1 H1 s1 hl1
      exact hR _ _ ⟨l1, rfl, s1.upd' hl1, by rw [upd_same, hA]; rfl⟩
  rintro σ Hx ⟨a, rfl, sx, hxa⟩
  refine seqR (fun σ Hy => ∃ b, σ = [some (.ref r), some (.int (i : Int)), some (.ref a), some (.ref b)] ∧ Same H Hy ∧ Hy a = some (.lst (natsV A)) ∧ Hy b = some (.lst (natsV (B.map fun j => i + 1 + j)))) (fun R hR => ?_) ?_
  · walk_at "rd"
    refine ⟨_, .inl (SqL.of (sx _ _ hr1)), by omega, by omega, by omega, by rw [eL]; omega, ?_⟩
    have e1 : ((((ns.map V.int).length : Nat) : Int) - ((i : Int) + 1)).toNat = ns.length - (i + 1) := by rw [eL]; omega
    rw [e1]
    refine comp_filt (n := ns.length - (i + 1)) (fun q => decide (nth ns (i + 1 + q) < nth ns i)) (fun q => V.int ((i + 1 + q : Nat) : Int)) (Nat.lt_of_le_of_lt (show _ ≤ 1000 by omega) (by decide)) (fun j Hx s hj => hj) (fun Hx s => Nat.le_refl _) ?_ ?_
    · rintro j x Hy Hz hj s ⟨rfl, rfl⟩
      have e0 : ((i : Int) + 1 + (j : Int)) = ((i + 1 + j : Nat) : Int) := by omega
      rw [e0]
      walk_at "rd"
      exact ⟨_, SqL.of ((sx.trans s) _ _ hr1), _, nth_at (by omega), _, SqL.of ((sx.trans s) _ _ hr1), _, nth_at (by omega), _, rfl, _, rfl, ite2 (fun h => CF.take hj (decide_eq_true h) rfl s) (fun h => CF.skip hj (decide_eq_false h) s)⟩
    · intro l1 H1 s1 hl1
      exact hR _ _ ⟨l1, rfl, (sx.trans s1).upd' hl1, (s1.upd' hl1) _ _ hxa, by rw [upd_same, hB]; simp [natsV, Function.comp_def]⟩
  clear sx hxa Hx
  rintro σ Hx ⟨b, rfl, sx, hxa, hxb⟩
  have ka : cutV (natsV A) (some (-1)) none = natsV (A.drop (A.length - 1)) := by rw [cut_m1, natsV_len]; simp [natsV, List.map_drop]
  have kb : cutV (natsV (B.map fun j => i + 1 + j)) none (some 1) = natsV ((B.take 1).map fun j => i + 1 + j) := by rw [cut_to1]; simp [natsV, List.map_take]
  have lA : A.length ≤ 1000 := by rw [← hA]; exact Nat.le_trans (List.length_filter_le _ _) (by simp; omega)
  refine seqR (fun σ Hy => σ = [some (.ref r), some (.int (i : Int)), some (.ref a), some (.ref b)] ∧ Same Hx Hy ∧ A ≠ [] ∧ B ≠ []) (fun R hR => ?_) ?_
  · refine ifR (fun H1 => Same Hx H1 ∧ (A = [] ∨ B = [])) (fun H1 => Same Hx H1 ∧ A ≠ [] ∧ B ≠ []) ?_ ?_ ?_
    · rintro H1 ⟨s1, hc⟩
      have key : ∃ e : Int, atI (natsV (A.drop (A.length - 1)) ++ natsV ((B.take 1).map fun j => i + 1 + j) ++ [V.int (-1)]) 0 = some (V.int e) ∧ ElderIs (nth ns) ns.length i e := by
        rcases hc with rfl | rfl
        · cases B with
          | nil => exact ⟨-1, rfl, by simpa using EE⟩
          | cons j B' => exact ⟨((i + 1 + j : Nat) : Int), rfl, by simpa using EE⟩
        · rcases snoc_cases A with rfl | ⟨ys, y, rfl⟩
          · exact ⟨-1, rfl, by simpa using EE⟩
          · refine ⟨(y : Int), ?_, by simpa using EE⟩
            have : (ys ++ [y]).drop ((ys ++ [y]).length - 1) = [y] := by simp
            rw [this]; rfl
      obtain ⟨e, he, hE⟩ := key
      have m1 := s1 _ _ hxa
      have m2 := s1 _ _ hxb
      walk_at "rd"
      refine ⟨_, SqL.of m1, fun c1 z1 => ?_⟩
      rw [ka]
      have u1 := (Same.refl H1).upd (o := .lst (natsV (A.drop (A.length - 1)))) z1
      refine ⟨_, SqL.of (u1 _ _ m2), fun c2 z2 => ?_⟩
      rw [kb]
      have u2 := (Same.refl _).upd (o := .lst (natsV ((B.take 1).map fun j => i + 1 + j))) z2
      refine ⟨_, u2 _ _ upd_same, _, upd_same, Nat.le_trans (show _ ≤ 1001 by rw [natsV_len, natsV_len]; simp; omega) (by decide), fun c3 z3 => ⟨by decide, fun c4 z4 => ?_⟩⟩
      have u4 := (Same.refl _).upd (o := .lst [V.int (-1)]) z4
      refine ⟨_, u4 _ _ upd_same, _, upd_same, Nat.le_trans (show _ ≤ 1003 by rw [List.length_append, natsV_len, natsV_len]; simp; omega) (by decide), fun c5 z5 => ⟨_, SqL.of upd_same, _, he, k1 e _ hE (((((((sx.trans s1).trans u1).trans u2).upd' z3).trans u4).upd' z5))⟩⟩
    · rintro H1 ⟨s1, hc⟩
      walk_at "rd"
      exact hR _ _ ⟨rfl, s1, hc⟩
    · intro B0 hT hU
      walk_at "rd"
      refine ⟨Nat.zero_le _, fun c hc => ?_⟩
      have u1 := (Same.refl Hx).upd (o := .lst []) hc
      refine ⟨_, eqd_nil (u1 _ _ hxa) upd_same, ?_⟩
      by_cases zA : A = []
      · exact ite2 (fun _ => hT _ ⟨u1, .inl zA⟩) fun z => absurd (decide_eq_true zA) z
      refine ite2 (fun z => absurd (of_decide_eq_true z) zA) fun _ => ⟨Nat.zero_le _, fun d hd => ?_⟩
      have u2 := u1.upd' (o := .lst []) hd
      refine ⟨_, eqd_nil (u2 _ _ hxb) upd_same, ?_⟩
      by_cases zB : B = []
      · have : decide (B.map (fun j => i + 1 + j) = []) = true := decide_eq_true (by rw [zB]; rfl)
        rw [this]; exact hT _ ⟨u2, .inr zB⟩
      · have : decide (B.map (fun j => i + 1 + j) = []) = false := decide_eq_false (by simpa using zB)
        rw [this]; exact hU _ ⟨u2, zA, zB⟩
  rintro σ Hy ⟨rfl, sy, nA, nB⟩
  replace hxa := sy _ _ hxa
  replace hxb := sy _ _ hxb
  replace sx := sx.trans sy
  rcases snoc_cases A with rfl | ⟨ys, y, rfl⟩
  · exact absurd rfl nA
  cases B with
  | nil => exact absurd rfl nB
  | cons j B' =>
    have hy : y < ns.length := hqa y (by simp)
    have hj : i + 1 + j < ns.length := hqb j (by simp)
    have el : atI (natsV (ys ++ [y])) (-1) = some (V.int (y : Int)) := by rw [natsV_app]; exact atI_last _ _
    have ej : atI (natsV ((j :: B').map fun j => i + 1 + j)) 0 = some (V.int ((i + 1 + j : Nat) : Int)) := natsV_at (j := 0) rfl
    have eg : (ys ++ [y]).getLast? = some y := by simp
    rw [eg] at EE
    walk_at "rd"
    refine ⟨_, SqL.of hxa, _, el, _, _, rfl, SqL.of (sx _ _ hr1), _, nth_at hy, _, SqL.of hxb, _, ej, _, _, rfl, SqL.of (sx _ _ hr1), _, nth_at hj, _, rfl, _, rfl, ite2 (fun z => ⟨_, SqL.of hxa, _, el, k1 _ _ ?_ sx⟩) fun z => ⟨_, SqL.of hxb, _, ej, k1 _ _ ?_ sx⟩⟩
    · simp only [List.head?_cons, if_neg (show ¬ nth ns y ≤ nth ns (i + 1 + j) by omega)] at EE
      exact EE
    · simp only [List.head?_cons, if_pos (show nth ns y ≤ nth ns (i + 1 + j) by omega)] at EE
      exact EE
theorem ok__law_tree {f : Addr} {fd : FuncData} (F : Fun K "_law_tree" "_law_tree" s__law_tree f fd) (G__law_elder : Callee P w K mg base "_law_elder" 1 ["row", "place"] (sp__law_elder K mg)) (T : Txt K mg) : FnOk P w K mg base (CXE P w) 2 f fd ["row"] (sp__law_tree K mg) := by
  refine F.okX sc__law_tree (fun vs H Q E h => ?_) (fun cdv A outer s H vs Q E hr h => ?_)
  · obtain ⟨r, ns, rfl, _⟩ := h; rfl
  obtain ⟨r, ns, rfl, hr0, hn, k1⟩ := h
  refine ⟨_, (pss_one (ps_ret (pe_callTy (call_tupK (K := K) rfl) rfl T.b_tuple bt_tuple (pa_cons (pe_compN ["place", "row"] [none, some 0] rfl rfl rfl (pi_range1 rfl T.b_range (pa_cons (pe_callB (call_lenK (K := K) rfl) rfl T.b_len PySem.boot_len (pa_cons (pv 0) pa_nil)) pa_nil)) (fun _ _ _ _ _ => (pg_name (i := 0) (show (["place", "row"] : List Str).Nodup from by decide +kernel) rfl (Or.inl rfl))) (fun _ _ _ _ _ => pifs_nil) (fun _ _ _ _ _ => (pe_callF G__law_elder (hr.mono (by decide)) rfl passE (pa_cons (pv 1) (pa_cons (pv 0) pa_nil)))) only_name) pa_nil)))), ?_⟩
  walk_at "rd"
  have eL : (ns.map V.int).length = ns.length := List.length_map ..
  refine ⟨_, .inl (SqL.of hr0), by omega, by omega, ?_⟩
  have e1 : (((ns.map V.int).length : Nat) : Int).toNat = ns.length := by rw [eL]; omega
  rw [e1]
  refine comp_inv (n := ns.length) (fun i acc Hx => ∃ es : List Int, acc = es.map V.int ∧ es.length = i ∧ (∀ p, p < i → ElderIs (nth ns) ns.length p (es.getD p 0)) ∧ Same H Hx) (Nat.lt_of_le_of_lt (show _ ≤ 1000 by omega) (by decide)) ⟨[], rfl, rfl, (fun p hp => absurd hp (by omega)), Same.refl _⟩ (fun i acc Hx _ hi => hi) (fun acc Hx _ => Nat.le_refl _) ?_ ?_
  · rintro i x acc Hx Hy hi hla ⟨es, rfl, hl, hE, sx⟩ ⟨rfl, rfl⟩
    walk_at "rd"
    refine ⟨r, ns, i, by rw [Int.zero_add], sx _ _ hr0, hn, hi, fun e H2 he s2 => CA.take hi hla ⟨es ++ [e], by simp, by simp [hl], fun p hp => ?_, sx.trans s2⟩⟩
    by_cases z : p < es.length
    · rw [show (es ++ [e]).getD p 0 = es.getD p 0 by simp [List.getD_eq_getElem?_getD, List.getElem?_append_left z]]
      exact hE p (by omega)
    · have ep : p = es.length := by omega
      rw [show (es ++ [e]).getD p 0 = e by rw [ep]; simp [List.getD_eq_getElem?_getD], ep, hl]
      exact he
  · rintro l acc Hx ⟨es, rfl, hl, hE, sx⟩ _ hlx
    refine ⟨l, rfl, _, .inl ⟨SqL.of upd_same, fun t ht => k1 t es _ ⟨hl, hE⟩ ((sx.upd' hlx).upd' ht) upd_same⟩⟩

theorem ok_settle {f : Addr} {fd : FuncData} (F : Fun K "settle" "settle" s_settle f fd)  (T : Txt K mg) : FnOk P w K mg base (CXE P w) 1 f fd ["elders", "spine", "place", "keep"] (sp_settle K mg) := by
  refine F.okX sc_settle (fun vs H Q E h => ?_) (fun cdv A outer s H vs Q E hr h => ?_)
  · obtain ⟨el, sp, es, A, B, i, rfl, _⟩ := h; rfl
  obtain ⟨el, sp, es, A', B, i, rfl, hel, hsp, hne, hi, hq, hlen, k1⟩ := h
  refine ⟨_, (pss_cons (ps_if (pt_cmpR op_lt (pv 3) (pe_callB (call_lenK (K := K) rfl) rfl T.b_len PySem.boot_len (pa_cons (pv 1) pa_nil)) (nomark _)) (pss_one (ps_asg (pv 2) (pg_sub (pv 0) (pe_ix ix_list (pv 1) (pv 3) (fun _ _ => rfl)) set_list (fun _ => rfl)))) pss_nil)
      (pss_cons (ps_if (pt_cmpR op_gt (pv 3) pe_int (nomark _)) (pss_one (ps_asg (pe_ix ix_list (pv 1) (pe_op op_sub (pv 3) pe_int) (fun _ _ => rfl)) (pg_sub (pv 0) (pv 2) set_list (fun _ => rfl)))) pss_nil)
      (pss_cons (ps_delTail (pv 1) (pv 3))
      (pss_one (ps_expr (pe_bm PySem.F.plainAttrs_list PySem.F.slot_list_append PySem.F.type_list_append mt_append (pv 1) (pa_cons (pv 2) pa_nil))))))), ?_⟩
  walk_at "rd"
  have hb1 : (natsV A').length < sizeLine := by
    rw [natsV_len]
    rw [List.length_append] at hlen
    exact Nat.lt_of_le_of_lt (show _ ≤ 1000 by omega) (by decide)
  have etk : List.take A'.length (natsV (A' ++ B)) = natsV A' := by
    rw [natsV_app]
    have : A'.length = (natsV A').length := (natsV_len A').symm
    rw [this, List.take_left]
  have hle : A'.length ≤ (natsV (A' ++ B)).length := by rw [natsV_len, List.length_append]; omega
  have esn : natsV A' ++ [V.int (i : Nat)] = natsV (A' ++ [i]) := by rw [natsV_app]; rfl
  refine ⟨_, .inl (SqL.of hsp), ?_⟩
  rw [natsV_len, List.length_append]
  -- the end: behind the two stores
  have fin : ∀ (es1 : List Int) (Hx : Hp), (∀ b o, b ≠ el → b ≠ sp → H b = some o → Hx b = some o) → Hx el = some (.lst (es1.map V.int)) → Hx sp = some (.lst (natsV (A' ++ B))) → es1 = setE es A' B i →
      ∃ (xs : List V) (k : Nat), (A'.length : Int) = (k : Int) ∧ Hx sp = some (HO.lst xs) ∧ k ≤ xs.length ∧ tyV K "list" (V.ref sp) (upd Hx sp (HO.lst (List.take k xs))) ∧ ∃ x, upd Hx sp (HO.lst (List.take k xs)) sp = some (HO.lst x) ∧ x.length < sizeLine ∧ Q V.non (upd (upd Hx sp (HO.lst (List.take k xs))) sp (HO.lst (x ++ [V.int (i : Nat)]))) := by
    intro es1 Hx h1 h2 h3 h4
    refine ⟨_, A'.length, rfl, h3, hle, tyV_list upd_same, _, upd_same, by rw [etk]; exact hb1, k1 _ (fun b o n1 n2 z => by rw [upd_ne n2, upd_ne n2]; exact h1 b o n1 n2 z) (by rw [upd_ne hne, upd_ne hne, h2, h4]) (by rw [upd_same, etk, esn])⟩
  -- elders[place] = spine[keep - 1]
  have mid : ∀ (es1 : List Int) (Hx : Hp), (∀ b o, b ≠ el → b ≠ sp → H b = some o → Hx b = some o) → Hx el = some (.lst (es1.map V.int)) → es1.length = es.length → Hx sp = some (.lst (natsV (A' ++ B))) → ∀ q, A'.getLast? = some q → es1.set i (q : Int) = setE es A' B i →
      ∃ x, SqL K Hx sp x ∧ ∃ x_1, atI x ((A'.length : Int) - 1) = some x_1 ∧ ∃ x, Hx el = some (HO.lst x) ∧ ∃ x_2, ixN x.length (i : Int) = some x_2 ∧ ∃ (xs : List V) (k : Nat), (A'.length : Int) = (k : Int) ∧ upd Hx el (HO.lst (x.set x_2 x_1)) sp = some (HO.lst xs) ∧ k ≤ xs.length ∧ tyV K "list" (V.ref sp) (upd (upd Hx el (HO.lst (x.set x_2 x_1))) sp (HO.lst (List.take k xs))) ∧
        ∃ x_3, upd (upd Hx el (HO.lst (x.set x_2 x_1))) sp (HO.lst (List.take k xs)) sp = some (HO.lst x_3) ∧ x_3.length < sizeLine ∧ Q V.non (upd (upd (upd Hx el (HO.lst (x.set x_2 x_1))) sp (HO.lst (List.take k xs))) sp (HO.lst (x_3 ++ [V.int (i : Nat)]))) := by
    intro es1 Hx h1 h2 hl1 h3 q hq h4
    have hpos : 0 < A'.length := by
      cases A' with
      | nil => cases hq
      | cons _ _ => simp
    have hat : (A' ++ B)[A'.length - 1]? = some q := by
      rw [List.getElem?_append_left (by omega)]
      rw [List.getLast?_eq_getElem?] at hq; exact hq
    have ei : ((A'.length : Int) - 1) = ((A'.length - 1 : Nat) : Int) := by omega
    refine ⟨_, SqL.of h3, _, by rw [ei]; exact natsV_at hat, _, h2, i, by rw [List.length_map, hl1]; exact ixN_nat hi, ?_⟩
    have em : (es1.map V.int).set i (V.int (q : Nat)) = (es1.set i (q : Int)).map V.int := by rw [List.map_set]
    rw [em]
    exact fin _ _ (fun b o n1 n2 z => by rw [upd_ne n1]; exact h1 b o n1 n2 z) upd_same (by rw [upd_ne hne.symm]; exact h3) h4
  cases B with
  | nil =>
    rw [if_neg (by simp)]
    cases hq : A'.getLast? with
    | none =>
      have : A' = [] := List.getLast?_eq_none_iff.mp hq
      rw [if_neg (by rw [this]; simp)]
      exact fin es H (fun b o _ _ z => z) hel hsp (by unfold setE; rw [hq]; rfl)
    | some q =>
      have : A' ≠ [] := fun z => by rw [z] at hq; cases hq
      rw [if_pos (by have := List.length_pos_iff.mpr this; omega)]
      exact mid es H (fun b o _ _ z => z) hel rfl hsp q hq (by unfold setE; rw [hq]; rfl)
  | cons b Br =>
    rw [if_pos (by simp; omega)]
    have hat : (A' ++ b :: Br)[A'.length]? = some b := by rw [List.getElem?_append_right (Nat.le_refl _)]; simp
    have hbn : b < es.length := hq b (by simp)
    refine ⟨_, SqL.of hsp, _, natsV_at hat, _, _, rfl, hel, b, by rw [List.length_map]; exact ixN_nat hbn, ?_⟩
    have em : (es.map V.int).set b (V.int (i : Nat)) = (es.set b (i : Int)).map V.int := by rw [List.map_set]
    rw [em]
    cases hq2 : A'.getLast? with
    | none =>
      have : A' = [] := List.getLast?_eq_none_iff.mp hq2
      rw [if_neg (by rw [this]; simp)]
      exact fin (es.set b i) _ (fun c o n1 n2 z => by rw [upd_ne n1]; exact z) upd_same (by rw [upd_ne hne.symm]; exact hsp) (by unfold setE; rw [hq2]; rfl)
    | some q =>
      have : A' ≠ [] := fun z => by rw [z] at hq2; cases hq2
      rw [if_pos (by have := List.length_pos_iff.mpr this; omega)]
      exact mid (es.set b i) _ (fun c o n1 n2 z => by rw [upd_ne n1]; exact z) upd_same (by simp) (by rw [upd_ne hne.symm]; exact hsp) q hq2 (by unfold setE; rw [hq2]; rfl)
theorem ok_tree_of {f : Addr} {fd : FuncData} (F : Fun K "tree_of" "tree_of" s_tree_of f fd) (G_settle : Callee P w K mg base "settle" 1 ["elders", "spine", "place", "keep"] (sp_settle K mg)) (T : Txt K mg) : FnOk P w K mg base (CXE P w) 2 f fd ["row"] (sp_tree_of K mg) := by
  refine F.okX sc_tree_of (fun vs H Q E h => ?_) (fun cdv A outer s H vs Q E hr h => ?_)
  · obtain ⟨r, ns, rfl, _⟩ := h; rfl
  obtain ⟨r, ns, rfl, hS, hn, k1⟩ := h
  refine ⟨_, (pss_cons (ps_set (i := 1) sc_tree_of.nd rfl (Or.inl rfl) (pe_op op_rep (pe_lst (pa_cons (pe_un un_neg pe_int) pa_nil)) (pe_callB (call_lenK (K := K) rfl) rfl T.b_len PySem.boot_len (pa_cons (pv 0) pa_nil))))
      (pss_cons (ps_set (i := 2) sc_tree_of.nd rfl (Or.inl rfl) (pe_lst pa_nil))
      (pss_cons (ps_nox (ps_for PassesOwn.never rfl (pi_range1 rfl T.b_range (pa_cons (pe_callB (call_lenK (K := K) rfl) rfl T.b_len PySem.boot_len (pa_cons (pv 0) pa_nil)) pa_nil)) (pg_name (i := 3) sc_tree_of.nd rfl (Or.inl rfl)) (pss_cons (ps_set (i := 4) sc_tree_of.nd rfl (Or.inl rfl) (pe_callB (call_lenK (K := K) rfl) rfl T.b_len PySem.boot_len (pa_cons (pv 2) pa_nil)))
      (pss_cons (ps_nox (ps_while PassesOwn.never (PW.pt (pw_and (pt_cmpR op_gt (pv 4) pe_int (nomark _)) (pw_and1 (pt_cmpR op_gt (pe_ix (ix_q (K := K) rfl) (pv 0) (pe_ix ix_list (pv 2) (pe_op op_sub (pv 4) pe_int) (fun _ _ => rfl)) (fun _ _ => rfl)) (pe_ix (ix_q (K := K) rfl) (pv 0) (pv 3) (fun _ _ => rfl)) (nomark _))))) (pss_one (ps_aug (i := 4) sc_tree_of.nd rfl (Or.inl rfl) pe_int ip_sub))))
      (pss_one (ps_expr (pe_callF G_settle (hr.mono (by decide)) rfl passE (pa_cons (pv 1) (pa_cons (pv 2) (pa_cons (pv 3) (pa_cons (pv 4) pa_nil)))))))))))
      (pss_one (ps_ret (pe_callTy (call_tupK (K := K) rfl) rfl T.b_tuple bt_tuple (pa_cons (pv 1) pa_nil))))))), ?_⟩
  walk_at "rd"
  have eL : (ns.map V.int).length = ns.length := List.length_map ..
  refine ⟨by decide, fun p hp => ⟨_, ((Same.refl H).upd hp).q hS, _, upd_same, by omega, by rw [eL]; omega, ?_, fun el hel => ⟨Nat.zero_le _, fun sp hsp => ?_⟩⟩⟩
  · exact Nat.le_trans (show _ ≤ 1000 by simp; omega) (by decide)
  have s0 : Same H (upd (upd (upd H p (.lst [V.int (-1)])) el (.lst (List.replicate (((ns.map V.int).length : Nat) : Int).toNat [V.int (-1)]).flatten)) sp (.lst [])) := (((Same.refl H).upd hp).upd' hel).upd' hsp
  refine ⟨_, s0.q hS, by omega, by rw [eL]; omega, ?_⟩
  have en : (((ns.map V.int).length : Nat) : Int).toNat = ns.length := by rw [eL]; omega
  have hel0 : (upd (upd (upd H p (.lst [V.int (-1)])) el (.lst (List.replicate (((ns.map V.int).length : Nat) : Int).toNat [V.int (-1)]).flatten)) sp (.lst [])) el = some (.lst ((List.replicate ns.length (-1 : Int)).map V.int)) := by
    have := ((Same.refl _).upd' (o := .lst []) hsp) el _ upd_same
    rw [this, en]; simp
  have hsp0 : (upd (upd (upd H p (.lst [V.int (-1)])) el (.lst (List.replicate (((ns.map V.int).length : Nat) : Int).toNat [V.int (-1)]).flatten)) sp (.lst [])) sp = some (.lst (natsV [])) := upd_same
  have nes : el ≠ sp := fun z => by
    subst z
    rw [upd_same] at hsp; cases hsp
  have zel : H el = none := ((Same.refl H).upd hp).free hel
  have zsp : H sp = none := (((Same.refl H).upd hp).upd' hel).free hsp
  rw [en] at hel0 hsp0 s0 ⊢
  generalize (upd (upd (upd H p (.lst [V.int (-1)])) el (.lst (List.replicate ns.length [V.int (-1)]).flatten)) sp (.lst [])) = H0 at s0 hel0 hsp0 ⊢
  refine for_range (fun i σ Hx => ∃ (es : List Int) (S : List Nat) (v3 v4 : Option V), σ = [some (.ref r), some (.ref el), some (.ref sp), v3, v4] ∧ Same H Hx ∧ Hx el = some (.lst (es.map V.int)) ∧ Hx sp = some (.lst (natsV S)) ∧ es.length = ns.length ∧ Spine (nth ns) i S ∧ (∀ p e, p < i → e = es.getD p 0 → ElderIs (nth ns) i p e) ∧ ∀ p, i ≤ p → p < ns.length → es.getD p 0 = -1)
    ⟨List.replicate ns.length (-1), [], none, none, rfl, s0, hel0, hsp0, by simp, ⟨List.Pairwise.nil, fun q => by simp⟩, fun p e hp => by omega, fun p _ hp => by simp [List.getD_eq_getElem?_getD, hp]⟩ ?_ ?_
  · rintro i σ Hx hi ⟨es, S, v3, v4, rfl, sx, hxe, hxs, hesl, hS2, hE, hE2⟩
    walk_at "rd"
    have hin : i < ns.length := by omega
    have hSl : S.length ≤ 1000 := by
      rcases pw_len S i 0 hS2.1 (fun q hq => ⟨Nat.zero_le _, ((hS2.2 q).mp hq).1⟩) with z | z
      · omega
      · rw [z]; simp
    refine ⟨_, .inl (SqL.of hxs), ?_⟩
    rw [natsV_len]
    refine while_i S.length (fun j σ Hy => ∃ A B, S = A ++ B ∧ B.length = j ∧ (∀ q ∈ B, nth ns i < nth ns q) ∧ σ = [some (.ref r), some (.ref el), some (.ref sp), some (.int (0 + (i : Int))), some (.int (A.length : Nat))] ∧ Hy = Hx) ⟨S, [], by simp, rfl, (fun q hq => absurd hq (by simp)), rfl, rfl⟩ ?_
    rintro j σ Hy hj ⟨A, B, hAB, hBl, hBg, rfl, rfl⟩
    walk_at "rd"
    have hmem : ∀ q, q ∈ A ++ B → q < i := fun q hq => ((hS2.2 q).mp (by rw [hAB]; exact hq)).1
    have hix : (0 + (i : Int)) = (i : Int) := by omega
    rw [hix]
    by_cases hA0 : A = []
    case' pos =>
      rw [if_neg (by rw [hA0]; simp)]
      have hA : ∀ q ∈ A, nth ns q ≤ nth ns i := fun q hq => absurd hq (by rw [hA0]; simp)
    case' neg =>
      obtain ⟨q, Al, rfl⟩ : ∃ q Al, A = Al ++ [q] := ⟨A.getLast hA0, A.dropLast, (List.dropLast_concat_getLast hA0).symm⟩
      have hal : (Al ++ [q]).length = Al.length + 1 := by simp
      rw [if_pos (by rw [hal]; omega)]
      have eiA : (((Al ++ [q]).length : Nat) : Int) - 1 = (Al.length : Int) := by rw [hal]; omega
      have hat : S[Al.length]? = some q := by
        rw [hAB, List.append_assoc, List.getElem?_append_right (Nat.le_refl _)]; simp
      have hqi : q < i := hmem q (by simp)
      refine ⟨_, SqL.of hxs, _, by rw [eiA]; exact natsV_at hat, _, _, rfl, sx.q hS, _, nth_at (by omega), _, sx.q hS, _, nth_at hin, _, rfl, _, rfl, ite2 (fun hlt => ?_) (fun hge => ?_)⟩
      · have hj2 : j + 1 ≤ S.length := by rw [hAB, List.length_append, hal]; omega
        refine ⟨_, WI.next, hj2, Al, q :: B, by rw [hAB]; simp, by simp [hBl], fun x hx => ?_, by rw [eiA], rfl⟩
        rcases List.mem_cons.mp hx with z | z
        · rw [z]; exact hlt
        · exact hBg x z
      have hA : ∀ x ∈ Al ++ [q], nth ns x ≤ nth ns i := fun x hx => by
        by_cases z : x = q
        · rw [z]; omega
        · have hxa : x ∈ Al := by
            rcases List.mem_append.mp hx with y | y
            · exact y
            · exact absurd (by simpa using y) z
          have hpw := hS2.1
          rw [hAB] at hpw
          have hxq : x < q := (List.pairwise_append.mp (List.pairwise_append.mp hpw).1).2.2 x hxa q (by simp)
          have := ((hS2.2 x).mp (by rw [hAB]; exact List.mem_append_left _ hx)).2 q hxq hqi
          omega
      generalize Al ++ [q] = A at hA hAB hmem hA0 ⊢
    all_goals
      have SS := spine_step (f := nth ns) (i := i) (A := A) (B := B) (by rw [← hAB]; exact hS2) hA hBg
      refine ⟨el, sp, es, A, B, i, rfl, hxe, by rw [← hAB]; exact hxs, nes, by omega, fun q hq => by have := hmem q hq; omega, by rw [← hAB]; exact hSl, fun H' q1 q2 q3 => ?_⟩
      have hbi : ∀ b, B.head? = some b → b ≠ i := fun b hb => by
        have := hmem b (List.mem_append_right _ (List.mem_of_head? hb)); omega
      refine ⟨fun b o z => q1 b o (ne_of_none z zel) (ne_of_none z zsp) (sx b o z), setE es A B i, q2, A ++ [i], q3, by rw [setE_len]; exact hesl, SS.1, fun p e hp he => ?_, fun p hp1 hp2 => ?_⟩
      · rw [setE_at _ _ _ _ _ (by omega) hbi] at he
        by_cases z : p = i
        · subst z
          rw [if_pos rfl, hE2 p (Nat.le_refl _) (by omega)] at he
          rw [he]; exact SS.2.1
        · rw [if_neg z] at he
          rw [he]
          exact SS.2.2 p _ (by omega) (hE p _ (by omega) rfl)
      · rw [setE_at _ _ _ _ _ (by omega) hbi, if_neg (by omega), if_neg (fun z => ?_)]
        · exact hE2 p (by omega) hp2
        · have := hmem p (List.mem_append_right _ (List.mem_of_head? z)); omega
  · rintro σ Hx ⟨es, S, v3, v4, rfl, sx, hxe, hxs, hesl, hS2, hE, hE2⟩
    walk_at "rd"
    exact ⟨_, .inl ⟨SqL.of hxe, fun t ht => k1 t es _ ⟨hesl, fun p hp => hE p _ hp rfl⟩ (sx.upd' ht) upd_same⟩⟩

theorem ok_way_up {f : Addr} {fd : FuncData} (F : Fun K "way_up" "way_up" s_way_up f fd)  (T : Txt K mg) : FnOk P w K mg base (CXE P w) 1 f fd ["tree", "place"] (sp_way_up K mg) := by
  refine F.okX sc_way_up (fun vs H Q E h => ?_) (fun cdv A outer s H vs Q E hr h => ?_)
  · obtain ⟨t, T, p, rfl, _⟩ := h; rfl
  obtain ⟨t, T', p, rfl, ht, hn, hp, k1⟩ := h
  refine ⟨_, (pss_cons (ps_set (i := 2) sc_way_up.nd rfl (Or.inl rfl) (pe_lst pa_nil))
      (pss_cons (ps_set (i := 3) sc_way_up.nd rfl (Or.inl rfl) (pe_ix ix_tup (pv 0) (pv 1) (fun _ _ => rfl)))
      (pss_cons (ps_nox (ps_while PassesOwn.never (PW.pt (pw_and (pt_chain op_le op_lt pe_int (pv 3) (pe_callB (call_lenK (K := K) rfl) rfl T.b_len PySem.boot_len (pa_cons (pv 0) pa_nil))) (pw_and1 (pt_cmpR op_lt (pe_callB (call_lenK (K := K) rfl) rfl T.b_len PySem.boot_len (pa_cons (pv 2) pa_nil)) (pe_callB (call_lenK (K := K) rfl) rfl T.b_len PySem.boot_len (pa_cons (pv 0) pa_nil)) (nomark _))))) (pss_cons (ps_expr (pe_bm PySem.F.plainAttrs_list PySem.F.slot_list_append PySem.F.type_list_append mt_append (pv 2) (pa_cons (pv 3) pa_nil)))
      (pss_one (ps_set (i := 3) sc_way_up.nd rfl (Or.inl rfl) (pe_ix ix_tup (pv 0) (pv 3) (fun _ _ => rfl)))))))
      (pss_one (ps_ret (pv 2)))))), ?_⟩
  walk_at "rd"
  refine ⟨Nat.zero_le _, fun l hl => ⟨_, SqT.of (((Same.refl H).upd hl) _ _ ht), _, nth_at hp, ?_⟩⟩
  refine while_i T'.length (fun j σ Hx => Same H Hx ∧ Hx l = some (.lst (natsV (wayF T' j (nth T' p)))) ∧ (wayF T' j (nth T' p)).length = j ∧ σ = [some (.ref t), some (.int p), some (.ref l), some (.int (wayAt T' j (nth T' p)))]) ⟨(Same.refl H).upd hl, upd_same, rfl, rfl⟩ ?_
  rintro j σ Hx hj ⟨sx, hxl, hjl, rfl⟩
  walk_at "rd"
  have hlen : (natsV (wayF T' j (nth T' p))).length = j := by rw [natsV_len]; exact hjl
  have eL : (T'.map V.int).length = T'.length := List.length_map ..
  have done : (j = T'.length ∨ ¬ (0 ≤ wayAt T' j (nth T' p) ∧ wayAt T' j (nth T' p) < T'.length)) → Q (.ref l) Hx := fun z => by
    refine k1 l Hx hl sx ?_
    have : wayF T' T'.length (nth T' p) = wayF T' j (nth T' p) := by
      rcases z with z | z
      · rw [← z]
      · exact wayF_stop T' j _ _ hj hjl z
    rw [hxl]; unfold wayI; rw [this]; simp [natsV]
  refine ite2 (fun h0 => ⟨_, .inr (SqT.of (sx _ _ ht)), ite2 (fun h1 => ⟨_, .inl (SqL.of hxl), _, .inr (SqT.of (sx _ _ ht)), ite2 (fun h2 => ?_) fun h2 => done (.inl (by rw [hlen, eL] at h2; omega))⟩) fun h1 => done (.inr (by rw [eL] at h1; omega))⟩) fun h0 => done (.inr (by omega))
  rw [eL] at h1; rw [hlen, eL] at h2
  obtain ⟨a1, a2⟩ := wayF_snoc T' j (nth T' p) h0 h1 hjl
  have ei : wayAt T' j (nth T' p) = (((wayAt T' j (nth T' p)).toNat : Nat) : Int) := by omega
  have nlt : t ≠ l := ne_of_none ht hl
  refine ⟨_, WI.next, tyV_list hxl, _, hxl, by rw [hlen]; exact Nat.lt_of_le_of_lt (show _ ≤ 1000 by omega) (by decide), _, SqT.of (by rw [upd_ne nlt]; exact sx _ _ ht), _, (congrArg (atI _) ei).trans (nth_at (by omega)), by omega, sx.upd hl, ?_, ?_, ?_⟩
  · rw [upd_same, a1, natsV_app]
    have : natsV [(wayAt T' j (nth T' p)).toNat] = [V.int (wayAt T' j (nth T' p))] := by rw [ei]; simp [natsV]
    rw [this]
  · rw [a1]; simp [hjl]
  · rw [a2]

theorem ok_fences_of {f : Addr} {fd : FuncData} (F : Fun K "fences_of" "fences_of" s_fences_of f fd) (G_way_up : Callee P w K mg base "way_up" 1 ["tree", "place"] (sp_way_up K mg)) (T : Txt K mg) : FnOk P w K mg base (CXE P w) 2 f fd ["tree"] (sp_fences_of K mg) := by
  refine F.okX sc_fences_of (fun vs H Q E h => ?_) (fun cdv A outer s H vs Q E hr h => ?_)
  · obtain ⟨t, ns, T, rfl, _⟩ := h; rfl
  obtain ⟨t, ns, T', rfl, ht, hT, hn, k1⟩ := h
  refine ⟨_, (pss_cons (ps_set (i := 1) sc_fences_of.nd rfl (Or.inl rfl) (pe_lst pa_nil))
      (pss_cons (ps_nox (ps_for PassesOwn.never rfl (pi_range1 rfl T.b_range (pa_cons (pe_callB (call_lenK (K := K) rfl) rfl T.b_len PySem.boot_len (pa_cons (pv 0) pa_nil)) pa_nil)) (pg_name (i := 2) sc_fences_of.nd rfl (Or.inr rfl)) (pss_cons (ps_set (i := 3) sc_fences_of.nd rfl (Or.inl rfl) (pe_callF G_way_up (hr.mono (by decide)) rfl passE (pa_cons (pv 0) (pa_cons (pv 2) pa_nil))))
      (pss_cons (ps_set (i := 4) sc_fences_of.nd rfl (Or.inl rfl) (pe_maxD (K := K) rfl rfl rfl T.b_max (pa_cons (pe_compN ["elder", "place"] [none, some 2] rfl rfl rfl (pi_list (pv 3)) (fun _ _ _ _ _ => (pg_name (i := 0) (show (["elder", "place"] : List Str).Nodup from by decide +kernel) rfl (Or.inl rfl))) (fun _ _ _ _ _ => pifs_one (pt_cmpR op_lt (pv 0) (pv 1) (nomark _))) (fun _ _ _ _ _ => (pv 0)) only_name) pa_nil) (pk_cons (pe_un un_neg pe_int) pk_nil)))
      (pss_cons (ps_set (i := 5) sc_fences_of.nd rfl (Or.inl rfl) (pe_minD (K := K) rfl rfl rfl T.b_min (pa_cons (pe_compN ["elder", "place"] [none, some 2] rfl rfl rfl (pi_list (pv 3)) (fun _ _ _ _ _ => (pg_name (i := 0) (show (["elder", "place"] : List Str).Nodup from by decide +kernel) rfl (Or.inl rfl))) (fun _ _ _ _ _ => pifs_one (pt_cmpR op_gt (pv 0) (pv 1) (nomark _))) (fun _ _ _ _ _ => (pv 0)) only_name) pa_nil) (pk_cons (pe_callB (call_lenK (K := K) rfl) rfl T.b_len PySem.boot_len (pa_cons (pv 0) pa_nil)) pk_nil)))
      (pss_one (ps_expr (pe_bm PySem.F.plainAttrs_list PySem.F.slot_list_append PySem.F.type_list_append mt_append (pv 1) (pa_cons (pe_tup (pa_cons (pv 4) (pa_cons (pv 5) pa_nil))) pa_nil)))))))))
      (pss_one (ps_ret (pv 1))))), ?_⟩
  walk_at "rd"
  have eT : T'.length = ns.length := hT.1
  have eL : (T'.map V.int).length = T'.length := List.length_map ..
  refine ⟨Nat.zero_le _, fun p hp => ?_⟩
  have s0 : Same H (upd H p (.lst [])) := (Same.refl H).upd hp
  refine ⟨_, .inr (SqT.of (s0 _ _ ht)), by omega, by rw [eL]; omega, ?_⟩
  have en : (((T'.map V.int).length : Nat) : Int).toNat = ns.length := by rw [eL]; omega
  rw [en]
  have h0 : PairsAt (upd H p (.lst [])) p 0 (fun p => (fenA (nth ns) p, fenB (nth ns) ns.length p)) := ⟨[], upd_same, rfl, fun j q hq => by simp at hq⟩
  generalize upd H p (.lst []) = H0 at s0 h0 ⊢
  refine for_range (fun i σ Hx => ∃ v2 v3 v4 v5, σ = [some (.ref t), some (.ref p), v2, v3, v4, v5] ∧ PairsAt Hx p i (fun p => (fenA (nth ns) p, fenB (nth ns) ns.length p)) ∧ Same H Hx) ⟨_, _, _, _, rfl, h0, s0⟩ ?_ ?_
  · rintro i σ Hx hi ⟨v2, v3, v4, v5, rfl, hP, sx⟩
    have e0 : ((0 : Int) + (i : Int)) = (i : Int) := by omega
    rw [e0]
    have hpi : i < ns.length := hi
    have hw1 : (wayI T' i).length ≤ 1000 := by simp only [wayI, List.length_map]; exact Nat.le_trans (wayF_len _ _ _) (by omega)
    refine seqR (fun σ Hy => ∃ w : Addr, σ = [some (.ref t), some (.ref p), some (.int (i : Int)), some (.ref w), v4, v5] ∧ Hy w = some (.lst ((wayI T' i).map V.int)) ∧ PairsAt Hy p i (fun p => (fenA (nth ns) p, fenB (nth ns) ns.length p)) ∧ Same H Hy) (fun R hR => ?_) ?_
    · walk_at "rd"
      exact ⟨t, T', i, rfl, sx _ _ ht, by omega, by omega, fun w H1 hw s1 h1 => hR _ _ ⟨w, rfl, h1, hP.same s1, sx.trans s1⟩⟩
    rintro σ Hy ⟨w, rfl, hw, hP1, sy⟩
    refine seqR (fun σ Hz => σ = [some (.ref t), some (.ref p), some (.int (i : Int)), some (.ref w), some (.int (fenA (nth ns) i)), v5] ∧ Hz w = some (.lst ((wayI T' i).map V.int)) ∧ PairsAt Hz p i (fun p => (fenA (nth ns) p, fenB (nth ns) ns.length p)) ∧ Same H Hz) (fun R hR => ?_) ?_
    · walk_at "rd"
      refine ⟨⟨_, SqL.of hw⟩, comp_sift (fun o => decide (o < (i : Int))) hw hw1 (fun x Hy R hR => ?_) fun l H2 s2 hl => ?_⟩
      · walk_at "rd"
        exact hR
      have FA := fenA_max hT hpi
      have g := s2.upd' (o := .lst (((wayI T' i).filter fun o => decide (o < (i : Int))).map V.int)) hl
      refine ⟨l, rfl, _, SqL.of upd_same, fun e => ?_, fun hne m hm hmax => ?_⟩
      · rw [← FA.1 e]
        exact hR _ _ ⟨rfl, g _ _ hw, hP1.same g, sy.trans g⟩
      · rw [FA.2 hne m hm hmax]
        exact hR _ _ ⟨rfl, g _ _ hw, hP1.same g, sy.trans g⟩
    clear hw hP1 sy Hy
    rintro σ Hy ⟨rfl, hw, hP1, sy⟩
    refine seqR (fun σ Hz => σ = [some (.ref t), some (.ref p), some (.int (i : Int)), some (.ref w), some (.int (fenA (nth ns) i)), some (.int (fenB (nth ns) ns.length i))] ∧ PairsAt Hz p i (fun p => (fenA (nth ns) p, fenB (nth ns) ns.length p)) ∧ Same H Hz) (fun R hR => ?_) ?_
    · walk_at "rd"
      refine ⟨⟨_, SqL.of hw⟩, comp_sift (fun o => decide ((i : Int) < o)) hw hw1 (fun x Hy R hR => ?_) fun l H2 s2 hl => ?_⟩
      · walk_at "rd"
        exact hR
      have FB := fenB_min hT hpi
      have g := s2.upd' (o := .lst (((wayI T' i).filter fun o => decide ((i : Int) < o)).map V.int)) hl
      refine ⟨_, .inr (SqT.of ((sy.trans g) _ _ ht)), l, rfl, _, SqL.of upd_same, fun e => ?_, fun hne m hm hmin => ?_⟩
      · rw [eL, eT, ← FB.1 e]
        exact hR _ _ ⟨rfl, hP1.same g, sy.trans g⟩
      · rw [FB.2 hne m hm hmin]
        exact hR _ _ ⟨rfl, hP1.same g, sy.trans g⟩
    clear hw hP1 sy Hy
    rintro σ Hy ⟨rfl, hP1, sy⟩
    walk_at "rd"
    obtain ⟨qs, hq1, hq2, hq3⟩ := id hP1
    refine ⟨tyV_list hq1, by decide, fun q hq => ?_⟩
    have g := (Same.refl Hy).upd (o := .tup [.int (fenA (nth ns) i), .int (fenB (nth ns) ns.length i)]) hq
    obtain ⟨xs, hx1, hx2, hx3⟩ := (hP1.same g).push (q := q) upd_same
    have zp : H p = none := hp
    refine ⟨xs, hx1, Nat.lt_of_le_of_lt (show _ ≤ 1000 by omega) (by decide), hx3, fun b o z => ?_⟩
    rw [upd_ne (ne_of_none z zp)]
    exact (sy.trans g) b o z
  · rintro σ Hx ⟨v2, v3, v4, v5, rfl, hP, sx⟩
    walk_at "rd"
    exact k1 p Hx sx hP

theorem ok_distance_list {f : Addr} {fd : FuncData} (F : Fun K "distance_list" "distance_list" s_distance_list f fd) (G_fences_of : Callee P w K mg base "fences_of" 2 ["tree"] (sp_fences_of K mg)) (T : Txt K mg) : FnOk P w K mg base (CXE P w) 3 f fd ["tree"] (sp_distance_list K mg) := by
  refine F.okX sc_distance_list (fun vs H Q E h => ?_) (fun cdv A outer s H vs Q E hr h => ?_)
  · obtain ⟨t, ns, T, rfl, _⟩ := h; rfl
  obtain ⟨t, ns, T', rfl, ht, hT, hn, k1⟩ := h
  refine ⟨_, (pss_one (ps_ret (pe_compN ["place", "ahead", "behind"] [none, none, none] rfl rfl rfl (pi_enum (K := K) rfl rfl T.b_enumerate (pa_cons (pe_callF G_fences_of (hr.mono (by decide)) rfl passE (pa_cons (pv 0) pa_nil)) pa_nil)) (fun _ _ _ _ _ => (pg_tupK (K := K) (n := 2) rfl rfl (pgs_cons (pg_name (i := 0) (show (["place", "ahead", "behind"] : List Str).Nodup from by decide +kernel) rfl (Or.inl rfl)) (pgs_cons (pg_tupK (K := K) (n := 2) rfl rfl (pgs_cons (pg_name (i := 1) (show (["place", "ahead", "behind"] : List Str).Nodup from by decide +kernel) rfl (Or.inl rfl)) (pgs_cons (pg_name (i := 2) (show (["place", "ahead", "behind"] : List Str).Nodup from by decide +kernel) rfl (Or.inl rfl)) pgs_nil))) pgs_nil)))) (fun _ _ _ _ _ => pifs_nil) (fun _ _ _ _ _ => (pe_ifExp (pt_cmpR op_ge (pv 1) pe_int (nomark _)) (pe_op op_sub (pv 0) (pv 1)) pe_int)) (only_tup (only_cons only_name (only_cons (only_tup (only_cons only_name (only_cons only_name only_nil))) only_nil)))))), ?_⟩
  walk_at "rd"
  refine ⟨t, ns, T', rfl, ht, hT, hn, fun l H1 s1 hP => ?_⟩
  obtain ⟨qs, h1, h2, h3⟩ := hP
  refine ⟨l, rfl, _, SqL.of h1, comp_map (n := ns.length) (fun q => V.int (distN (nth ns) q)) (Nat.lt_of_le_of_lt (show _ ≤ 1000 by omega) (by decide)) (fun j Hx s hj => ⟨_, _, SqL.of (s _ _ h1), List.getElem?_eq_getElem (by simpa [h2] using hj)⟩) (fun Hx s => ⟨_, SqL.of (s _ _ h1), by simp [h2]⟩) ?_ ?_⟩
  · rintro j x Hx Hy hj s ⟨p, x, hp, rfl, rfl, hx⟩
    have hx1 := hx _ (SqL.of (s _ _ h1))
    obtain ⟨q, hq⟩ : ∃ q, qs[j]? = some q := ⟨qs[j]'(by omega), List.getElem?_eq_getElem (by omega)⟩
    rw [List.getElem?_map, hq] at hx1
    cases hx1
    have hq1 := s _ _ (h3 j q hq)
    have hq2 := ((Same.refl Hx).upd (o := .tup [.int (j : Int), .ref q]) hp) _ _ hq1
    walk_at "rd"
    refine ⟨_, SqT.of upd_same, rfl, _, _, rfl, _, _, rfl, _, rfl, _, SqT.of hq2, rfl, _, _, rfl, _, _, rfl, rfl, rfl, _, rfl, ite2 (fun z => ⟨_, rfl, _, rfl, CW.next hj ?_ (s.upd' hp)⟩) fun z => CW.next hj ?_ (s.upd' hp)⟩
    · unfold distN; rw [if_pos z]
    · unfold distN; rw [if_neg z]
  · intro l' Hx s hl'
    have ed : (List.range ns.length).map (fun q => V.int (distN (nth ns) q)) = (distI ns).map V.int := by simp [distI]
    rw [ed]
    exact k1 l' _ ((s1.trans s).free hl') ((s1.trans s).upd' hl') upd_same

theorem ok_row_distances {f : Addr} {fd : FuncData} (F : Fun K "row_distances" "row_distances" s_row_distances f fd) (G_tree_of : Callee P w K mg base "tree_of" 2 ["row"] (sp_tree_of K mg)) (G_distance_list : Callee P w K mg base "distance_list" 3 ["tree"] (sp_distance_list K mg)) (T : Txt K mg) : FnOk P w K mg base (CXE P w) 4 f fd ["row"] (sp_row_distances K mg) := by
  refine F.okX sc_row_distances (fun vs H Q E h => ?_) (fun cdv A outer s H vs Q E hr h => ?_)
  · obtain ⟨r, ns, rfl, _⟩ := h; rfl
  obtain ⟨r, ns, rfl, hS, hn, k1⟩ := h
  refine ⟨_, (pss_one (ps_ret (pe_callF G_distance_list (hr.mono (by decide)) rfl passE (pa_cons (pe_callF G_tree_of (hr.mono (by decide)) rfl passE (pa_cons (pv 0) pa_nil)) pa_nil)))), ?_⟩
  walk_at "rd"
  exact ⟨r, ns, rfl, hS, hn, fun t es H1 hT s1 ht => ⟨t, ns, es, rfl, ht, hT, hn, fun l H2 zl s2 hl => k1 l _ (s1.free zl) (s1.trans s2) hl⟩⟩
theorem ok_seen_within {f : Addr} {fd : FuncData} (F : Fun K "seen_within" "seen_within" s_seen_within f fd)  (T : Txt K mg) : FnOk P w K mg base (CXE P w) 1 f fd ["distance", "size"] (sp_seen_within K mg) := by
  refine F.okX sc_seen_within (fun vs H Q E h => ?_) (fun cdv A outer s H vs Q E hr h => ?_)
  · obtain ⟨d, k, rfl, _⟩ := h; rfl
  obtain ⟨d, k, rfl, k1⟩ := h
  refine ⟨_, (pss_one (ps_ret (pe_ifExp (pt_cmpR op_le (pv 0) (pv 1) (nomark _)) (pv 0) pe_int))), ?_⟩
  walk_at "rd"
  unfold sw at k1
  by_cases h : d ≤ k
  · rw [if_pos h] at k1 ⊢; exact k1
  · rw [if_neg h] at k1 ⊢; exact k1
theorem ok_follow {f : Addr} {fd : FuncData} (F : Fun K "follow" "follow" s_follow f fd) (G_seen_within : Callee P w K mg base "seen_within" 1 ["distance", "size"] (sp_seen_within K mg)) (T : Txt K mg) : FnOk P w K mg base (CXE P w) 2 f fd ["told", "borders", "size", "distance"] (sp_follow K mg) := by
  refine F.okX sc_follow (fun vs H Q E h => ?_) (fun cdv A outer s H vs Q E hr h => ?_)
  · obtain ⟨l, b, ns, bs, s, d, rfl, _⟩ := h; rfl
  obtain ⟨l, b, ns, bs, s0, d, rfl, hl, hb, hB, hn, hn0, hs, hbn, hd, k1⟩ := h
  refine ⟨_, (pss_cons (ps_nox (ps_while PassesOwn.never (PW.pt (pw_or (pt_cmpR op_eq (pv 2) (pe_callB (call_lenK (K := K) rfl) rfl T.b_len PySem.boot_len (pa_cons (pv 0) pa_nil)) (nomark _)) (pw_or1 (pt_cmpR op_ne (pe_ix ix_list (pv 0) (pv 2) (fun _ _ => rfl)) (pe_callF G_seen_within (hr.mono (by decide)) rfl passE (pa_cons (pv 3) (pa_cons (pv 2) pa_nil))) (nomark _))))) (pss_one (ps_set (i := 2) sc_follow.nd rfl (Or.inl rfl) (pe_ix ix_list (pv 1) (pe_op op_sub (pv 2) pe_int) (fun _ _ => rfl))))))
      (pss_one (ps_ret (pe_op op_add (pv 2) pe_int)))), ?_⟩
  walk_at "rd"
  have eD : ((distI ns).map V.int).length = ns.length := by rw [List.length_map, distI_len]
  refine while_m (fun m σ Hx => m ≤ s0 ∧ Walk (nth ns) ns.length s0 d m ∧ Hx = H ∧ σ = [some (.ref l), some (.ref b), some (.int (m : Int)), some (.int d)]) s0 ⟨Nat.le_refl _, Walk.start _ _ _ _, rfl, rfl⟩ ?_
  rintro m σ Hx ⟨hm, hW, rfl, rfl⟩
  walk_at "rd"
  have pos : ¬ (m < ns.length ∧ distN (nth ns) m = sw d m) → 0 < m := fun no => by
    cases m with
    | zero => exact absurd ⟨hn0, by rw [mt_zero_dist, sw_zero d hd]⟩ no
    | succ m => omega
  have stp : ∀ no : ¬ (m < ns.length ∧ distN (nth ns) m = sw d m), ∃ x, SqL K Hx b x ∧ ∃ x_1, atI x ((m : Int) - 1) = some x_1 ∧ ∃ m', m' < m ∧ m' ≤ s0 ∧ Walk (nth ns) ns.length s0 d m' ∧ Hx = Hx ∧ [some (V.ref l), some (V.ref b), some x_1, some (V.int d)] = [some (V.ref l), some (V.ref b), some (V.int (m' : Int)), some (V.int d)] := fun no => by
    have hp := pos no
    have hB1 := hB (m - 1) (by omega)
    rw [show m - 1 + 1 = m by omega] at hB1
    have em : ((m : Int) - 1) = ((m - 1 : Nat) : Int) := by omega
    have := hB1.1
    refine ⟨_, SqL.of hb, V.int ((bs.getD (m - 1) 0 : Nat) : Int), ?_, _, hB1.1, by omega, hW.step no hB1, rfl, rfl⟩
    rw [em]
    refine natsV_at ?_
    simp [List.getD_eq_getElem?_getD, show m - 1 < bs.length by omega]
  refine ⟨_, .inl (SqL.of hl), ite2 (fun z => ?_) fun z => ?_⟩
  · obtain ⟨x, h1, y, h2, h3⟩ := stp (by rw [eD] at z; omega)
    exact ⟨_, fun σ' H' z => z, x, h1, y, h2, h3⟩
  · rw [eD] at z
    refine ⟨_, SqL.of hl, _, nth_at (by rw [distI_len]; omega), d, m, rfl, ?_⟩
    rw [distI_nth (by omega)]
    refine ⟨rfl, ite2 (fun y => ?_) fun y => ?_⟩
    · obtain ⟨x, h1, y, h2, h3⟩ := stp (fun h => y (by rw [h.2]))
      exact ⟨_, fun σ' H' z => z, x, h1, y, h2, h3⟩
    · have yy : V.int (distN (nth ns) m) = V.int (sw d m) := Classical.not_not.mp y
      injection yy with yy
      have := k1 m (hW.goes ⟨by omega, yy⟩)
      rw [show ((m : Int) + 1) = ((m + 1 : Nat) : Int) by omega]; exact this
theorem ok_borders_by {f : Addr} {fd : FuncData} (F : Fun K "borders_by" "borders_by" s_borders_by f fd) (G_follow : Callee P w K mg base "follow" 2 ["told", "borders", "size", "distance"] (sp_follow K mg)) (T : Txt K mg) : FnOk P w K mg base (CXE P w) 3 f fd ["told"] (sp_borders_by K mg) := by
  refine F.okX sc_borders_by (fun vs H Q E h => ?_) (fun cdv A outer s H vs Q E hr h => ?_)
  · obtain ⟨l, ns, rfl, _⟩ := h; rfl
  obtain ⟨l, ns, rfl, hl, hn, k1⟩ := h
  refine ⟨_, (pss_cons (ps_set (i := 1) sc_borders_by.nd rfl (Or.inl rfl) (pe_ifExp (pt_truth (pv 0) (fun _ => rfl)) (pe_lst (pa_cons pe_int pa_nil)) (pe_lst pa_nil)))
      (pss_cons (ps_nox (ps_for PassesOwn.never rfl (pi_list (pe_slice sl_list (pv 0) (po_some pe_int) po_none)) (pg_name (i := 2) sc_borders_by.nd rfl (Or.inl rfl)) (pss_one (ps_expr (pe_bm PySem.F.plainAttrs_list PySem.F.slot_list_append PySem.F.type_list_append mt_append (pv 1) (pa_cons (pe_callF G_follow (hr.mono (by decide)) rfl passE (pa_cons (pv 0) (pa_cons (pv 1) (pa_cons (pe_ix ix_list (pv 1) (pe_un un_neg pe_int) (fun _ _ => rfl)) (pa_cons (pv 2) pa_nil))))) pa_nil))))))
      (pss_one (ps_ret (pv 1))))), ?_⟩
  walk_at "rd"
  have eD : ((distI ns).map V.int).length = ns.length := by rw [List.length_map, distI_len]
  have e1 : cutV ((distI ns).map V.int) (some 1) none = ((distI ns).drop 1).map V.int := by
    have := cut_fromN ((distI ns).map V.int) 1
    rw [show ((1 : Nat) : Int) = 1 from rfl] at this
    rw [this, List.map_drop]
  by_cases hn0 : ns.length = 0
  · have en : distI ns = [] := List.length_eq_zero_iff.mp (by rw [distI_len]; exact hn0)
    refine ⟨false, .inl ⟨_, SqL.of hl, by rw [en]; rfl⟩, iteF ⟨Nat.zero_le _, fun p hp => ⟨_, SqL.of (((Same.refl H).upd hp) _ _ hl), fun q hq => ⟨⟨_, SqL.of upd_same⟩, ?_⟩⟩⟩⟩
    have g : Same (upd H p (.lst [])) (upd (upd H p (.lst [])) q (.lst (cutV ((distI ns).map V.int) (some 1) none))) := (Same.refl _).upd hq
    refine for_list (K := K) (a := q) (xs := []) (fun i σ Hx => σ = [some (.ref l), some (.ref p), none] ∧ Hx = upd (upd H p (.lst [])) q (.lst (cutV ((distI ns).map V.int) (some 1) none))) ⟨rfl, rfl⟩ (fun i σ Hx _ ⟨_, e⟩ => by rw [e]; exact SqL.of (by rw [upd_same, e1, en]; rfl)) (fun i x σ Hx hx => absurd hx (by simp)) ?_
    rintro σ Hx ⟨rfl, rfl⟩
    walk_at "rd"
    exact k1 p [] _ hp (by simp [hn0]) (fun k hk => absurd hk (by simp)) (((Same.refl H).upd hp).trans g) (g _ _ upd_same)
  · refine ⟨true, .inl ⟨_, SqL.of hl, ?_⟩, iteT ⟨by decide, fun p hp => ⟨_, SqL.of (((Same.refl H).upd hp) _ _ hl), fun q hq => ⟨⟨_, SqL.of upd_same⟩, ?_⟩⟩⟩⟩
    · cases e : (distI ns).map V.int with
      | nil => rw [e] at eD; exact absurd eD.symm hn0
      | cons _ _ => rfl
    have g : Same (upd H p (.lst [V.int 0])) (upd (upd H p (.lst [V.int 0])) q (.lst (cutV ((distI ns).map V.int) (some 1) none))) := (Same.refl _).upd hq
    have nqp : q ≠ p := fun z => by rw [z, upd_same] at hq; cases hq
    have hq0 : (upd (upd H p (.lst [V.int 0])) q (.lst (cutV ((distI ns).map V.int) (some 1) none))) q = some (.lst (((distI ns).drop 1).map V.int)) := by rw [upd_same, e1]
    refine for_list (K := K) (a := q) (xs := ((distI ns).drop 1).map V.int) (fun i σ Hx => ∃ (bs : List Nat) (v2 : Option V), σ = [some (.ref l), some (.ref p), v2] ∧ bs.length = i + 1 ∧ BordersAt (nth ns) bs ∧ Same H Hx ∧ Hx p = some (.lst (natsV bs)) ∧ Hx q = some (.lst (((distI ns).drop 1).map V.int))) ⟨[0], none, rfl, rfl, fun k hk => ?_, ((Same.refl H).upd hp).trans g, g _ _ upd_same, hq0⟩ (fun i σ Hx _ ⟨_, _, _, _, _, _, _, h⟩ => SqL.of h) ?_ ?_
    · have : k = 0 := by simp at hk; exact hk
      subst this
      exact border_one _
    · rintro i x σ Hx hi ⟨bs, v2, rfl, hlen, hB, sx, hxp, hxq⟩
      have hi' : i + 1 < ns.length := by
        have := (List.getElem?_eq_some_iff.mp hi).1
        rw [List.length_map, List.length_drop, distI_len] at this; omega
      have ex : x = V.int (distN (nth ns) (i + 1)) := by
        rw [List.getElem?_map, List.getElem?_drop] at hi
        have : (distI ns)[1 + i]? = some (distN (nth ns) (i + 1)) := by
          rw [show 1 + i = i + 1 by omega]
          simp [distI, hi']
        rw [this] at hi
        exact (Option.some.inj hi).symm
      subst ex
      walk_at "rd"
      have hBi := hB i (by omega)
      have := hBi.1
      refine ⟨tyV_list hxp, _, SqL.of hxp, _, natsV_last hlen, l, p, ns, bs, bs.getD i 0, distN (nth ns) (i + 1), rfl, sx _ _ hl, hxp, hB, hn, by omega, by omega, by omega, (distN_bounds _ _).1, fun m hG => ⟨_, hxp, Nat.lt_of_le_of_lt (show _ ≤ 1000 by rw [natsV_len]; omega) (by decide), bs ++ [m + 1], by simp [hlen], fun k hk => ?_, sx.upd hp, by rw [upd_same, natsV_app]; rfl, by rw [upd_ne nqp]; exact hxq⟩⟩
      by_cases e : k = i + 1
      · subst e
        have : (bs ++ [m + 1]).getD (i + 1) 0 = m + 1 := by rw [← hlen]; simp [List.getD_eq_getElem?_getD]
        rw [this]
        exact border_next hi' hBi hG
      · have hk' : k < bs.length := by simp at hk; omega
        have : (bs ++ [m + 1]).getD k 0 = bs.getD k 0 := by
          simp only [List.getD_eq_getElem?_getD]
          rw [List.getElem?_append_left hk']
        rw [this]; exact hB k hk'
    · rintro σ Hx ⟨bs, v2, rfl, hlen, hB, sx, hxp, hxq⟩
      walk_at "rd"
      exact k1 p bs _ hp (by rw [hlen, List.length_map, List.length_drop, distI_len]; omega) hB sx hxp
theorem ok_need_numbers {f : Addr} {fd : FuncData} {dV : Value} (F : FunD K "need_numbers" "need_numbers" s_need_numbers f fd dV)  (T : Txt K mg) : FnOk P w K mg base (CXE P w) 1 f fd ["row", "fewest"] (sp_need_numbers K mg) := by
  refine F.okX sc_need_numbers (fun vs H Q E h => ?_) (fun cdv A outer s H vs Q E hr h => ?_)
  · obtain ⟨r, ns, k, rfl, _⟩ := h; rfl
  obtain ⟨r, ns, k, rfl, hS, hn, h0, h1, k1, k2⟩ := h
  refine ⟨_, (pss_one (ps_if (pt_cmpR op_lt (pe_callB (call_lenK (K := K) rfl) rfl T.b_len PySem.boot_len (pa_cons (pv 0) pa_nil)) (pv 1) (nomark _)) (pss_one (ps_raise rfl rfl T.c_Empty T.x_Empty (pa_cons (pe_joined (pj_text (by decide) (pj_int (pe_callB (call_lenK (K := K) rfl) rfl T.b_len PySem.boot_len (pa_cons (pv 0) pa_nil)) (pj_text (by decide) (pj_int (pv 1) (pj_text (by decide) pj_nil)))))) pa_nil) raisesE)) pss_nil)), ?_⟩
  walk_at "rd"
  have eN : (ns.map V.int).length = ns.length := List.length_map ..
  exact ⟨_, hS, ite2 (fun z => ⟨_, hS, by omega, by rw [eN]; omega, h0, by omega, fun y => ⟨by decide, k2 (by rw [eN] at z; exact z)⟩⟩) fun z => k1 (by rw [eN] at z; omega)⟩
open Classical in
theorem distN_cong {f g : Nat → Int} {p : Nat} (h : ∀ q, q ≤ p → g q = f q) : distN g p = distN f p := by
  have := distN_shift (f := f) (g := g) (x := 0) (i := p) fun k hk => by rw [Nat.zero_add]; exact h k hk
  rwa [Nat.zero_add, sw_self] at this
theorem long_cong {f g g' : Nat → Int} {n p m : Nat} (h : ∀ q, q < p → g' q = g q) (hl : IsLong f g n p m) : IsLong f g' n p m := by
  have key : ∀ j, j ≤ p → (Mt f g' j p ↔ Mt f g j p) := fun j hj => by
    have e : ∀ i, i < j → distN g' (p - j + i) = distN g (p - j + i) := fun i hi => distN_cong fun q hq => h q (by omega)
    constructor
    · intro H i hi; rw [← e i hi]; exact H i hi
    · intro H i hi; rw [e i hi]; exact H i hi
  obtain ⟨a, b, c, d⟩ := hl
  exact ⟨a, b, (key m b).mpr c, fun j h1 h2 h3 h4 => d j h1 h2 h3 ((key j h3).mp h4)⟩

/-- rows of numbers that are neither the pot nor the list of rows -/
def RowsN (q : Addr) (H : Hp) (p : Addr) (Rs : List (List Int)) : Prop := RowsX (fun a => a ≠ p ∧ a ≠ q) H q Rs
theorem RowsN.exc {q p : Addr} {H H' : Hp} {Rs : List (List Int)} (h : RowsN q H p Rs) (n : q ≠ p) (e : Exc p H H') : RowsN q H' p Rs := by
  obtain ⟨as, h1, h2, h3⟩ := h
  exact ⟨as, e _ _ n h1, h2, fun i i1 i2 => ⟨(h3 i i1 i2).1, e _ _ (h3 i i1 i2).1.1 (h3 i i1 i2).2⟩⟩
theorem RowsN.push {q p r : Addr} {H : Hp} {Rs : List (List Int)} {R : List Int} {xs : List V} (h : RowsN q H p Rs) (hx : H q = some (.lst xs)) (hr : H r = some (.lst (R.map V.int))) (n : r ≠ p ∧ r ≠ q) : RowsN q (upd H q (.lst (xs ++ [V.ref r]))) p (Rs ++ [R]) := by
  obtain ⟨as, h1, h2, h3⟩ := h
  have ex : xs = as.map V.ref := by rw [h1] at hx; cases hx; rfl
  subst ex
  refine ⟨as ++ [r], by rw [upd_same]; simp, by simp [h2], fun i i1 i2 => ?_⟩
  by_cases hi : i < as.length
  · rw [List.getElem_append_left hi, List.getElem_append_left (show i < Rs.length by omega)]
    exact ⟨(h3 i hi (by omega)).1, by rw [upd_ne (h3 i hi (by omega)).1.2]; exact (h3 i hi (by omega)).2⟩
  · have hi' : i = as.length := by simp at i1; omega
    subst hi'
    have e1 : (as ++ [r])[as.length]'i1 = r := by simp
    have e2 : (Rs ++ [R])[as.length]'i2 = R := by simp [h2]
    rw [e1, e2]
    exact ⟨n, by rw [upd_ne n.2]; exact hr⟩
theorem mt_tree {R gs : List Int} {k : Nat} (hk : k ≤ R.length) (hg : k ≤ gs.length) {T1 T2 : List Int} (h1 : TreeIs (R.take k) T1) (h2 : TreeIs (gs.drop (gs.length - k)) T2) : T1 = T2 ↔ Mt (nth R) (nth gs) k gs.length := by
  have l1 : (R.take k).length = k := by rw [List.length_take]; omega
  have l2 : (gs.drop (gs.length - k)).length = k := by rw [List.length_drop]; omega
  have e1 : ∀ i, i < k → distN (nth (R.take k)) i = distN (nth R) i := fun i hi => by
    have : R.take k = cutN R 0 k := by simp [cutN]
    rw [this, dist_cut hi, Nat.zero_add, sw_self]
  have key : Mt (nth (R.take k)) (nth gs) k gs.length ↔ Mt (nth R) (nth gs) k gs.length := by
    constructor
    · intro h i hi; rw [← e1 i hi]; exact h i hi
    · intro h i hi; rw [e1 i hi]; exact h i hi
  have m := mt_text (ns := R.take k) (ms := gs) (s := gs.length - k) (by rw [l1]; omega)
  rw [l1, show gs.length - k + k = gs.length by omega, key] at m
  rw [← m]
  have e2 : cutN gs (gs.length - k) k = gs.drop (gs.length - k) := by
    unfold cutN
    rw [List.take_of_length_le (by rw [l2]; exact Nat.le_refl _)]
  rw [e2]
  constructor
  · rintro rfl
    have := kinD_trees h1 h2
    rwa [l1] at this
  · intro h
    have := ((kin_iff h1 h2).mp ⟨by rw [l1, l2], by rw [l1]; exact h.lows⟩).2
    exact this
def TreesI (M : Addr → Prop) (H : Hp) (cs : List Addr) (bs : Nat → List Addr) (T : Nat → Nat → List Int) (Rs : List (List Int)) (n : Nat) : Prop := cs.length = n ∧ ∀ i (h1 : i < cs.length) (h2 : i < Rs.length), M cs[i] ∧ H cs[i] = some (.lst ((bs i).map V.ref)) ∧ (bs i).length = Rs[i].length ∧ ∀ k (h : k < (bs i).length), TreeIs (Rs[i].take (k + 1)) (T i k) ∧ H (bs i)[k] = some (.tup ((T i k).map V.int))
theorem TreesI.push {M : Addr → Prop} {H H' : Hp} {cs : List Addr} {bs : Nat → List Addr} {T : Nat → Nat → List Int} {Rs : List (List Int)} {n : Nat} {l : Addr} {ds : List Addr} {U : Nat → List Int} (h : TreesI M H cs bs T Rs n) (s : Same H H') (hm : M l) (hl : H' l = some (.lst (ds.map V.ref))) (hn : ∀ {h2 : n < Rs.length}, ds.length = Rs[n].length) (hd : ∀ {h2 : n < Rs.length} k (h : k < ds.length), TreeIs (Rs[n].take (k + 1)) (U k) ∧ H' ds[k] = some (.tup ((U k).map V.int))) :
    TreesI M H' (cs ++ [l]) (fun j => if j = n then ds else bs j) (fun j => if j = n then U else T j) Rs (n + 1) := by
  obtain ⟨h1, h2⟩ := h
  refine ⟨by simp [h1], fun i i1 i2 => ?_⟩
  by_cases e : i < cs.length
  · have en : ¬ i = n := by omega
    rw [List.getElem_append_left e]
    simp only [if_neg en]
    obtain ⟨a, b, c, d⟩ := h2 i e i2
    exact ⟨a, s _ _ b, c, fun k h => ⟨(d k h).1, s _ _ (d k h).2⟩⟩
  · have en : i = n := by simp at i1; omega
    subst en
    have e2 : (cs ++ [l])[i]'i1 = l := by simp [← h1]
    rw [e2]
    simp only [if_pos]
    exact ⟨hm, hl, hn, hd⟩
theorem long_ex (f g : Nat → Int) (n p : Nat) : ∃ m, IsLong f g n p m := by
  have key : ∀ d c, c + d = min n p → (∀ j, c < j → j ≤ n → j ≤ p → ¬ Mt f g j p) → ∃ m, IsLong f g n p m := by
    intro d c
    induction c generalizing d with
    | zero => intro _ h; exact ⟨0, Nat.zero_le _, Nat.zero_le _, Mt.zero _ _ _, h⟩
    | succ c ih =>
      intro hc h
      by_cases z : Mt f g (c + 1) p
      · exact ⟨c + 1, by omega, by omega, z, h⟩
      · refine ih (d + 1) (by omega) fun j h1 h2 h3 => ?_
        by_cases e : j = c + 1
        · rw [e]; exact z
        · exact h j (by omega) h2 h3
  exact key 0 (min n p) (by omega) fun j h1 h2 h3 => by omega
theorem longs_ex (Rs : List (List Int)) (gs : List Int) : ∃ S, LongsIs Rs gs S := by
  refine ⟨(List.range Rs.length).map fun i => Classical.choose (long_ex (nth (Rs.getD i [])) (nth gs) (Rs.getD i []).length gs.length), by simp, fun i h1 h2 => ?_⟩
  have e : Rs.getD i [] = Rs[i] := by simp [h1]
  rw [List.getElem_map, List.getElem_range]
  have := Classical.choose_spec (long_ex (nth (Rs.getD i [])) (nth gs) (Rs.getD i []).length gs.length)
  generalize Classical.choose (long_ex (nth (Rs.getD i [])) (nth gs) (Rs.getD i []).length gs.length) = m at this
  rw [e] at this
  exact this
theorem long_unique {f g : Nat → Int} {n p m m' : Nat} (h : IsLong f g n p m) (k : IsLong f g n p m') : m = m' := by
  obtain ⟨a, b, c, d⟩ := h
  obtain ⟨a', b', c', d'⟩ := k
  rcases Nat.lt_trichotomy m m' with z | z | z
  · exact absurd c' (d m' z a' b')
  · exact z
  · exact absurd c (d' m z a b)
theorem longs_unique {Rs : List (List Int)} {gs : List Int} {S S' : List Nat} (h : LongsIs Rs gs S) (k : LongsIs Rs gs S') : S = S' := by
  refine List.ext_getElem (by rw [h.1, k.1]) fun i h1 h2 => ?_
  exact long_unique (h.2 i (by rw [← h.1]; exact h1) h1) (k.2 i (by rw [← h.1]; exact h1) h2)
/-- m is the greatest of the first n sizes, or 0 -/
def MaxTo (S : List Nat) (n m : Nat) : Prop := (∀ j (h : j < S.length), j < n → S[j] ≤ m) ∧ (m = 0 ∨ ∃ j, ∃ h : j < S.length, j < n ∧ S[j] = m)
/-- m is the greatest of m0 and the sizes to k that match -/
def MaxIn (f g : Nat → Int) (p m0 k m : Nat) : Prop := m0 ≤ m ∧ (∀ j, 1 ≤ j → j ≤ k → Mt f g j p → j ≤ m) ∧ (m = m0 ∨ (1 ≤ m ∧ m ≤ k ∧ Mt f g m p))
theorem MaxIn.hit {f g : Nat → Int} {p m0 k m : Nat} (h : MaxIn f g p m0 k m) (hm : Mt f g (k + 1) p) : MaxIn f g p m0 (k + 1) (max (k + 1) m) := by
  obtain ⟨a, b, c⟩ := h
  refine ⟨by omega, fun j h1 h2 h3 => ?_, ?_⟩
  · by_cases e : j ≤ k
    · have := b j h1 e h3; omega
    · omega
  · by_cases e : k + 1 ≤ m
    · rcases c with z | z
      · left; omega
      · omega
    · right
      rw [Nat.max_eq_left (by omega)]
      exact ⟨by omega, by omega, hm⟩
theorem MaxIn.miss {f g : Nat → Int} {p m0 k m : Nat} (h : MaxIn f g p m0 k m) (hm : ¬ Mt f g (k + 1) p) : MaxIn f g p m0 (k + 1) m := by
  obtain ⟨a, b, c⟩ := h
  refine ⟨a, fun j h1 h2 h3 => ?_, ?_⟩
  · by_cases e : j ≤ k
    · exact b j h1 e h3
    · have : j = k + 1 := by omega
      rw [this] at h3; exact absurd h3 hm
  · rcases c with z | ⟨z1, z2, z3⟩
    · exact .inl z
    · exact .inr ⟨z1, by omega, z3⟩
theorem MaxTo.next {S : List Nat} {i m m' n p : Nat} {f g : Nat → Int} (h : MaxTo S i m) (hi : i < S.length) (hL : IsLong f g n p S[i]) (hI : MaxIn f g p m (min n p) m') : MaxTo S (i + 1) m' := by
  obtain ⟨a, b, c⟩ := hI
  obtain ⟨l1, l2, l3, l4⟩ := hL
  have hs : S[i] ≤ m' := by
    rcases Nat.eq_zero_or_pos S[i] with z | z
    · omega
    · exact b _ z (by omega) l3
  refine ⟨fun j h1 h2 => ?_, ?_⟩
  · by_cases e : j < i
    · have := h.1 j h1 e; omega
    · have : j = i := by omega
      subst this; exact hs
  · rcases c with z | ⟨z1, z2, z3⟩
    · rcases h.2 with y | ⟨j, h1, h2, h3⟩
      · left; omega
      · right; exact ⟨j, h1, by omega, by omega⟩
    · right
      refine ⟨i, hi, by omega, ?_⟩
      rcases Nat.lt_or_ge S[i] m' with y | y
      · exact absurd z3 (l4 m' y (by omega) (by omega))
      · omega
def LastsI (H Hz : Hp) (gs : List Int) (k : Nat) (acc : List V) : Prop := ∃ (ds : List Addr) (U : Nat → List Int), acc = ds.map V.ref ∧ ds.length = k ∧ (∀ j (h : j < ds.length), TreeIs (gs.drop (gs.length - (j + 1))) (U j) ∧ Hz ds[j] = some (.tup ((U j).map V.int))) ∧ Same H Hz
theorem cut_neg (xs : List V) {k : Nat} (h : k + 1 ≤ xs.length) : cutV xs (some (-((k + 1 : Nat) : Int))) none = xs.drop (xs.length - (k + 1)) := by
  unfold cutV
  have e : HT.sIx xs.length 0 (some (-((k + 1 : Nat) : Int))) = xs.length - (k + 1) := by
    show (if (-((k + 1 : Nat) : Int)) < 0 then ((-((k + 1 : Nat) : Int)) + (xs.length : Int)).toNat else _) = _
    rw [if_pos (by omega)]; omega
  have e2 : HT.sIx xs.length xs.length none = xs.length := rfl
  rw [e, e2, List.take_of_length_le (by rw [List.length_drop]; exact Nat.le_refl _)]
theorem WatchAt.same {N : Addr → Prop} {mg : Str → Option Value} {H H' : Hp} {x d b g z : Addr} {Rs : List (List Int)} {gs : List Int} {S : List Nat} (h : WatchAt N mg H x d b g z Rs gs S) (s : Same H H') : WatchAt N mg H' x d b g z Rs gs S := by
  obtain ⟨dx5, da5, ba5, za5, zl5, y1, y2, y3, y4, y5, y6, y7, y8, y9, y10, y11⟩ := h
  refine ⟨dx5, da5, ba5, za5, zl5, s _ _ y1, s _ _ y2, s _ _ y3, ⟨y4.1, y4.2.1, fun i h1 h2 h3 => ?_⟩, s _ _ y5, s _ _ y6, y7, s _ _ y8, y9, y10, fun j hj => (y11 j hj).elim fun S0 ⟨c1, c2, c3⟩ => ⟨S0, c1, s _ _ c2, c3⟩⟩
  obtain ⟨a, b, c, L, l1, l2, l3⟩ := y4.2.2 i h1 h2 h3
  exact ⟨a, b, s _ _ c, L, l1, l2, s _ _ l3⟩
theorem WatchAt.longs {N : Addr → Prop} {mg : Str → Option Value} {H : Hp} {x d b g z : Addr} {Rs : List (List Int)} {gs : List Int} {S : List Nat} (h : WatchAt N mg H x d b g z Rs gs S) : LongsIs Rs gs S := by
  obtain ⟨dx5, da5, ba5, za5, zl5, y1, y2, y3, y4, y5, y6, y7, y8, y9, y10, y11⟩ := h
  exact y10
/-- a heap in which what the watch does not own has changed -/
theorem WatchAt.keep {N : Addr → Prop} {mg : Str → Option Value} {H H' : Hp} {x d b g z : Addr} {Rs : List (List Int)} {gs : List Int} {S : List Nat} (h : WatchAt N mg H x d b g z Rs gs S) (k1 : ∀ a o, N a → H a = some o → H' a = some o) (k2 : ∀ C dx fs, H x = some (.ins C dx fs) → H' x = some (.ins C dx fs)) (k3 : ∀ o, H g = some o → H' g = some o) (k4 : ∀ o, H z = some o → H' z = some o) : WatchAt N mg H' x d b g z Rs gs S := by
  obtain ⟨dx5, da5, ba5, za5, zl5, y1, y2, y3, y4, y5, y6, y7, y8, y9, y10, y11⟩ := h
  obtain ⟨p1, p2, p3, p4, p5, p6, p7, N1, N2, N3, N4, N5⟩ := id y9
  refine ⟨dx5, da5, ba5, za5, zl5, k2 _ _ _ y1, k1 _ _ N1 y2, k1 _ _ N2 y3, ⟨y4.1, y4.2.1, fun i h1 h2 h3 => ?_⟩, k3 _ y5, k4 _ y6, y7, k1 _ _ N3 y8, y9, y10, fun j hj => (y11 j hj).elim fun S0 ⟨c1, c2, c3⟩ => ⟨S0, c1, k1 _ _ c1.1 c2, c3⟩⟩
  obtain ⟨a, b, c, L, l1, l2, l3⟩ := y4.2.2 i h1 h2 h3
  exact ⟨a, b, k1 _ _ (N4 _ (List.getElem_mem h1)) c, L, l1, l2, k1 _ _ (N5 _ (List.getElem_mem h2)) l3⟩
theorem WatchAt.updQ {N : Addr → Prop} {mg : Str → Option Value} {H : Hp} {x d b g z q : Addr} {Rs : List (List Int)} {gs : List Int} {S : List Nat} {xs : List V} {o : HO} (h : WatchAt N mg H x d b g z Rs gs S) (hq : H q = some (.lst xs)) (hN : ∀ a, N a → a ≠ q) (n1 : q ≠ g) (n2 : q ≠ z) : WatchAt N mg (upd H q o) x d b g z Rs gs S :=
  h.keep (fun a o' n e => by rw [upd_ne (hN a n)]; exact e) (fun C dx fs e => by rw [upd_ne (fun y => by rw [y, hq] at e; cases e)]; exact e) (fun o' e => by rw [upd_ne n1.symm]; exact e) fun o' e => by rw [upd_ne n2.symm]; exact e
theorem WatchAt.mono {N M : Addr → Prop} {mg : Str → Option Value} {H : Hp} {x d b g z : Addr} {Rs : List (List Int)} {gs : List Int} {S : List Nat} (h : WatchAt N mg H x d b g z Rs gs S) (k : ∀ a xs, N a → H a = some (.lst xs) → M a) : WatchAt M mg H x d b g z Rs gs S := by
  obtain ⟨dx5, da5, ba5, za5, zl5, y1, y2, y3, y4, y5, y6, y7, y8, y9, y10, y11⟩ := h
  obtain ⟨p1, p2, p3, p4, p5, p6, p7, N1, N2, N3, N4, N5⟩ := y9
  refine ⟨dx5, da5, ba5, za5, zl5, y1, y2, y3, y4, y5, y6, y7, y8, ⟨p1, p2, p3, p4, p5, p6, p7, k _ _ N1 y2, k _ _ N2 y3, k _ _ N3 y8, fun a ha => ?_, fun a ha => ?_⟩, y10, fun j hj => (y11 j hj).elim fun S0 ⟨c1, c2, c3⟩ => ⟨S0, ⟨k _ _ c1.1 c2, c1.2⟩, c2, c3⟩⟩
  · obtain ⟨i, hi, rfl⟩ := List.mem_iff_getElem.mp ha
    have h2 : i < ba5.length := by rw [y4.2.1, ← y4.1]; exact hi
    have h3 : i < Rs.length := by rw [← y4.1]; exact hi
    obtain ⟨a, b, c, L, l1, l2, l3⟩ := y4.2.2 i hi h2 h3
    exact k _ _ (N4 _ (List.getElem_mem hi)) c
  · obtain ⟨i, hi, rfl⟩ := List.mem_iff_getElem.mp ha
    have h2 : i < da5.length := by rw [y4.1, ← y4.2.1]; exact hi
    have h3 : i < Rs.length := by rw [← y4.2.1]; exact hi
    obtain ⟨a, b, c, L, l1, l2, l3⟩ := y4.2.2 i h2 hi h3
    exact k _ _ (N5 _ (List.getElem_mem hi)) l3
theorem TreesX.keep {N : Addr → Prop} {H H' : Hp} {t : Addr} {Rs : List (List Int)} (h : TreesX N H t Rs) (k1 : ∀ a o, N a → H a = some o → H' a = some o) (k2 : ∀ a xs, H a = some (.tup xs) → H' a = some (.tup xs)) : TreesX N H' t Rs := by
  obtain ⟨as, bs, T, h1, h2, h3, h4⟩ := h
  refine ⟨as, bs, T, k1 _ _ h2 h1, h2, h3, fun i i1 i2 => ?_⟩
  obtain ⟨a, b, c, d⟩ := h4 i i1 i2
  exact ⟨a, k1 _ _ a b, c, fun k h => ⟨(d k h).1, k2 _ _ (d k h).2⟩⟩
theorem TreesX.mono {N M : Addr → Prop} {H : Hp} {t : Addr} {Rs : List (List Int)} (h : TreesX N H t Rs) (k : ∀ a xs, N a → H a = some (.lst xs) → M a) : TreesX M H t Rs := by
  obtain ⟨as, bs, T, h1, h2, h3, h4⟩ := h
  refine ⟨as, bs, T, h1, k _ _ h2 h1, h3, fun i i1 i2 => ?_⟩
  obtain ⟨a, b, c, d⟩ := h4 i i1 i2
  exact ⟨k _ _ a b, b, c, d⟩
/-- all that changes: the pot, the law's list, the watch's two lists -/
def Keep4 (p y g z : Addr) (H H' : Hp) : Prop := ∀ a o, a ≠ p → a ≠ y → a ≠ g → a ≠ z → H a = some o → H' a = some o
def St44 (mg : Str → Option Value) (H0 Hx : Hp) (p y x d b g z t : Addr) (Rs : List (List Int)) (gs hs : List Int) : Prop := ∃ S, WatchAt (fun a => a ≠ p ∧ a ≠ y) mg Hx x d b g z Rs gs S ∧ TreesX (fun a => a ≠ p ∧ a ≠ y ∧ a ≠ g ∧ a ≠ z) Hx t Rs ∧ Hx y = some (.lst (hs.map V.int)) ∧ PotAt Hx p ∧ (H0 p = none ∧ H0 y = none ∧ H0 g = none ∧ H0 z = none) ∧ (y ≠ p ∧ g ≠ p ∧ z ≠ p ∧ y ≠ g ∧ y ≠ z) ∧ Same H0 Hx
theorem pot_lst {H : Hp} {p : Addr} (h : PotAt H p) : ∃ xs, H p = some (.lst xs) := by
  obtain ⟨x, h1, _⟩ := h
  exact ⟨_, h1⟩
theorem St44.step {mg : Str → Option Value} {H0 Hx Hy : Hp} {p y x d b g z t : Addr} {Rs : List (List Int)} {gs gs' hs hs' : List Int} {S' : List Nat} (h : St44 mg H0 Hx p y x d b g z t Rs gs hs) (k : Keep4 p y g z Hx Hy) (hW : WatchAt (fun a => a ≠ p ∧ a ≠ y) mg Hy x d b g z Rs gs' S') (hy : Hy y = some (.lst (hs'.map V.int))) (hP : PotAt Hy p) : St44 mg H0 Hy p y x d b g z t Rs gs' hs' := by
  obtain ⟨S, w, tr, hyl, P, fr, ap, sm⟩ := h
  obtain ⟨xp, hxp⟩ := pot_lst P
  obtain ⟨dx, da, ba, za, zl, w1, w2, w3, w4, w5, w6, _⟩ := w
  have nl : ∀ a o, (∀ xs, o ≠ HO.lst xs) → Hx a = some o → Hy a = some o := fun a o n e => k a o (fun e2 => by rw [e2, hxp] at e; cases e; exact n _ rfl) (fun e2 => by rw [e2, hyl] at e; cases e; exact n _ rfl) (fun e2 => by rw [e2, w5] at e; cases e; exact n _ rfl) (fun e2 => by rw [e2, w6] at e; cases e; exact n _ rfl) e
  refine ⟨S', hW, tr.keep (fun a o n e => k a o n.1 n.2.1 n.2.2.1 n.2.2.2 e) (fun a xs e => nl a _ (fun ys z => by cases z) e), hy, hP, fr, ap, fun a o e => k a o (ne_of_none e fr.1) (ne_of_none e fr.2.1) (ne_of_none e fr.2.2.1) (ne_of_none e fr.2.2.2) (sm _ _ e)⟩
theorem St44.exc {mg : Str → Option Value} {H0 Hx Hy : Hp} {p y x d b g z t : Addr} {Rs : List (List Int)} {gs hs : List Int} (h : St44 mg H0 Hx p y x d b g z t Rs gs hs) (e : Exc p Hx Hy) (P : PotAt Hy p) : St44 mg H0 Hy p y x d b g z t Rs gs hs := by
  obtain ⟨S, w, tr, hyl, P0, fr, ap, sm⟩ := id h
  obtain ⟨xp, hxp⟩ := pot_lst P0
  refine h.step (fun a o n _ _ _ q => e a o n q) (w.keep (fun a o n q => e a o n.1 q) (fun C dx fs q => e _ _ (fun z => by rw [z, hxp] at q; cases q) q) (fun o q => e _ _ ap.2.1 q) (fun o q => e _ _ ap.2.2.1 q)) (e _ _ ap.1 hyl) P
theorem St44.same {mg : Str → Option Value} {H0 Hx Hy : Hp} {p y x d b g z t : Addr} {Rs : List (List Int)} {gs hs : List Int} (h : St44 mg H0 Hx p y x d b g z t Rs gs hs) (e : Same Hx Hy) : St44 mg H0 Hy p y x d b g z t Rs gs hs := by
  obtain ⟨S, w, tr, hyl, P0, fr, ap, sm⟩ := id h
  exact h.exc e.toExc (P0.same e)
theorem RowsX.keep {N M : Addr → Prop} {H H' : Hp} {q : Addr} {Rs : List (List Int)} (h : RowsX N H q Rs) (k : ∀ a xs, N a → H a = some (.lst xs) → M a ∧ H' a = some (.lst xs)) (kq : ∀ o, H q = some o → H' q = some o) : RowsX M H' q Rs := by
  obtain ⟨as, h1, h2, h3⟩ := h
  exact ⟨as, kq _ h1, h2, fun i i1 i2 => k _ _ (h3 i i1 i2).1 (h3 i i1 i2).2⟩
theorem pot_at {H H' : Hp} {p : Addr} (P : PotAt H p) (k : ∀ o, H p = some o → H' p = some o) : PotAt H' p := by
  obtain ⟨x, h1, h2⟩ := P
  exact ⟨x, k _ h1, h2⟩

theorem at_back {gs : List Int} {i : Nat} (h : i < gs.length) : atI (gs.map V.int) (-(1 + (i : Int))) = some (V.int (nth gs (gs.length - 1 - i))) := by
  have hl : (gs.map V.int).length = gs.length := List.length_map ..
  unfold atI ixN
  rw [if_neg (by omega), if_pos (by rw [hl]; omega)]
  have e : ((-(1 + (i : Int))) + ((gs.map V.int).length : Int)).toNat = gs.length - 1 - i := by rw [hl]; omega
  simp only [Option.bind_some]
  rw [e, List.getElem?_map, List.getElem?_eq_getElem (by omega)]
  simp [nth, List.getD_eq_getElem?_getD, show gs.length - 1 - i < gs.length by omega]
theorem nth_top (gs : List Int) (n : Int) : nth (gs ++ [n]) gs.length = n := by simp [nth, List.getD_eq_getElem?_getD]
theorem ok_next_distance {f : Addr} {fd : FuncData} (F : Fun K "next_distance" "next_distance" s_next_distance f fd)  (T : Txt K mg) : FnOk P w K mg base (CXE P w) 1 f fd ["given", "number"] (sp_next_distance K mg) := by
  refine F.okX sc_next_distance (fun vs H Q E h => ?_) (fun cdv A outer s H vs Q E hr h => ?_)
  · obtain ⟨g, gs, n, rfl, _⟩ := h; rfl
  obtain ⟨g, gs, n, rfl, hg, hn, k1⟩ := h
  refine ⟨_, (pss_cons (ps_nox (ps_for PassesOwn.never rfl (pi_range2 rfl T.b_range (pa_cons pe_int (pa_cons (pe_op op_add (pe_callB (call_lenK (K := K) rfl) rfl T.b_len PySem.boot_len (pa_cons (pv 0) pa_nil)) pe_int) pa_nil))) (pg_name (i := 2) sc_next_distance.nd rfl (Or.inl rfl)) (pss_one (ps_if (pt_cmpR op_le (pe_ix ix_list (pv 0) (pe_un un_neg (pv 2)) (fun _ _ => rfl)) (pv 1) (nomark _)) (pss_one (ps_ret (pv 2))) pss_nil))))
      (pss_one (ps_ret pe_int))), ?_⟩
  walk_at "rd"
  have hl : (gs.map V.int).length = gs.length := List.length_map ..
  have hb : ∀ j, j < gs.length → nth (gs ++ [n]) j = nth gs j := fun j hj => nth_snoc hj
  have ht := nth_top gs n
  refine ⟨_, .inl (SqL.of hg), by decide, by decide, by omega, by rw [hl]; omega, ?_⟩
  have em : (((gs.map V.int).length : Nat) + 1 - 1 : Int).toNat = gs.length := by rw [hl]; omega
  rw [em]
  refine for_range (fun i σ Hx => ∃ v, σ = [some (.ref g), some (.int n), v] ∧ Hx = H ∧ ∀ j, gs.length - i ≤ j → j < gs.length → n < nth gs j) ⟨_, rfl, rfl, fun j h1 h2 => by omega⟩ ?_ ?_
  · rintro i σ Hx hi ⟨v, rfl, rfl, hno⟩
    walk_at "rd"
    refine ⟨_, SqL.of hg, _, at_back hi, _, rfl, ite2 (fun z => ?_) fun z => ?_⟩
    · have ed : distN (nth (gs ++ [n])) gs.length = (1 + (i : Int)) := by
        rcases distN_cases (nth (gs ++ [n])) gs.length with ⟨hN, e⟩ | ⟨q, ⟨q1, q2, q3⟩, e⟩
        · have := hN (gs.length - 1 - i) (by omega)
          rw [ht, hb _ (by omega)] at this
          omega
        · have e2 : q = gs.length - 1 - i := by
            rcases Nat.lt_trichotomy q (gs.length - 1 - i) with y | y | y
            · have := q3 (gs.length - 1 - i) y (by omega)
              rw [ht, hb _ (by omega)] at this
              omega
            · exact y
            · have := hno q (by omega) q1
              rw [ht, hb _ q1] at q2
              omega
          omega
      rw [ed] at k1
      exact k1
    · intro j h1 h2
      by_cases e : j = gs.length - 1 - i
      · subst e; omega
      · exact hno j (by omega) h2
  · rintro σ Hx ⟨v, rfl, rfl, hno⟩
    walk_at "rd"
    have ed : distN (nth (gs ++ [n])) gs.length = 0 := by
      rcases distN_cases (nth (gs ++ [n])) gs.length with ⟨hN, e⟩ | ⟨q, ⟨q1, q2, q3⟩, e⟩
      · exact e
      · have := hno q (by omega) q1
        rw [ht, hb _ q1] at q2
        omega
    rw [ed] at k1
    exact k1
def Itb (K : PySem.W.Frag) (t : Bool) (a : Addr) : It := match t with
  | true => Itt K a
  | false => Itl K a
theorem sqb_of {K : PySem.W.Frag} {t : Bool} {H : Hp} {q : Addr} {xs : List V} (h : H q = some (if t then .tup xs else .lst xs)) : SqB K t H q xs := by
  cases t
  · exact SqL.of h
  · exact SqT.of h
theorem sqb_or {K : PySem.W.Frag} {t : Bool} {H : Hp} {q : Addr} {xs : List V} (h : SqB K t H q xs) : SqL K H q xs ∨ SqT K H q xs := by
  cases t
  · exact .inl h
  · exact .inr h
theorem seqOr {K : PySem.W.Frag} {t : Bool} {H : Hp} {a : Addr} {xs : List V} {P : It → Prop} (h : SqB K t H a xs) (p : P (Itb K t a)) : ((∃ xs, SqL K H a xs) ∧ P (Itl K a)) ∨ ((∃ xs, SqT K H a xs) ∧ P (Itt K a)) := by
  cases t
  · exact .inl ⟨⟨_, h⟩, p⟩
  · exact .inr ⟨⟨_, h⟩, p⟩
theorem itb_go {K : PySem.W.Frag} {t : Bool} {H : Hp} {a : Addr} {xs : List V} {i : Nat} {x : V} (h : SqB K t H a xs) (e : xs[i]? = some x) : (Itb K t a).go i H := by
  cases t
  · exact ⟨_, _, h, e⟩
  · exact ⟨_, _, h, e⟩
theorem itb_stop {K : PySem.W.Frag} {t : Bool} {H : Hp} {a : Addr} {xs : List V} {i : Nat} (h : SqB K t H a xs) (e : xs.length ≤ i) : (Itb K t a).stop i H := by
  cases t
  · exact ⟨_, h, e⟩
  · exact ⟨_, h, e⟩
theorem itb_yld {K : PySem.W.Frag} {t : Bool} {H H' : Hp} {a : Addr} {xs : List V} {i : Nat} {x : V} (h : (Itb K t a).yld i H x H') (s : SqB K t H a xs) : H' = H ∧ xs[i]? = some x := by
  cases t
  · exact ⟨h.1, h.2 _ s⟩
  · exact ⟨h.1, h.2 _ s⟩
theorem row_or {K : PySem.W.Frag} {H : Hp} {r : Addr} {xs : List V} (h : H r = some (.lst xs) ∨ H r = some (.tup xs)) : SqL K H r xs ∨ SqT K H r xs := h.imp SqL.of SqT.of
theorem ok_need_watched {f : Addr} {fd : FuncData} (F : Fun K "need_watched" "need_watched" s_need_watched f fd) (GD_need_numbers : CalleeD P w K mg base "need_numbers" 1 ["row", "fewest"] [V.int 1] (sp_need_numbers K mg)) (T : Txt K mg) : FnOk P w K mg base (CXE P w) 2 f fd ["rows"] (sp_need_watched K mg) := by
  refine F.okX sc_need_watched (fun vs H Q E h => ?_) (fun cdv A outer s H vs Q E hr h => ?_)
  · obtain ⟨q, Rs, rfl, _⟩ := h; rfl
  obtain ⟨q, Rs, rfl, hq, hF, k1⟩ := h
  refine ⟨_, (pss_cons (ps_if (pt_cmpR op_eq (pe_callB (call_lenK (K := K) rfl) rfl T.b_len PySem.boot_len (pa_cons (pv 0) pa_nil)) pe_int (nomark _)) (pss_one (ps_raise rfl rfl T.c_Empty T.x_Empty (pa_cons pe_str pa_nil) raisesE)) pss_nil)
      (pss_cons (ps_nox (ps_for PassesOwn.never rfl (pi_seq (K := K) rfl (pv 0)) (pg_name (i := 1) sc_need_watched.nd rfl (Or.inl rfl)) (pss_one (ps_expr (pe_callFD GD_need_numbers (hr.mono (by decide)) rfl passE (pa_cons (pv 1) pa_nil))))))
      (pss_one (ps_if (pt_cmpR op_gt (pe_callB (call_max1 rfl) rfl T.b_max bt_max (pa_cons (pe_op op_cat (pe_lst (pa_cons (pe_callB (call_lenK (K := K) rfl) rfl T.b_len PySem.boot_len (pa_cons (pv 0) pa_nil)) pa_nil)) (pe_compN ["row"] [none] rfl rfl rfl (pi_seq (K := K) rfl (pv 0)) (fun _ _ _ _ _ => (pg_name (i := 0) (show (["row"] : List Str).Nodup from by decide +kernel) rfl (Or.inl rfl))) (fun _ _ _ _ _ => pifs_nil) (fun _ _ _ _ _ => (pe_callB (call_lenK (K := K) rfl) rfl T.b_len PySem.boot_len (pa_cons (pv 0) pa_nil))) only_name)) pa_nil)) (pe_glob (v := .int 12) rfl T.m_MOST_WATCHED ⟨_, rfl⟩) (nomark _)) (pss_one (ps_raise rfl rfl T.c_TooMany T.x_TooMany (pa_cons (pe_joined (pj_text (by decide) (pj_int (pe_glob (v := .int 12) rfl T.m_MOST_WATCHED ⟨_, rfl⟩) (pj_text (by decide) pj_nil)))) pa_nil) raisesE)) pss_nil)))), ?_⟩
  obtain ⟨tt, as, h1, h2, h3⟩ := id hq
  obtain ⟨f0, f1, f2⟩ := hF
  have hel : (as.map V.ref).length = Rs.length := by rw [List.length_map, h2]
  have hR : ∀ i (hi : i < Rs.length), 0 < Rs[i].length ∧ Rs[i].length ≤ 12 := fun i hi => f2 _ (List.getElem_mem hi)
  walk_at "rd"
  refine ⟨_, sqb_or (sqb_of h1), ite2 (fun z => absurd z (by rw [hel]; omega)) fun _ => seqOr (P := fun J => LoopR J _ _ _ _ _) (sqb_of h1) ?_⟩
  refine for_it (n := as.length) (fun i σ Hx => ∃ v, σ = [some (.ref q), v] ∧ Hx = H) ⟨_, rfl, rfl⟩ (fun i σ Hx hi ⟨_, _, e⟩ => by rw [e]; exact itb_go (sqb_of h1) (List.getElem?_eq_getElem (by simpa using hi))) (fun σ Hx ⟨_, _, e⟩ => by rw [e]; exact itb_stop (sqb_of h1) (by simp)) ?_ ?_
  · rintro i x σ Hx Hx' hi ⟨v, rfl, rfl⟩ hyl
    obtain ⟨rfl, hx⟩ := itb_yld hyl (sqb_of h1)
    rw [List.getElem?_map, List.getElem?_eq_getElem hi] at hx
    cases hx
    have hr := h3 i hi (by omega)
    have hb := hR i (by omega)
    walk_at "rd"
    exact ⟨as[i], Rs[i], 1, rfl, row_or hr, by omega, by decide, by decide, fun _ => rfl, fun z => by omega⟩
  · rintro σ Hx ⟨v, rfl, rfl⟩
    walk_at "rd"
    refine ⟨_, sqb_or (sqb_of h1), by decide, fun p hp => ?_⟩
    have gp := (Same.refl Hx).upd (o := .lst [V.int ((as.map V.ref).length : Nat)]) hp
    refine seqOr (P := fun J => CompR J _ _ _ _ _ _) (sqb_of (gp _ _ h1)) (comp_map (n := as.length) (fun j => V.int ((Rs.getD j []).length : Nat)) (Nat.lt_of_le_of_lt (show _ ≤ 1000 by omega) (by decide)) (fun j Hy s hj => itb_go (sqb_of ((gp.trans s) _ _ h1)) (List.getElem?_eq_getElem (by simpa using hj))) (fun Hy s => itb_stop (sqb_of ((gp.trans s) _ _ h1)) (by simp)) ?_ ?_)
    · rintro j x Hy Hz hj s hyl
      obtain ⟨rfl, ex⟩ := itb_yld hyl (sqb_of ((gp.trans s) _ _ h1))
      rw [List.getElem?_map, List.getElem?_eq_getElem hj] at ex
      cases ex
      have hr := h3 j hj (by omega)
      walk_at "rd"
      refine ⟨_, row_or (hr.imp ((gp.trans s) _ _) ((gp.trans s) _ _)), CW.next hj ?_ s⟩
      rw [List.length_map]
      simp [show j < Rs.length by omega]
    · intro l Hy s hl
      have hpy := s p _ upd_same
      have npl : p ≠ l := ne_of_none hpy hl
      refine ⟨l, rfl, _, by rw [upd_ne npl]; exact hpy, _, upd_same, Nat.le_trans (show _ ≤ 1000 by simp; omega) (by decide), fun p2 hp2 => ⟨((Rs.length : Nat) : Int) :: (List.range as.length).map (fun j => ((Rs.getD j []).length : Int)), SqL.of (by rw [upd_same]; simp [Function.comp_def, h2]), by simp, fun m hm _ => ite2 (fun z => ?_) fun _ => k1 _ (((gp.trans s).upd' hl).upd' hp2)⟩⟩
      rcases List.mem_cons.mp hm with y | y
      · omega
      · obtain ⟨j, hj, rfl⟩ := List.mem_map.mp y
        have hj := List.mem_range.mp hj
        have hb := hR j (by omega)
        rw [show Rs.getD j [] = Rs[j]'(by omega) by simp [show j < Rs.length by omega]] at z
        omega
theorem lenF2 (f g : Str) (a b : V) : (putF f a (putF g b [])).length < 1000 := by
  have h1 := length_putF f a (putF g b [])
  have h2 := length_putF g b []
  simp at h2; omega
theorem lenF3 (f g h : Str) (a b c : V) : (putF f a (putF g b (putF h c []))).length < 1000 := by
  have h1 := length_putF f a (putF g b (putF h c []))
  have h2 := length_putF g b (putF h c [])
  have h3 := length_putF h c []
  simp at h3; omega
theorem ok_Watch___init__ {f : Addr} {fd : FuncData} (F : Fun K "__init__" "Watch.__init__" s_Watch___init__ f fd) (G_row_distances : Callee P w K mg base "row_distances" 4 ["row"] (sp_row_distances K mg)) (G_borders_by : Callee P w K mg base "borders_by" 3 ["told"] (sp_borders_by K mg)) (G_need_watched : Callee P w K mg base "need_watched" 2 ["rows"] (sp_need_watched K mg)) (T : Txt K mg) : FnOk P w K mg base (CXE P w) 5 f fd ["self", "rows"] (sp_Watch___init__ K mg) := by
  refine F.okX sc_Watch___init__ (fun vs H Q E h => ?_) (fun cdv A outer s H vs Q E hr h => ?_)
  · obtain ⟨x, dx, q, M, Rs, rfl, _⟩ := h; rfl
  obtain ⟨x, dx, q, M, Rs, rfl, hx, hq, hF, hM, k1⟩ := h
  refine ⟨_, (pss_cons (ps_expr (pe_callF G_need_watched (hr.mono (by decide)) rfl pass_on (pa_cons (pv 1) pa_nil)))
      (pss_cons (ps_fldC (K := K) rfl T.cl_Watch T.n_Watch_distances (pv 0) (pe_compN ["row"] [none] rfl rfl rfl (pi_seq (K := K) rfl (pv 1)) (fun _ _ _ _ _ => (pg_name (i := 0) (show (["row"] : List Str).Nodup from by decide +kernel) rfl (Or.inl rfl))) (fun _ _ _ _ _ => pifs_nil) (fun _ _ _ _ _ => (pe_callF G_row_distances (hr.mono (by decide)) rfl passE (pa_cons (pv 0) pa_nil))) only_name))
      (pss_cons (ps_fldC (K := K) rfl T.cl_Watch T.n_Watch_borders (pv 0) (pe_compN ["told"] [none] rfl rfl rfl (pi_list (pe_fldC (K := K) rfl T.cl_Watch T.n_Watch_distances (pv 0))) (fun _ _ _ _ _ => (pg_name (i := 0) (show (["told"] : List Str).Nodup from by decide +kernel) rfl (Or.inl rfl))) (fun _ _ _ _ _ => pifs_nil) (fun _ _ _ _ _ => (pe_callF G_borders_by (hr.mono (by decide)) rfl passE (pa_cons (pv 0) pa_nil))) only_name))
      (pss_cons (ps_fldC (K := K) rfl T.cl_Watch T.n_Watch_given (pv 0) (pe_lst pa_nil))
      (pss_one (ps_fldC (K := K) rfl T.cl_Watch T.n_Watch_sizes (pv 0) (pe_lst (pa_cons (pe_op op_rep (pe_lst (pa_cons pe_int pa_nil)) (pe_callB (call_lenK (K := K) rfl) rfl T.b_len PySem.boot_len (pa_cons (pv 1) pa_nil))) pa_nil)))))))), ?_⟩
  obtain ⟨tt, as, h1, h2, h3⟩ := id hq
  have nxq : q ≠ x := fun e => by rw [e, hx] at h1; cases tt <;> cases h1
  have hR : ∀ i (hi : i < Rs.length), 0 < Rs[i].length ∧ Rs[i].length ≤ 12 := fun i hi => hF.2.2 _ (List.getElem_mem hi)
  refine seqR (fun σ Hx => σ = [some (.ref x), some (.ref q)] ∧ Same H Hx) (fun R hR => ?_) ?_
  · walk_at "rd"
    exact ⟨q, Rs, rfl, hq, hF, fun H1 s1 => hR _ _ ⟨rfl, s1⟩⟩
  rintro σ H1 ⟨rfl, s1⟩
  refine seqR (fun σ Hx => ∃ (d : Addr) (da : List Addr) (Hy : Hp), σ = [some (.ref x), some (.ref q)] ∧ Hx = upd Hy x (.ins (cW mg) dx (putF "distances" (.ref d) [])) ∧ Hy x = some (.ins (cW mg) dx []) ∧ Same H Hy ∧ H d = none ∧ Hy d = some (.lst (da.map V.ref)) ∧ da.length = Rs.length ∧ (∀ i (g1 : i < da.length) (g2 : i < Rs.length), Hy da[i] = some (.lst ((distI Rs[i]).map V.int))) ∧ ∀ a ∈ da, H a = none) (fun R hR' => ?_) ?_
  · walk_at "rd"
    refine seqOr (P := fun J => CompR J _ _ _ _ _ _) (sqb_of (s1 _ _ h1)) (comp_inv (n := Rs.length) (fun i acc Hx => ∃ da : List Addr, acc = da.map V.ref ∧ da.length = i ∧ (∀ j (g1 : j < da.length) (g2 : j < Rs.length), Hx da[j] = some (.lst ((distI Rs[j]).map V.int))) ∧ (∀ a ∈ da, H a = none) ∧ Same H Hx) (Nat.lt_of_le_of_lt (show _ ≤ 1000 by have := hF.2.1; omega) (by decide)) ⟨[], rfl, rfl, (fun j g1 => absurd g1 (by simp)), (fun a ha => nomatch ha), s1⟩ (fun i acc Hx ⟨_, _, _, _, _, s⟩ hi => itb_go (sqb_of (s _ _ h1)) (List.getElem?_eq_getElem (by rw [List.length_map, h2]; exact hi))) (fun acc Hx ⟨_, _, _, _, _, s⟩ => itb_stop (sqb_of (s _ _ h1)) (by rw [List.length_map, h2]; exact Nat.le_refl _)) ?_ ?_)
    · rintro i v acc Hx Hy hi hla ⟨da, rfl, hd, hD, hZ, sx⟩ hyl
      have i1 : i < as.length := by rw [h2]; exact hi
      obtain ⟨rfl, hv⟩ := itb_yld hyl (sqb_of (sx _ _ h1))
      rw [List.getElem?_map, List.getElem?_eq_getElem i1] at hv
      cases hv
      have hb := hR i hi
      walk_at "rd"
      refine ⟨as[i], Rs[i], rfl, row_or ((h3 i i1 hi).imp (sx _ _) (sx _ _)), by omega, fun l H2 zl s2 hl => CA.take hi hla ⟨da ++ [l], by simp, by simp [hd], fun j g1 g2 => ?_, fun a ha => by rcases List.mem_append.mp ha with z | z; exact hZ a z; rw [List.mem_singleton.mp z]; exact sx.free zl, sx.trans s2⟩⟩
      by_cases e : j < da.length
      · rw [List.getElem_append_left e]; exact s2 _ _ (hD j e g2)
      · have ej : j = i := by simp at g1; omega
        subst ej
        have e2 : (da ++ [l])[j]'g1 = l := by simp [← hd]
        rw [e2]
        exact hl
    · rintro d acc Hx ⟨da, rfl, hd, hD, hZ, sx⟩ _ hdn
      have gd := (Same.refl Hx).upd (o := .lst (da.map V.ref)) hdn
      exact ⟨dx, [], gd _ _ (sx _ _ hx), by decide, hR' _ _ ⟨d, da, _, rfl, rfl, gd _ _ (sx _ _ hx), sx.trans gd, sx.free hdn, upd_same, hd, (fun j g1 g2 => gd _ _ (hD j g1 g2)), hZ⟩⟩
  rintro σ H2 ⟨d, da, Hy, rfl, rfl, hy1, sy, zd, hd1, hda, hD, hZ⟩
  have ndx : d ≠ x := fun e => by rw [e, hx] at zd; cases zd
  have nda : ∀ i (g1 : i < da.length) (g2 : i < Rs.length), da[i] ≠ x := fun i g1 g2 e => by have := hD i g1 g2; rw [e, hy1] at this; cases this
  have ex1 : Exc x H (upd Hy x (.ins (cW mg) dx (putF "distances" (.ref d) []))) := fun a o n e => by rw [upd_ne n]; exact sy _ _ e
  have hx2 : (upd Hy x (.ins (cW mg) dx (putF "distances" (.ref d) []))) x = some (.ins (cW mg) dx (putF "distances" (.ref d) [])) := upd_same
  have hd2 : (upd Hy x (.ins (cW mg) dx (putF "distances" (.ref d) []))) d = some (.lst (da.map V.ref)) := by rw [upd_ne ndx]; exact hd1
  have hD2 : ∀ i (g1 : i < da.length) (g2 : i < Rs.length), (upd Hy x (.ins (cW mg) dx (putF "distances" (.ref d) []))) da[i] = some (.lst ((distI Rs[i]).map V.int)) := fun i g1 g2 => by rw [upd_ne (nda i g1 g2)]; exact hD i g1 g2
  generalize upd Hy x (.ins (cW mg) dx (putF "distances" (.ref d) [])) = H2 at ex1 hx2 hd2 hD2 ⊢
  clear hD hd1 hy1 sy Hy
  refine seqR (fun σ Hx => ∃ (b : Addr) (ba : List Addr) (Hy : Hp), σ = [some (.ref x), some (.ref q)] ∧ Hx = upd Hy x (.ins (cW mg) dx (putF "borders" (.ref b) (putF "distances" (.ref d) []))) ∧ Hy x = some (.ins (cW mg) dx (putF "distances" (.ref d) [])) ∧ Same H2 Hy ∧ H2 b = none ∧ Hy b = some (.lst (ba.map V.ref)) ∧ ba.length = Rs.length ∧ ∀ i (g1 : i < ba.length) (g2 : i < Rs.length), (∃ L : List Nat, L.length = Rs[i].length ∧ BordersAt (nth Rs[i]) L ∧ Hy ba[i] = some (.lst (natsV L))) ∧ H ba[i] = none) (fun R hR' => ?_) ?_
  · walk_at "rd"
    refine ⟨dx, _, hx2, _, by rw [lookup_putF, if_pos rfl], d, rfl, ⟨_, SqL.of hd2⟩, comp_inv (n := Rs.length) (fun i acc Hx => ∃ ba : List Addr, acc = ba.map V.ref ∧ ba.length = i ∧ (∀ j (g1 : j < ba.length) (g2 : j < Rs.length), (∃ L : List Nat, L.length = Rs[j].length ∧ BordersAt (nth Rs[j]) L ∧ Hx ba[j] = some (.lst (natsV L))) ∧ H ba[j] = none) ∧ Same H2 Hx) (Nat.lt_of_le_of_lt (show _ ≤ 1000 by have := hF.2.1; omega) (by decide)) ⟨[], rfl, rfl, (fun j g1 => absurd g1 (by simp)), Same.refl _⟩ (fun i acc Hx ⟨_, _, _, _, s⟩ hi => ⟨_, _, SqL.of (s _ _ hd2), List.getElem?_eq_getElem (by rw [List.length_map, hda]; exact hi)⟩) (fun acc Hx ⟨_, _, _, _, s⟩ => ⟨_, SqL.of (s _ _ hd2), Nat.le_of_eq (by rw [List.length_map, hda])⟩) ?_ ?_⟩
    · rintro i v acc Hx Hy hi hla ⟨ba, rfl, hb, hB, sx⟩ ⟨rfl, hv⟩
      have i1 : i < da.length := by rw [hda]; exact hi
      have hv := hv _ (SqL.of (sx _ _ hd2))
      rw [List.getElem?_map, List.getElem?_eq_getElem i1] at hv
      cases hv
      have hbo := hR i hi
      walk_at "rd"
      refine ⟨da[i], Rs[i], rfl, sx _ _ (hD2 i i1 hi), by omega, fun b L H3 zb hLl hBo s3 hL3 => CA.take hi hla ⟨ba ++ [b], by simp, by simp [hb], fun j g1 g2 => ?_, sx.trans s3⟩⟩
      by_cases e : j < ba.length
      · rw [List.getElem_append_left e]
        obtain ⟨⟨L', a1, a2, a3⟩, a4⟩ := hB j e g2
        exact ⟨⟨L', a1, a2, s3 _ _ a3⟩, a4⟩
      · have ej : j = i := by simp at g1; omega
        subst ej
        have e2 : (ba ++ [b])[j]'g1 = b := by simp [← hb]
        rw [e2]
        exact ⟨⟨L, hLl, hBo, hL3⟩, ex1.free (fun e => by rw [e, sx _ _ hx2] at zb; cases zb) (sx.free zb)⟩
    · rintro b acc Hx ⟨ba, rfl, hb, hB, sx⟩ _ hbn
      have gb := (Same.refl Hx).upd (o := .lst (ba.map V.ref)) hbn
      exact ⟨dx, _, gb _ _ (sx _ _ hx2), by unfold putF; simp, hR' _ _ ⟨b, ba, _, rfl, rfl, gb _ _ (sx _ _ hx2), sx.trans gb, sx.free hbn, upd_same, hb, fun j g1 g2 => (hB j g1 g2).elim fun ⟨L, a1, a2, a3⟩ a4 => ⟨⟨L, a1, a2, gb _ _ a3⟩, a4⟩⟩⟩
  rintro σ H3 ⟨b, ba, Hy, rfl, rfl, hy1, sy, zb, hb1, hba, hB⟩
  have nbx : b ≠ x := fun e => by rw [e, hx2] at zb; cases zb
  have nba : ∀ i (g1 : i < ba.length) (g2 : i < Rs.length), ba[i] ≠ x := fun i g1 g2 e => by obtain ⟨⟨_, _, _, a⟩, _⟩ := hB i g1 g2; rw [e, hy1] at a; cases a
  have ex3 : Exc x H (upd Hy x (.ins (cW mg) dx (putF "borders" (.ref b) (putF "distances" (.ref d) [])))) := fun a o n e => by rw [upd_ne n]; exact sy _ _ (ex1 a o n e)
  have up3 : ∀ a o, a ≠ x → Hy a = some o → (upd Hy x (.ins (cW mg) dx (putF "borders" (.ref b) (putF "distances" (.ref d) [])))) a = some o := fun a o n e => by rw [upd_ne n]; exact e
  have hx3 : (upd Hy x (.ins (cW mg) dx (putF "borders" (.ref b) (putF "distances" (.ref d) [])))) x = some (.ins (cW mg) dx (putF "borders" (.ref b) (putF "distances" (.ref d) []))) := upd_same
  have hd3 := up3 _ _ ndx (sy _ _ hd2)
  have hb3 := up3 _ _ nbx hb1
  have hT3 : ∀ i (g1 : i < da.length) (g2 : i < ba.length) (g3 : i < Rs.length), (upd Hy x (.ins (cW mg) dx (putF "borders" (.ref b) (putF "distances" (.ref d) [])))) da[i] = some (.lst ((distI Rs[i]).map V.int)) ∧ ∃ L : List Nat, L.length = Rs[i].length ∧ BordersAt (nth Rs[i]) L ∧ (upd Hy x (.ins (cW mg) dx (putF "borders" (.ref b) (putF "distances" (.ref d) [])))) ba[i] = some (.lst (natsV L)) := fun i g1 g2 g3 => by
    obtain ⟨⟨L, a1, a2, a3⟩, _⟩ := hB i g2 g3
    exact ⟨up3 _ _ (nda i g1 g3) (sy _ _ (hD2 i g1 g3)), L, a1, a2, up3 _ _ (nba i g2 g3) a3⟩
  have hq3 := ex3 _ _ nxq h1
  have zb0 : H b = none := ex1.free nbx zb
  have hZb : ∀ a ∈ ba, H a = none := fun a ha => by
    obtain ⟨i, hi, rfl⟩ := List.mem_iff_getElem.mp ha
    exact (hB i hi (by rw [← hba]; exact hi)).2
  generalize upd Hy x (.ins (cW mg) dx (putF "borders" (.ref b) (putF "distances" (.ref d) []))) = H3 at ex3 up3 hx3 hd3 hb3 hT3 hq3 ⊢
  clear hB hb1 hy1 sy up3 Hy hD2 hd2 hx2 ex1 zb H2
  walk_at "rd"
  refine ⟨Nat.zero_le _, fun g hg => ?_⟩
  have gg := (Same.refl H3).upd (o := .lst []) hg
  have ngx : g ≠ x := (ne_of_none hx3 hg).symm
  refine ⟨dx, _, gg _ _ hx3, lenF2 _ _ _ _, by decide, fun u hu => ?_⟩
  have up4 : ∀ a o, a ≠ x → H3 a = some o → (upd (upd H3 g (.lst [])) x (.ins (clsAt mg "Watch") dx (putF "given" (.ref g) (putF "borders" (.ref b) (putF "distances" (.ref d) []))))) a = some o := fun a o n e => by rw [upd_ne n]; exact gg _ _ e
  have hg4 : (upd (upd H3 g (.lst [])) x (.ins (clsAt mg "Watch") dx (putF "given" (.ref g) (putF "borders" (.ref b) (putF "distances" (.ref d) []))))) g = some (.lst []) := by rw [upd_ne ngx]; exact upd_same
  have hx4 : (upd (upd H3 g (.lst [])) x (.ins (clsAt mg "Watch") dx (putF "given" (.ref g) (putF "borders" (.ref b) (putF "distances" (.ref d) []))))) x = some (.ins (clsAt mg "Watch") dx (putF "given" (.ref g) (putF "borders" (.ref b) (putF "distances" (.ref d) [])))) := upd_same
  generalize upd (upd H3 g (.lst [])) x (.ins (clsAt mg "Watch") dx (putF "given" (.ref g) (putF "borders" (.ref b) (putF "distances" (.ref d) [])))) = H4 at up4 hg4 hx4 hu ⊢
  have gu := (Same.refl H4).upd (o := .lst [V.int 0]) hu
  have ela : (as.map V.ref).length = Rs.length := by rw [List.length_map, h2]
  refine ⟨_, sqb_or (sqb_of (gu _ _ (up4 _ _ nxq hq3))), _, upd_same, by omega, by rw [ela]; have := hF.2.1; omega, Nat.le_trans (show _ ≤ 1000 by rw [ela]; have := hF.2.1; simp; omega) (by decide), fun v hv => ⟨by decide, fun z hz => ?_⟩⟩
  have ev : (List.replicate (((as.map V.ref).length : Nat) : Int).toNat [V.int 0]).flatten = natsV (List.replicate Rs.length 0) := by
    rw [ela]; simp [natsV]
  rw [ev] at hz ⊢
  have gv := gu.upd' (o := .lst (natsV (List.replicate Rs.length 0))) hv
  have gz := gv.upd' (o := .lst [V.ref v]) hz
  have hvz : (upd (upd (upd H4 u (.lst [V.int 0])) v (.lst (natsV (List.replicate Rs.length 0)))) z (.lst [V.ref v])) v = some (.lst (natsV (List.replicate Rs.length 0))) := by rw [upd_ne (fun e => by rw [← e, upd_same] at hz; cases hz)]; exact upd_same
  have hzz : (upd (upd (upd H4 u (.lst [V.int 0])) v (.lst (natsV (List.replicate Rs.length 0)))) z (.lst [V.ref v])) z = some (.lst [V.ref v]) := upd_same
  have old : ∀ a o, H4 a = some o → a ≠ z := fun a o e => ne_of_none (gv _ _ e) hz
  have nvz : v ≠ z := fun e => by rw [← e, upd_same] at hz; cases hz
  have nvx : v ≠ x := (ne_of_none (gu _ _ hx4) hv).symm
  have nzx : z ≠ x := (old _ _ hx4).symm
  have nvg : v ≠ g := (ne_of_none (gu _ _ hg4) hv).symm
  have zv0 : H v = none := by
    rcases e : H v with _ | o
    · rfl
    · exact absurd (gu _ _ (up4 v o nvx (ex3 v o nvx e))) (by rw [hv]; intro z; cases z)
  generalize upd (upd (upd H4 u (.lst [V.int 0])) v (.lst (natsV (List.replicate Rs.length 0)))) z (.lst [V.ref v]) = H5 at gz hvz hzz ⊢
  have k5 : ∀ a o, a ≠ x → H3 a = some o → (upd H5 x (.ins (clsAt mg "Watch") dx (putF "sizes" (.ref z) (putF "given" (.ref g) (putF "borders" (.ref b) (putF "distances" (.ref d) [])))))) a = some o := fun a o n e => by rw [upd_ne n]; exact gz _ _ (up4 a o n e)
  refine ⟨dx, _, gz _ _ hx4, lenF3 _ _ _ _ _ _, k1 d b g z _ ⟨dx, da, ba, [], v, upd_same, k5 _ _ ndx hd3, k5 _ _ nbx hb3, ⟨hda, hba, fun i g1 g2 g3 => ?_⟩, by rw [upd_ne ngx]; exact gz _ _ hg4, by rw [upd_ne nzx]; exact hzz, rfl, by rw [upd_ne nvx]; exact hvz, ⟨ne_of_none hd3 hg, old _ _ (up4 _ _ ndx hd3), ne_of_none hb3 hg, old _ _ (up4 _ _ nbx hb3), old _ _ hg4, nvg, nvz, hM _ zd, hM _ zb0, hM _ zv0, (fun a ha => hM a (hZ a ha)), fun a ha => hM a (hZb a ha)⟩, ⟨by simp, fun i g1 g2 => ?_⟩, fun j h => absurd h (by simp)⟩ (ex3.free ngx hg) ?_ fun a o n e => k5 a o n (ex3 a o n e)⟩
  · obtain ⟨t1, L, t2, t3, t4⟩ := hT3 i g1 g2 g3
    exact ⟨⟨ne_of_none t1 hg, old _ _ (up4 _ _ (nda i g1 g3) t1)⟩, ⟨ne_of_none t4 hg, old _ _ (up4 _ _ (nba i g2 g3) t4)⟩, k5 _ _ (nda i g1 g3) t1, L, t2, t3, k5 _ _ (nba i g2 g3) t4⟩
  · rw [List.getElem_replicate]; exact long_zero _ _ _
  · rcases e : H z with _ | o
    · rfl
    · exact absurd rfl (old _ _ (up4 z o nzx (ex3 z o nzx e)))
theorem ok_Watch_reach_now {f : Addr} {fd : FuncData} (F : Fun K "reach_now" "Watch.reach_now" s_Watch_reach_now f fd)  (T : Txt K mg) : FnOk P w K mg base (CXE P w) 1 f fd ["self"] (sp_Watch_reach_now K mg) := by
  refine F.okX sc_Watch_reach_now (fun vs H Q E h => ?_) (fun cdv A outer s H vs Q E hr h => ?_)
  · obtain ⟨N, x, d, b, g, z, Rs, gs, S, rfl, _⟩ := h; rfl
  obtain ⟨N, x, d, b, g, z, Rs, gs, S, rfl, hW, hpos, k1⟩ := h
  refine ⟨_, (pss_one (ps_ret (pe_callB (call_max1 rfl) rfl T.b_max bt_max (pa_cons (pe_ix ix_list (pe_fldC (K := K) rfl T.cl_Watch T.n_Watch_sizes (pv 0)) (pe_un un_neg pe_int) (fun _ _ => rfl)) pa_nil)))), ?_⟩
  obtain ⟨dx, da, ba, za, zl, w1, w2, w3, w4, w5, w6, w7, w8, w9, w10, w11⟩ := hW
  walk_at "rd"
  refine ⟨dx, _, w1, _, wF_z d b g z, z, rfl, _, SqL.of w6, _, (by rw [List.map_append]; exact atI_last _ _), zl, rfl, S.map (fun k => ((k : Nat) : Int)), SqL.of (by rw [w8, natsV_ints]), fun e => ?_, fun m hm hmax => ?_⟩
  · have := congrArg List.length e
    rw [List.length_map, w10.1] at this
    have : Rs.length = 0 := this
    omega
  · obtain ⟨k, hk, rfl⟩ := List.mem_map.mp hm
    exact k1 k hk fun a ha => by have := hmax _ (List.mem_map.mpr ⟨a, ha, rfl⟩); omega
theorem ToldAt.same {N : Addr → Prop} {H H' : Hp} {da ba : List Addr} {Rs : List (List Int)} (h : ToldAt N H da ba Rs) (s : Same H H') : ToldAt N H' da ba Rs := by
  refine ⟨h.1, h.2.1, fun i h1 h2 h3 => ?_⟩
  obtain ⟨a, b, c, L, l1, l2, l3⟩ := h.2.2 i h1 h2 h3
  exact ⟨a, b, s _ _ c, L, l1, l2, s _ _ l3⟩
theorem ok_Watch_give {f : Addr} {fd : FuncData} (F : Fun K "give" "Watch.give" s_Watch_give f fd) (G_follow : Callee P w K mg base "follow" 2 ["told", "borders", "size", "distance"] (sp_follow K mg)) (G_next_distance : Callee P w K mg base "next_distance" 1 ["given", "number"] (sp_next_distance K mg)) (T : Txt K mg) : FnOk P w K mg base (CXE P w) 3 f fd ["self", "number"] (sp_Watch_give K mg) := by
  refine F.okX sc_Watch_give (fun vs H Q E h => ?_) (fun cdv A outer s H vs Q E hr h => ?_)
  · obtain ⟨N, x, d, b, g, z, n, Rs, gs, S, rfl, _⟩ := h; rfl
  obtain ⟨N, x, d, b, g, z, n, Rs, gs, S, rfl, hW, hN, hF, hgs, k1⟩ := h
  refine ⟨_, (pss_cons (ps_set (i := 2) sc_Watch_give.nd rfl (Or.inl rfl) (pe_callF G_next_distance (hr.mono (by decide)) rfl passE (pa_cons (pe_fldC (K := K) rfl T.cl_Watch T.n_Watch_given (pv 0)) (pa_cons (pv 1) pa_nil))))
      (pss_cons (ps_set (i := 3) sc_Watch_give.nd rfl (Or.inl rfl) (pe_lst pa_nil))
      (pss_cons (ps_nox (ps_for PassesOwn.never rfl (pi_zip3 rfl T.b_zip (pa_cons (pe_fldC (K := K) rfl T.cl_Watch T.n_Watch_distances (pv 0)) (pa_cons (pe_fldC (K := K) rfl T.cl_Watch T.n_Watch_borders (pv 0)) (pa_cons (pe_ix ix_list (pe_fldC (K := K) rfl T.cl_Watch T.n_Watch_sizes (pv 0)) (pe_un un_neg pe_int) (fun _ _ => rfl)) pa_nil)))) (pg_tup (n := 3) rfl (pgs_cons (pg_name (i := 4) sc_Watch_give.nd rfl (Or.inl rfl)) (pgs_cons (pg_name (i := 5) sc_Watch_give.nd rfl (Or.inl rfl)) (pgs_cons (pg_name (i := 6) sc_Watch_give.nd rfl (Or.inl rfl)) pgs_nil)))) (pss_one (ps_expr (pe_bm PySem.F.plainAttrs_list PySem.F.slot_list_append PySem.F.type_list_append mt_append (pv 3) (pa_cons (pe_callF G_follow (hr.mono (by decide)) rfl passE (pa_cons (pv 4) (pa_cons (pv 5) (pa_cons (pv 6) (pa_cons (pv 2) pa_nil))))) pa_nil))))))
      (pss_cons (ps_expr (pe_bm PySem.F.plainAttrs_list PySem.F.slot_list_append PySem.F.type_list_append mt_append (pe_fldC (K := K) rfl T.cl_Watch T.n_Watch_given (pv 0)) (pa_cons (pv 1) pa_nil)))
      (pss_cons (ps_expr (pe_bm PySem.F.plainAttrs_list PySem.F.slot_list_append PySem.F.type_list_append mt_append (pe_fldC (K := K) rfl T.cl_Watch T.n_Watch_sizes (pv 0)) (pa_cons (pv 3) pa_nil)))
      (pss_one (ps_ret (pe_compN ["at", "size", "self"] [none, none, some 0] rfl rfl rfl (pi_enum (K := K) rfl rfl T.b_enumerate (pa_cons (pv 3) pa_nil)) (fun _ _ _ _ _ => (pg_tupK (K := K) (n := 2) rfl rfl (pgs_cons (pg_name (i := 0) (show (["at", "size", "self"] : List Str).Nodup from by decide +kernel) rfl (Or.inl rfl)) (pgs_cons (pg_name (i := 1) (show (["at", "size", "self"] : List Str).Nodup from by decide +kernel) rfl (Or.inl rfl)) pgs_nil)))) (fun _ _ _ _ _ => pifs_one (pt_cmpR op_eq (pv 1) (pe_callB (call_lenK (K := K) rfl) rfl T.b_len PySem.boot_len (pa_cons (pe_ix (r := rIxL K) ix_list (pe_fldC (K := K) rfl T.cl_Watch T.n_Watch_distances (pv 2)) (pv 0) (fun _ _ => rfl)) pa_nil)) (nomark _))) (fun _ _ _ _ _ => (pv 0)) (only_tup (only_cons only_name (only_cons only_name only_nil))))))))))), ?_⟩
  obtain ⟨dx, da, ba, za, zl, w1, w2, w3, w4, w5, w6, w7, w8, w9, w10, w11⟩ := id hW
  refine seqR (fun σ Hx => σ = [some (.ref x), some (.int n), some (.int (distN (nth (gs ++ [n])) gs.length)), none, none, none, none] ∧ Hx = H) (fun R hR => ?_) ?_
  · walk_at "rd"
    exact ⟨dx, _, w1, _, wF_g d b g z, g, gs, n, rfl, w5, by omega, hR _ _ ⟨rfl, rfl⟩⟩
  rintro σ H1 ⟨rfl, rfl⟩
  refine seqR (fun σ Hx => ∃ u : Addr, σ = [some (.ref x), some (.int n), some (.int (distN (nth (gs ++ [n])) gs.length)), some (.ref u), none, none, none] ∧ H1 u = none ∧ Hx u = some (.lst []) ∧ Same H1 Hx) (fun R hR => ?_) ?_
  · walk_at "rd"
    exact ⟨Nat.zero_le _, fun u hu => hR _ _ ⟨u, rfl, hu, upd_same, (Same.refl H1).upd hu⟩⟩
  rintro σ H2 ⟨u, rfl, zu, hu2, s2⟩
  refine seqR (fun σ Hx => ∃ (v4 v5 v6 : Option V) (S' : List Nat), σ = [some (.ref x), some (.int n), some (.int (distN (nth (gs ++ [n])) gs.length)), some (.ref u), v4, v5, v6] ∧ LongsIs Rs (gs ++ [n]) S' ∧ Hx u = some (.lst (natsV S')) ∧ Same H1 Hx) (fun R hR => ?_) ?_
  · walk_at "rd"
    have w12 := s2 _ _ w1
    refine ⟨dx, _, w12, _, wF_d d b g z, dx, _, w12, _, wF_b d b g z, dx, _, w12, _, wF_z d b g z, z, rfl, _, SqL.of (s2 _ _ w6), _, (by rw [List.map_append]; exact atI_last _ _), d, rfl, b, rfl, zl, rfl, _, SqL.of (s2 _ _ w2), _, SqL.of (s2 _ _ w3), _, SqL.of (s2 _ _ w8), ?_⟩
    refine for_it (n := Rs.length) (fun i σ Hx => ∃ (v4 v5 v6 : Option V) (S' : List Nat), σ = [some (.ref x), some (.int n), some (.int (distN (nth (gs ++ [n])) gs.length)), some (.ref u), v4, v5, v6] ∧ S'.length = i ∧ (∀ j (h1 : j < Rs.length) (h2 : j < S'.length), IsLong (nth Rs[j]) (nth (gs ++ [n])) Rs[j].length (gs.length + 1) S'[j]) ∧ Hx u = some (.lst (natsV S')) ∧ Same H1 Hx) ⟨_, _, _, [], rfl, rfl, (fun j h1 h2 => absurd h2 (by simp)), hu2, s2⟩ (fun i σ Hx hi ⟨_, _, _, _, _, _, _, _, sx⟩ => ⟨_, _, _, _, _, _, SqL.of (sx _ _ w2), SqL.of (sx _ _ w3), SqL.of (sx _ _ w8), List.getElem?_eq_getElem (by rw [List.length_map, w4.1]; exact hi), List.getElem?_eq_getElem (by rw [List.length_map, w4.2.1]; exact hi), List.getElem?_eq_getElem (by rw [natsV_len, w10.1]; exact hi)⟩) (fun σ Hx ⟨_, _, _, _, _, _, _, _, sx⟩ => ⟨_, _, _, SqL.of (sx _ _ w2), SqL.of (sx _ _ w3), SqL.of (sx _ _ w8), .inl (by rw [List.length_map, w4.1]; exact Nat.le_refl _)⟩) ?_ ?_
    · rintro i v σ Hx Hx' hi ⟨v4, v5, v6, S', rfl, hSl, hLj, hux, sx⟩ ⟨q, x1, y1, z1, hq, rfl, rfl, e1, e2, e3⟩
      have i1 : i < da.length := by rw [w4.1]; exact hi
      have i2 : i < ba.length := by rw [w4.2.1]; exact hi
      have i3 : i < S.length := by rw [w10.1]; exact hi
      have ex := e1 _ (SqL.of (sx _ _ w2))
      rw [List.getElem?_map, List.getElem?_eq_getElem i1] at ex
      cases ex
      have ex := e2 _ (SqL.of (sx _ _ w3))
      rw [List.getElem?_map, List.getElem?_eq_getElem i2] at ex
      cases ex
      have ex := e3 _ (SqL.of (sx _ _ w8))
      unfold natsV at ex
      rw [List.getElem?_map, List.getElem?_eq_getElem i3] at ex
      cases ex
      obtain ⟨m1, m2, m3, L, l1, l2, l3⟩ := w4.2.2 i i1 i2 hi
      have gq := (Same.refl Hx).upd (o := .tup [.ref da[i], .ref ba[i], .int (S[i] : Nat)]) hq
      have tq : (upd Hx q (.tup [.ref da[i], .ref ba[i], .int (S[i] : Nat)])) q = some (.tup [.ref da[i], .ref ba[i], .int (S[i] : Nat)]) := upd_same
      replace hux := gq _ _ hux
      replace sx := sx.trans gq
      generalize upd Hx q (.tup [.ref da[i], .ref ba[i], .int (S[i] : Nat)]) = Hy at tq hux sx ⊢
      refine ⟨q, _, rfl, SqT.of tq, rfl, _, _, rfl, _, _, rfl, _, _, rfl, rfl, ?_⟩
      have hlo := long_cong (g' := nth (gs ++ [n])) (fun q hq => nth_snoc hq) (w10.2 i hi i3)
      have hpos := (hF.2.2 _ (List.getElem_mem hi))
      have h1 := hlo.1
      walk_at "rd"
      refine ⟨tyV_list hux, da[i], ba[i], Rs[i], L, S[i], _, rfl, sx _ _ m3, sx _ _ l3, l2, by omega, by omega, by omega, by omega, (distN_bounds _ _).1, fun m hG => ?_⟩
      have hnx := long_next hlo hG
      refine ⟨_, hux, Nat.lt_of_le_of_lt (show _ ≤ 1000 by rw [natsV_len]; have := hF.2.1; omega) (by decide), S' ++ [m + 1], by simp [hSl], fun j j1 j2 => ?_, by rw [upd_same, natsV_app]; rfl, sx.upd zu⟩
      by_cases e : j < S'.length
      · rw [List.getElem_append_left e]; exact hLj j j1 e
      · have ej : j = i := by simp at j2; omega
        subst ej
        have e2 : (S' ++ [m + 1])[j]'j2 = m + 1 := by simp [← hSl]
        rw [e2]
        exact hnx
    · rintro σ Hx ⟨v4, v5, v6, S', rfl, hSl, hLj, hux, sx⟩
      refine hR _ _ ⟨v4, v5, v6, S', rfl, ⟨hSl, fun i h1 h2 => ?_⟩, hux, sx⟩
      have := hLj i h1 h2
      rwa [show (gs ++ [n]).length = gs.length + 1 by simp]
  rintro σ H3 ⟨v4, v5, v6, S', rfl, hL, hu3, s3⟩
  obtain ⟨dg, dz, bg, bz, gz, lg, lz, N1, N2, N3, N4, N5⟩ := w9
  have nug : u ≠ g := fun e => by rw [e, w5] at zu; cases zu
  have nuz : u ≠ z := fun e => by rw [e, w6] at zu; cases zu
  have nxg : x ≠ g := fun e => by rw [e, w5] at w1; cases w1
  have nxz : x ≠ z := fun e => by rw [e, w6] at w1; cases w1
  refine seqR (fun σ Hx => σ = [some (.ref x), some (.int n), some (.int (distN (nth (gs ++ [n])) gs.length)), some (.ref u), v4, v5, v6] ∧ Hx = upd H3 g (.lst (gs.map V.int ++ [V.int n]))) (fun R hR => ?_) ?_
  · walk_at "rd"
    exact ⟨dx, _, s3 _ _ w1, _, wF_g d b g z, tyV_list (s3 _ _ w5), g, rfl, _, s3 _ _ w5, Nat.lt_of_le_of_lt (show _ ≤ 1000 by rw [List.length_map]; omega) (by decide), hR _ _ ⟨rfl, rfl⟩⟩
  rintro σ H4 ⟨rfl, rfl⟩
  refine seqR (fun σ Hx => σ = [some (.ref x), some (.int n), some (.int (distN (nth (gs ++ [n])) gs.length)), some (.ref u), v4, v5, v6] ∧ Hx = upd (upd H3 g (.lst (gs.map V.int ++ [V.int n]))) z (.lst ((za ++ [zl]).map V.ref ++ [V.ref u]))) (fun R hR => ?_) ?_
  · walk_at "rd"
    have a1 : (upd H3 g (.lst (gs.map V.int ++ [V.int n]))) z = some (.lst ((za ++ [zl]).map V.ref)) := by rw [upd_ne gz.symm]; exact s3 _ _ w6
    exact ⟨dx, _, by rw [upd_ne nxg]; exact s3 _ _ w1, _, wF_z d b g z, tyV_list a1, z, rfl, _, a1, Nat.lt_of_le_of_lt (show _ ≤ 1000 by simp; omega) (by decide), hR _ _ ⟨rfl, rfl⟩⟩
  rintro σ H4 ⟨rfl, rfl⟩
  have keep : ∀ a o, a ≠ g → a ≠ z → H1 a = some o → (upd (upd H3 g (.lst (gs.map V.int ++ [V.int n]))) z (.lst ((za ++ [zl]).map V.ref ++ [V.ref u]))) a = some o := fun a o h1 h2 e => by rw [upd_ne h2, upd_ne h1]; exact s3 _ _ e
  have hu4 : (upd (upd H3 g (.lst (gs.map V.int ++ [V.int n]))) z (.lst ((za ++ [zl]).map V.ref ++ [V.ref u]))) u = some (.lst (natsV S')) := by rw [upd_ne nuz, upd_ne nug]; exact hu3
  have hg4 : (upd (upd H3 g (.lst (gs.map V.int ++ [V.int n]))) z (.lst ((za ++ [zl]).map V.ref ++ [V.ref u]))) g = some (.lst ((gs ++ [n]).map V.int)) := by rw [upd_ne gz, upd_same]; simp
  have hz4 : (upd (upd H3 g (.lst (gs.map V.int ++ [V.int n]))) z (.lst ((za ++ [zl]).map V.ref ++ [V.ref u]))) z = some (.lst ((za ++ [zl] ++ [u]).map V.ref)) := by rw [upd_same]; simp
  generalize upd (upd H3 g (.lst (gs.map V.int ++ [V.int n]))) z (.lst ((za ++ [zl]).map V.ref ++ [V.ref u])) = H4 at keep hu4 hg4 hz4 ⊢
  have hW4 : WatchAt N mg H4 x d b g z Rs (gs ++ [n]) S' := ⟨dx, da, ba, za ++ [zl], u, keep _ _ nxg nxz w1, keep _ _ dg dz w2, keep _ _ bg bz w3, ⟨w4.1, w4.2.1, fun i h1 h2 h3 => by
    obtain ⟨m1, m2, m3, L, l1, l2, l3⟩ := w4.2.2 i h1 h2 h3
    exact ⟨m1, m2, keep _ _ m1.1 m1.2 m3, L, l1, l2, keep _ _ m2.1 m2.2 l3⟩⟩, hg4, hz4, by simp [w7], hu4, ⟨dg, dz, bg, bz, gz, nug, nuz, N1, N2, hN u zu, N4, N5⟩, hL, fun j hj => by
    by_cases e : j < za.length
    · obtain ⟨S0, ⟨c1, c2, c3⟩, c4, c5⟩ := w11 j e
      refine ⟨S0, ?_⟩
      rw [List.getElem_append_left e]
      exact ⟨⟨c1, c2, c3⟩, keep _ _ c2 c3 c4, by rw [List.take_append_of_le_length (by omega)]; exact c5⟩
    · have ej : j = za.length := by simp at hj; omega
      subst ej
      refine ⟨S, ?_⟩
      have e1 : (za ++ [zl])[za.length]'hj = zl := by simp
      rw [e1, w7, List.take_left]
      exact ⟨⟨N3, lg, lz⟩, keep _ _ lg lz w8, w10⟩⟩
  walk_at "rd"
  refine ⟨_, SqL.of hu4, comp_inv (n := Rs.length) (fun i acc Hx => acc = natsV ((List.range i).filter fun j => decide (S'.getD j 0 = (Rs.getD j []).length)) ∧ Same H4 Hx) (Nat.lt_of_le_of_lt (show _ ≤ 1000 by have := hF.2.1; omega) (by decide)) ⟨rfl, Same.refl _⟩ (fun i acc Hx ⟨_, s⟩ hi => ⟨_, _, SqL.of (s _ _ hu4), List.getElem?_eq_getElem (by rw [natsV_len, hL.1]; exact hi)⟩) (fun acc Hx ⟨_, s⟩ => ⟨_, SqL.of (s _ _ hu4), by rw [natsV_len, hL.1]⟩) ?_ ?_⟩
  · rintro i v acc Hx Hy hi hla ⟨rfl, sx⟩ ⟨q, y, hq, rfl, rfl, hy⟩
    have i3 : i < S'.length := by rw [hL.1]; exact hi
    have i1 : i < da.length := by rw [w4.1]; exact hi
    have i2 : i < ba.length := by rw [w4.2.1]; exact hi
    have ey := hy _ (SqL.of (sx _ _ hu4))
    unfold natsV at ey
    rw [List.getElem?_map, List.getElem?_eq_getElem i3] at ey
    cases ey
    obtain ⟨m1, m2, m3, _⟩ := w4.2.2 i i1 i2 hi
    have m4 := keep _ _ m1.1 m1.2 m3
    have gq := (Same.refl Hx).upd (o := .tup [.int (i : Int), .int (S'[i] : Nat)]) hq
    have tq : (upd Hx q (.tup [.int (i : Int), .int (S'[i] : Nat)])) q = some (.tup [.int (i : Int), .int (S'[i] : Nat)]) := upd_same
    replace sx := sx.trans gq
    generalize upd Hx q (.tup [.int (i : Int), .int (S'[i] : Nat)]) = Hz at tq sx ⊢
    refine ⟨q, _, rfl, SqT.of tq, rfl, _, _, rfl, _, _, rfl, rfl, ?_⟩
    obtain ⟨dx4, da4, _, _, _, x1, x2, _⟩ := id hW4
    have hd4 := sx _ _ (keep _ _ dg dz w2)
    have el : ((distI Rs[i]).map V.int).length = Rs[i].length := by rw [List.length_map, distI_len]
    have eg : S'.getD i 0 = S'[i] := by simp [i3]
    have eR : (Rs.getD i []) = Rs[i] := by simp [hi]
    walk_at "rd"
    refine ⟨dx4, _, sx _ _ x1, _, wF_d d b g z, d, rfl, _, SqL.of hd4, _, atI_nat (by rw [List.getElem?_map, List.getElem?_eq_getElem i1]; rfl), da[i], rfl, _, .inl (SqL.of (sx _ _ m4)), ?_⟩
    rw [el]
    refine ite2 (fun w => CA.take hi hla ⟨?_, sx⟩) fun w => CA.skip hi hla ⟨?_, sx⟩
    · rw [List.range_succ, List.filter_append, natsV_app]
      have : List.filter (fun j => decide (S'.getD j 0 = (Rs.getD j []).length)) [i] = [i] := by simp only [List.filter_cons, List.filter_nil, eg, eR]; rw [if_pos (decide_eq_true (by omega))]
      rw [this]; rfl
    · rw [List.range_succ, List.filter_append]
      have : List.filter (fun j => decide (S'.getD j 0 = (Rs.getD j []).length)) [i] = [] := by simp only [List.filter_cons, List.filter_nil, eg, eR]; rw [if_neg (by simp only [decide_eq_true_eq]; omega)]
      rw [this, List.append_nil]
  · rintro c acc Hx ⟨rfl, sx⟩ _ hc
    have gc := sx.upd' (o := .lst (natsV ((List.range Rs.length).filter fun j => decide (S'.getD j 0 = (Rs.getD j []).length)))) hc
    refine k1 c S' _ ?_ upd_same ?_ fun a o h1 h2 e => gc _ _ (keep a o h1 h2 e)
    · have ncg : c ≠ g := fun e => by rw [e, sx _ _ hg4] at hc; cases hc
      have ncz : c ≠ z := fun e => by rw [e, sx _ _ hz4] at hc; cases hc
      rcases e : H1 c with _ | o
      · rfl
      · rw [sx _ _ (keep c o ncg ncz e)] at hc; cases hc
    · exact ((hW4.same sx).mono fun a xs n e => ⟨n, ne_of_none e hc⟩).same ((Same.refl Hx).upd hc)

theorem ok__law_rows {f : Addr} {fd : FuncData} (F : Fun K "_law_rows" "_law_rows" s__law_rows f fd) (G__law_take : Callee P w K mg base "_law_take" 1 ["pot", "many"] (sp__law_take K mg)) (G__law_row : Callee P w K mg base "_law_row" 2 ["pot", "most"] (sp__law_row K mg)) (T : Txt K mg) : FnOk P w K mg base (CXE P w) 3 f fd ["pot"] (sp__law_rows K mg) := by
  refine F.okX sc__law_rows (fun vs H Q E h => ?_) (fun cdv A outer s H vs Q E hr h => ?_)
  · obtain ⟨p, rfl, _⟩ := h; rfl
  obtain ⟨p, rfl, hP, k1⟩ := h
  refine ⟨_, (pss_cons (ps_set (i := 1) sc__law_rows.nd rfl (Or.inl rfl) (pe_lst pa_nil))
      (pss_cons (ps_nox (ps_for PassesOwn.never rfl (pi_range1 rfl T.b_range (pa_cons (pe_ix ix_list (pe_lst (pa_cons (pe_op op_add pe_int (pe_callF G__law_take (hr.mono (by decide)) rfl passE (pa_cons (pv 0) (pa_cons pe_int pa_nil)))) (pa_cons pe_int pa_nil))) (pe_op op_fdivL (pe_callF G__law_take (hr.mono (by decide)) rfl passE (pa_cons (pv 0) (pa_cons pe_int pa_nil))) pe_int) (fun _ _ => rfl)) pa_nil)) (pg_name (i := 2) sc__law_rows.nd rfl (Or.inl rfl)) (pss_cons (ps_set (i := 3) sc__law_rows.nd rfl (Or.inl rfl) (pe_callF G__law_row (hr.mono (by decide)) rfl passE (pa_cons (pv 0) (pa_cons (pe_ix ix_tup (pe_tup (pa_cons pe_int (pa_cons pe_int (pa_cons pe_int (pa_cons pe_int pa_nil))))) (pe_callF G__law_take (hr.mono (by decide)) rfl passE (pa_cons (pv 0) (pa_cons pe_int pa_nil))) (fun _ _ => rfl)) pa_nil))))
      (pss_cons (ps_if (PW.pt (pw_and (pt_cmpR (op_neD (K := K) rfl hr) (pv 1) (pe_lst pa_nil) (nomark _)) (pw_and1 (pt_cmpR op_eq (pe_callF G__law_take (hr.mono (by decide)) rfl passE (pa_cons (pv 0) (pa_cons pe_int pa_nil))) pe_int (nomark _))))) (pss_one (ps_set (i := 3) sc__law_rows.nd rfl (Or.inl rfl) (pe_op op_cat (pe_slice sl_list (pe_callTy (call_listK (K := K) rfl) rfl T.b_list bt_list (pa_cons (pe_ix ix_list (pv 1) (pe_callF G__law_take (hr.mono (by decide)) rfl passE (pa_cons (pv 0) (pa_cons (pe_callB (call_lenK (K := K) rfl) rfl T.b_len PySem.boot_len (pa_cons (pv 1) pa_nil)) pa_nil))) (fun _ _ => rfl)) pa_nil)) po_none (po_some (pe_op op_add pe_int (pe_callF G__law_take (hr.mono (by decide)) rfl passE (pa_cons (pv 0) (pa_cons pe_int pa_nil)))))) (pe_slice sl_list (pv 3) po_none (po_some (pe_op op_mulX pe_int (pe_callF G__law_take (hr.mono (by decide)) rfl passE (pa_cons (pv 0) (pa_cons pe_int pa_nil))))))))) pss_nil)
      (pss_one (ps_expr (pe_bm PySem.F.plainAttrs_list PySem.F.slot_list_append PySem.F.type_list_append mt_append (pv 1) (pa_cons (pe_slice sl_list (pe_op op_cat (pv 3) (pe_op op_rep (pe_lst (pa_cons (pe_callF G__law_take (hr.mono (by decide)) rfl passE (pa_cons (pv 0) (pa_cons pe_int pa_nil))) pa_nil)) pe_int)) po_none (po_some (pe_callB (call_max2 rfl) rfl T.b_max bt_max (pa_cons pe_int (pa_cons (pe_callB (call_min2 rfl) rfl T.b_min bt_min (pa_cons (pe_callB (call_lenK (K := K) rfl) rfl T.b_len PySem.boot_len (pa_cons (pv 3) pa_nil)) (pa_cons pe_int pa_nil))) pa_nil))))) pa_nil))))))))
      (pss_one (ps_ret (pv 1))))), ?_⟩
  walk_at "rd"
  refine ⟨Nat.zero_le _, fun q hq => ⟨p, _, rfl, by decide, by decide, hP.upd hq, fun x H1 x0 x1 P1 e1 => ⟨x, rfl, by decide, fun c hc => ⟨p, _, rfl, by decide, by decide, P1.upd hc, fun y H2 y0 y1 P2 e2 => ⟨y, rfl, ⟨by decide, by decide⟩, _, SqL.of (e2 c _ (P1.ne hc) upd_same), ?_⟩⟩⟩⟩⟩
  have nqp : q ≠ p := hP.ne hq
  obtain ⟨v, hv, n, rfl, n0, n1⟩ := atI_all (xs := [V.int (1 + x), V.int 12]) (i := y / 7) (fun v => ∃ n : Int, v = V.int n ∧ 0 < n ∧ n ≤ 12) (by omega) (by show _ < ((2 : Nat) : Int); omega) (by
    intro u hu
    simp only [List.mem_cons, List.not_mem_nil, or_false] at hu
    rcases hu with rfl | rfl <;> exact ⟨_, rfl, by omega, by omega⟩)
  have hq1 := e2 q _ nqp (((Same.refl H1).upd (o := .lst [V.int (1 + x), V.int 12]) hc) _ _ (e1 q _ nqp upd_same))
  have e01 : Exc p H H2 := ((((Same.refl H).upd (o := .lst []) hq).toExc.trans e1).same ((Same.refl H1).upd hc)).trans e2
  clear hc e1 e2 P1 H1
  refine ⟨_, hv, n, rfl, by omega, by omega, ?_⟩
  obtain ⟨t, ht⟩ : ∃ t : Nat, n.toNat = t ∧ 0 < t ∧ t ≤ 12 := ⟨_, rfl, by omega, by omega⟩
  rw [ht.1]
  refine for_range (fun i σ Hx => ∃ (v2 v3 : Option V) (Rs : List (List Int)), σ = [some (.ref p), some (.ref q), v2, v3] ∧ RowsN q Hx p Rs ∧ Rs.length = i ∧ (∀ R ∈ Rs, 0 < R.length ∧ R.length ≤ 12) ∧ PotAt Hx p ∧ Exc p H Hx) ⟨_, _, [], rfl, ?_, rfl, by simp, P2, e01⟩ ?_ ?_
  · exact ⟨[], hq1, rfl, fun i i1 => absurd i1 (by simp)⟩
  · rintro i σ Hx hi ⟨v2, v3, Rs, rfl, hRs, hlen, hbd, P2, e2⟩
    refine seqR (fun σ Hy => ∃ (r : Addr) (R : List Int), σ = [some (.ref p), some (.ref q), some (.int (0 + (i : Int))), some (.ref r)] ∧ Hy r = some (.lst (R.map V.int)) ∧ R.length ≤ 12 ∧ r ≠ p ∧ PotAt Hy p ∧ Exc p Hx Hy) (fun R hR => ?_) ?_
    · walk_at "rd"
      refine ⟨by decide, fun u hu => ⟨p, _, rfl, by decide, by decide, P2.upd hu, fun d H3 d0 d1 P3 e3 => ?_⟩⟩
      have hu3 := e3 u _ (P2.ne hu) upd_same
      have gu : Exc p Hx H3 := ((Same.refl Hx).upd (o := .tup [V.int 4, V.int 7, V.int 12, V.int 12]) hu).toExc.trans e3
      obtain ⟨v, hv, y, rfl, y0, y1⟩ := atI_all (xs := [V.int 4, V.int 7, V.int 12, V.int 12]) (i := d) (fun v => ∃ y : Int, v = V.int y ∧ 0 ≤ y ∧ y ≤ 12) d0 d1 (by
        intro x hx
        simp at hx
        rcases hx with rfl | rfl | rfl | rfl <;> exact ⟨_, rfl, by decide, by decide⟩)
      refine ⟨_, _, rfl, SqT.of hu3, _, hv, p, y, rfl, y0, by omega, P3, fun r ns H4 zr hl hr4 P4 e4 => hR _ _ ⟨r, ns, rfl, hr4, by omega, P3.ne zr, P4, gu.trans e4⟩⟩
    rintro σ Hy ⟨r, R, rfl, hr1, r1, nrp, P3, e3⟩
    have hRs3 := hRs.exc nqp e3
    have e23 := e2.trans e3
    clear hRs e2 e3 P2 Hx
    refine seqR (fun σ Hx => ∃ (r : Addr) (R : List Int), σ = [some (.ref p), some (.ref q), some (.int (0 + (i : Int))), some (.ref r)] ∧ Hx r = some (.lst (R.map V.int)) ∧ R.length ≤ 100 ∧ r ≠ p ∧ PotAt Hx p ∧ Exc p Hy Hx) (fun R' hR => ?_) ?_
    · walk_at "rd"
      refine ⟨Nat.zero_le _, fun u hu => ?_⟩
      have gu := (Same.refl Hy).upd (o := .lst []) hu
      obtain ⟨as, b1, b2, b3⟩ := id hRs3
      refine ⟨_, eqd_empty (n := 2) (gu _ _ b1) upd_same, ite2 (fun z => ?_) fun z => hR _ _ ⟨r, R, rfl, gu _ _ hr1, by omega, nrp, P3.same gu, gu.toExc⟩⟩
      refine ⟨p, _, rfl, by decide, by decide, P3.same gu, fun d H4 d0 d1 P4 e4 => ⟨rfl, ite2 (fun _ => ?_) fun _ => hR _ _ ⟨r, R, rfl, e4 _ _ nrp (gu _ _ hr1), by omega, nrp, P4, gu.toExc.trans e4⟩⟩⟩
      have hpos : 0 < as.length := by
        rcases Nat.eq_zero_or_pos as.length with y | y
        · rw [List.length_eq_zero_iff.mp y] at z; simp at z
        · exact y
      have ela : (as.map V.ref).length = as.length := List.length_map ..
      refine ⟨_, .inl (SqL.of (e4 _ _ nqp (gu _ _ b1))), ?_⟩
      rw [ela]
      refine ⟨p, _, rfl, by omega, by omega, P4, fun d2 H5 d20 d21 P5 e5 => ?_⟩
      obtain ⟨j, rfl⟩ := Int.eq_ofNat_of_zero_le d20
      have hj : j < as.length := by omega
      obtain ⟨⟨n1, n2⟩, c1⟩ := b3 j hj (by omega)
      have bq5 := e5 _ _ nqp (e4 _ _ nqp (gu _ _ b1))
      have c5 := e5 _ _ n1 (e4 _ _ n1 (gu _ _ c1))
      have hr5 := e5 _ _ nrp (e4 _ _ nrp (gu _ _ hr1))
      have e05 : Exc p Hy H5 := (gu.toExc.trans e4).trans e5
      refine ⟨_, _, rfl, SqL.of bq5, _, atI_at rfl (by simpa using hj), as[j], by simp, _, .inl (SqL.of c5), fun l hl => ?_⟩
      have g6 := (Same.refl H5).upd (o := .lst ((Rs[j]'(by omega)).map V.int)) hl
      refine ⟨p, _, rfl, by decide, by decide, P5.upd hl, fun d3 H6 d30 d31 P6 e6 => ⟨_, rfl, _, SqL.of (e6 _ _ (P5.ne hl) upd_same), fun l2 hl2 => ?_⟩⟩
      obtain ⟨m3, rfl⟩ := Int.eq_ofNat_of_zero_le d30
      have ec : cutV ((Rs[j]'(by omega)).map V.int) none (some (1 + (m3 : Int))) = ((Rs[j]'(by omega)).take (1 + m3)).map V.int := by
        rw [show (1 + (m3 : Int)) = ((1 + m3 : Nat) : Int) by omega, cut_to]; simp
      rw [ec]
      have g7 := (Same.refl H6).upd (o := .lst (((Rs[j]'(by omega)).take (1 + m3)).map V.int)) hl2
      refine ⟨p, _, rfl, by decide, by decide, P6.upd hl2, fun d4 H7 d40 d41 P7 e7 => ⟨_, rfl, mul_l (by decide) (by decide), _, SqL.of (e7 _ _ nrp (g7 _ _ (e6 _ _ nrp (g6 _ _ hr5)))), fun l3 hl3 => ?_⟩⟩
      obtain ⟨m4, rfl⟩ := Int.eq_ofNat_of_zero_le d40
      have ec2 : cutV (R.map V.int) none (some (2 * (m4 : Int))) = (R.take (2 * m4)).map V.int := by
        rw [show (2 * (m4 : Int)) = ((2 * m4 : Nat) : Int) by omega, cut_to]; simp
      rw [ec2]
      have g8 := (Same.refl H7).upd (o := .lst ((R.take (2 * m4)).map V.int)) hl3
      have hb := hbd _ (List.getElem_mem (show j < Rs.length by omega))
      refine ⟨_, g8 _ _ (e7 _ _ (P6.ne hl2) upd_same), _, upd_same, Nat.le_trans (show _ ≤ 1000 by simp; omega) (by decide), fun l4 hl4 => ?_⟩
      rw [← List.map_append]
      exact hR _ _ ⟨l4, _, rfl, upd_same, by simp; omega, (P7.same g8).ne hl4, (P7.same g8).upd hl4, ((((((e05.same g6).trans e6).same g7).trans e7).same g8).same ((Same.refl _).upd hl4))⟩
    clear hr1 r1 nrp r R
    rintro σ Hx ⟨r, R, rfl, hr1, r1, nrp, P4, e4⟩
    have hRs4 := hRs3.exc nqp e4
    obtain ⟨as, b1, b2, b3⟩ := id hRs4
    walk_at "rd"
    refine ⟨tyV_list b1, p, _, rfl, by decide, by decide, P4, fun d H5 d0 d1 P5 e5 => ⟨by decide, fun l hl => ?_⟩⟩
    have g1 := (Same.refl H5).upd (o := .lst [V.int d]) hl
    refine ⟨_, upd_same, by decide, by decide, (by show 1 * 12 ≤ sizeLine; decide), fun l2 hl2 => ?_⟩
    have ef : (List.replicate (Int.toNat 12) [V.int d]).flatten = (List.replicate 12 d).map V.int := by
      rw [show Int.toNat 12 = 12 from rfl, List.map_replicate]
      simp [List.flatten_replicate_singleton]
    rw [ef]
    have g2 := g1.upd' (o := .lst ((List.replicate 12 d).map V.int)) hl2
    have hr5 := e5 _ _ nrp hr1
    refine ⟨_, g2 _ _ hr5, _, upd_same, Nat.le_trans (show _ ≤ 1000 by simp; omega) (by decide), fun l3 hl3 => ?_⟩
    rw [← List.map_append]
    have g3 := g2.upd' (o := .lst ((R ++ List.replicate 12 d).map V.int)) hl3
    refine ⟨_, .inl (SqL.of (g3 _ _ hr5)), _, SqL.of upd_same, fun l4 hl4 => ?_⟩
    have eR : (R.map V.int).length = R.length := List.length_map ..
    rw [eR]
    obtain ⟨m, hm, m0, m1, m2⟩ : ∃ m : Nat, (if (if (12 : Int) < (R.length : Int) then (12 : Int) else (R.length : Int)) > 1 then (if (12 : Int) < (R.length : Int) then (12 : Int) else (R.length : Int)) else 1) = (m : Int) ∧ 0 < m ∧ m ≤ 12 ∧ m ≤ R.length + 12 := by
      refine ⟨max 1 (min R.length 12), ?_, by omega, by omega, by omega⟩
      split <;> split <;> omega
    rw [hm]
    have ec : cutV ((R ++ List.replicate 12 d).map V.int) none (some (m : Int)) = ((R ++ List.replicate 12 d).take m).map V.int := by rw [cut_to]; simp
    rw [ec]
    have g4 := g3.upd' (o := .lst (((R ++ List.replicate 12 d).take m).map V.int)) hl4
    have hq5 := g4 _ _ (e5 _ _ nqp b1)
    have hRs6 : RowsN q _ p Rs := (hRs4.exc nqp e5).same g4
    have lt : ((R ++ List.replicate 12 d).take m).length = m := by simp; omega
    refine ⟨_, hq5, Nat.lt_of_le_of_lt (show _ ≤ 1000 by rw [List.length_map, b2]; omega) (by decide), Rs ++ [(R ++ List.replicate 12 d).take m], hRs6.push hq5 upd_same ⟨((P5.same g3)).ne hl4, (ne_of_none (g3 _ _ (e5 _ _ nqp b1)) hl4).symm⟩, by simp [hlen], fun R' hm' => ?_, (P5.same g4).updN nqp, (((e23.trans e4).trans e5).same g4).updN hq⟩
    rcases List.mem_append.mp hm' with y | y
    · exact hbd R' y
    · rw [List.mem_singleton.mp y, lt]; exact ⟨m0, m1⟩
  · rintro σ Hx ⟨v2, v3, Rs, rfl, hRs, hlen, hbd, P2, e2⟩
    walk_at "rd"
    refine k1 q Rs Hx hq nqp ⟨by omega, by omega, hbd⟩ ?_ P2 e2
    obtain ⟨as, b1, b2, b3⟩ := hRs
    exact ⟨as, b1, b2, fun i i1 i2 => ⟨(b3 i i1 i2).1.1, (b3 i i1 i2).2⟩⟩
theorem ok__law_stream {f : Addr} {fd : FuncData} (F : Fun K "_law_stream" "_law_stream" s__law_stream f fd) (G__law_take : Callee P w K mg base "_law_take" 1 ["pot", "many"] (sp__law_take K mg)) (T : Txt K mg) : FnOk P w K mg base (CXE P w) 2 f fd ["pot", "rows"] (sp__law_stream K mg) := by
  refine F.okX sc__law_stream (fun vs H Q E h => ?_) (fun cdv A outer s H vs Q E hr h => ?_)
  · obtain ⟨p, q, Rs, rfl, _⟩ := h; rfl
  obtain ⟨p, q, Rs, rfl, hP, hq, nqp, hF, k1⟩ := h
  refine ⟨_, (pss_cons (ps_set (i := 2) sc__law_stream.nd rfl (Or.inl rfl) (pe_ix ix_tup (pe_tup (pa_cons pe_int (pa_cons pe_int (pa_cons pe_int pa_nil)))) (pe_callF G__law_take (hr.mono (by decide)) rfl passE (pa_cons (pv 0) (pa_cons pe_int pa_nil))) (fun _ _ => rfl)))
      (pss_cons (ps_set (i := 3) sc__law_stream.nd rfl (Or.inl rfl) (pe_lst pa_nil))
      (pss_cons (ps_nox (ps_while PassesOwn.never (pt_cmpR op_lt (pe_callB (call_lenK (K := K) rfl) rfl T.b_len PySem.boot_len (pa_cons (pv 3) pa_nil)) (pv 2) (nomark _)) (pss_cons (ps_set (i := 4) sc__law_stream.nd rfl (Or.inl rfl) (pe_ix ix_list (pv 1) (pe_callF G__law_take (hr.mono (by decide)) rfl passE (pa_cons (pv 0) (pa_cons (pe_callB (call_lenK (K := K) rfl) rfl T.b_len PySem.boot_len (pa_cons (pv 1) pa_nil)) pa_nil))) (fun _ _ => rfl)))
      (pss_cons (ps_set (i := 5) sc__law_stream.nd rfl (Or.inr rfl) (pe_callF G__law_take (hr.mono (by decide)) rfl passE (pa_cons (pv 0) (pa_cons pe_int pa_nil))))
      (pss_one (ps_if (pt_cmpR op_lt (pv 5) pe_int (nomark _)) (pss_one (ps_expr (pe_bm PySem.F.plainAttrs_list PySem.F.slot_list_extend PySem.F.type_list_extend mt_extend (pv 3) (pa_cons (pe_compN ["number", "turn"] [none, some 5] rfl rfl rfl (pi_list (pv 4)) (fun _ _ _ _ _ => (pg_name (i := 0) (show (["number", "turn"] : List Str).Nodup from by decide +kernel) rfl (Or.inl rfl))) (fun _ _ _ _ _ => pifs_nil) (fun _ _ _ _ _ => (pe_op op_add (pe_op op_mulX (pe_op op_add (pv 1) pe_int) (pv 0)) (pv 1))) only_name) pa_nil)))) (pss_one (ps_expr (pe_bm PySem.F.plainAttrs_list PySem.F.slot_list_extend PySem.F.type_list_extend mt_extend (pv 3) (pa_cons (pe_compN ["k", "pot"] [none, some 0] rfl rfl rfl (pi_range1 rfl T.b_range (pa_cons (pe_op op_add pe_int (pe_callF G__law_take (hr.mono (by decide)) rfl passE (pa_cons (pv 0) (pa_cons pe_int pa_nil)))) pa_nil)) (fun _ _ _ _ _ => (pg_name (i := 0) (show (["k", "pot"] : List Str).Nodup from by decide +kernel) rfl (Or.inl rfl))) (fun _ _ _ _ _ => pifs_nil) (fun _ _ _ _ _ => (pe_op op_sub (pe_callF G__law_take (hr.mono (by decide)) rfl passE (pa_cons (pv 1) (pa_cons pe_int pa_nil))) pe_int)) only_name) pa_nil))))))))))
      (pss_one (ps_ret (pe_slice sl_list (pv 3) po_none (po_some (pe_callF G__law_take (hr.mono (by decide)) rfl passE (pa_cons (pv 0) (pa_cons (pe_op op_add (pv 2) pe_int) pa_nil)))))))))), ?_⟩
  walk_at "rd"
  refine ⟨by decide, fun u hu => ⟨p, _, rfl, by decide, by decide, hP.upd hu, fun d H1 d0 d1 P1 e1 => ?_⟩⟩
  have hu1 := e1 u _ (hP.ne hu) upd_same
  have ee : Exc p H H1 := ((Same.refl H).upd (o := .tup [V.int 12, V.int 25, V.int 60]) hu).toExc.trans e1
  obtain ⟨v, hv, most, rfl, m0, m1⟩ := atI_all (xs := [V.int 12, V.int 25, V.int 60]) (i := d) (fun v => ∃ y : Int, v = V.int y ∧ 0 ≤ y ∧ y ≤ 60) d0 d1 (by
    intro x hx
    simp at hx
    rcases hx with rfl | rfl | rfl <;> exact ⟨_, rfl, by decide, by decide⟩)
  refine ⟨_, _, rfl, SqT.of hu1, _, hv, Nat.zero_le _, fun g hg => ?_⟩
  have ngp : g ≠ p := P1.ne hg
  have zg : H g = none := ee.free ngp hg
  have ngq : g ≠ q := by
    obtain ⟨_, b1, _⟩ := hq
    exact fun z => by rw [z, b1] at zg; cases zg
  refine while_m (fun m σ Hx => ∃ (gs : List Int) (v4 v5 : Option V), σ = [some (.ref p), some (.ref q), some (.int most), some (.ref g), v4, v5] ∧ m = 100 - gs.length ∧ gs.length ≤ 80 ∧ Hx g = some (.lst (gs.map V.int)) ∧ PotAt Hx p ∧ Exc p H Hx) 100 ⟨[], none, none, rfl, rfl, by simp, upd_same, P1.upd hg, ee.same ((Same.refl H1).upd hg)⟩ ?_
  clear hu1 hv P1 ee e1 hg H1
  rintro m σ Hx ⟨gs, v4, v5, rfl, rfl, hl, hgx, Px, ex⟩
  have eG : (gs.map V.int).length = gs.length := List.length_map ..
  have hqx := hq.pot nqp ex
  obtain ⟨as, b1, b2, b3⟩ := id hqx
  have eA : (as.map V.ref).length = as.length := List.length_map ..
  have hF1 := hF.1
  have hF2 := hF.2.1
  walk_at "rd"
  refine ⟨_, .inl (SqL.of hgx), ?_⟩
  rw [eG]
  refine ite2 (fun c => ?_) fun c => ?_
  · refine ⟨fun σ' Hy => ∃ (gs' : List Int) (v4 v5 : Option V), σ' = [some (.ref p), some (.ref q), some (.int most), some (.ref g), v4, v5] ∧ gs.length < gs'.length ∧ gs'.length ≤ 80 ∧ Hy g = some (.lst (gs'.map V.int)) ∧ PotAt Hy p ∧ Exc p H Hy, fun σ' Hy ⟨gs', w4, w5, h1, h2, h3, h4, h5, h6⟩ => ⟨100 - gs'.length, by omega, gs', w4, w5, h1, rfl, h3, h4, h5, h6⟩, ?_⟩
    refine ⟨_, .inl (SqL.of b1), ?_⟩
    rw [eA]
    refine ⟨p, _, rfl, by omega, by omega, Px, fun d2 H5 d20 d21 P5 e5 => ?_⟩
    obtain ⟨j, rfl⟩ := Int.eq_ofNat_of_zero_le d20
    have hj : j < as.length := by omega
    obtain ⟨n1, c1⟩ := b3 j hj (by omega)
    have hb := hF.2.2 _ (List.getElem_mem (show j < Rs.length by omega))
    refine ⟨_, _, rfl, SqL.of (e5 _ _ nqp b1), _, atI_at rfl (by simpa using hj), p, _, rfl, by decide, by decide, P5, fun d H6 d0 d1 P6 e6 => ⟨d, rfl, ?_⟩⟩
    have hr6 := e6 _ _ n1 (e5 _ _ n1 c1)
    have hg6 := e6 _ _ ngp (e5 _ _ ngp hgx)
    have ex6 := (ex.trans e5).trans e6
    clear e5 e6 P5 hgx b1 c1 hqx b3
    generalize (Rs[j]'(by omega)) = R at hr6 hb
    refine ite2 (fun c3 => ⟨tyV_list hg6, as[j], by simp, ⟨_, SqL.of hr6⟩, ?_⟩) fun c3 => ⟨tyV_list hg6, p, _, rfl, by decide, by decide, P6, fun d3 H7 d30 d31 P7 e7 => ⟨_, rfl, by omega, by omega, ?_⟩⟩
    · refine comp_map (n := R.length) (fun k => V.int ((d + 1) * nth R k + d)) (Nat.lt_of_le_of_lt (show _ ≤ 1000 by omega) (by decide)) (fun j Hx s hj => ⟨_, _, SqL.of (s _ _ hr6), List.getElem?_eq_getElem (by simpa using hj)⟩) (fun Hx s => ⟨_, SqL.of (s _ _ hr6), by simp⟩) ?_ ?_
      · rintro k x Hy Hz hk s ⟨rfl, hx⟩
        have ex := hx _ (SqL.of (s _ _ hr6))
        rw [List.getElem?_map, List.getElem?_eq_getElem hk] at ex
        cases ex
        have eg : R[k] = nth R k := by simp [nth, List.getD_eq_getElem?_getD, hk]
        rw [eg]
        walk_at "rd"
        exact ⟨mul_l (by omega) (by omega), CW.next hk rfl s⟩
      · intro l Hy s hl
        have em : (List.range R.length).map (fun k => V.int ((d + 1) * nth R k + d)) = ((List.range R.length).map fun k => (d + 1) * nth R k + d).map V.int := by rw [List.map_map]; rfl
        rw [em]
        have hg7 := s _ _ hg6
        refine ⟨l, rfl, _, by rw [upd_ne (ne_of_none hg7 hl)]; exact hg7, _, upd_same, Nat.le_trans (show _ ≤ 1000 by simp; omega) (by decide), gs ++ (List.range R.length).map (fun k => (d + 1) * nth R k + d), _, _, rfl, by simp; omega, by simp; omega, by rw [upd_same, List.map_append], (((P6.same s).upd hl)).updN ngp, ((ex6.same s).same ((Same.refl Hy).upd hl)).updN zg⟩
    · obtain ⟨m3, rfl⟩ := Int.eq_ofNat_of_zero_le d30
      have en : (1 + (m3 : Int)).toNat = 1 + m3 := by omega
      rw [en]
      have hg7 := e7 _ _ ngp hg6
      refine comp_inv (n := 1 + m3) (fun k acc Hz => ∃ bs : List Int, acc = bs.map V.int ∧ bs.length = k ∧ Hz g = some (.lst (gs.map V.int)) ∧ PotAt Hz p ∧ Exc p H Hz) (Nat.lt_of_le_of_lt (show _ ≤ 1000 by omega) (by decide)) ⟨[], rfl, rfl, hg7, P7, ex6.trans e7⟩ (fun k acc Hz _ hk => hk) (fun acc Hz _ => Nat.le_refl _) ?_ ?_
      · rintro k x acc Hy Hz hk hla ⟨bs, rfl, hbl, hgy, Py, ey⟩ ⟨rfl, rfl⟩
        walk_at "rd"
        exact ⟨p, _, rfl, by decide, by decide, Py, fun d5 H8 d50 d51 P8 e8 => ⟨_, rfl, CA.take hk hla ⟨bs ++ [d5 - 2], by simp, by simp [hbl], e8 _ _ ngp hgy, P8, ey.trans e8⟩⟩⟩
      · rintro l acc Hy ⟨bs, rfl, hbl, hgy, Py, ey⟩ _ hl
        refine ⟨l, rfl, _, by rw [upd_ne (ne_of_none hgy hl)]; exact hgy, _, upd_same, Nat.le_trans (show _ ≤ 1000 by simp; omega) (by decide), gs ++ bs, _, _, rfl, by simp; omega, by simp; omega, by rw [upd_same, List.map_append], (Py.upd hl).updN ngp, (ey.same ((Same.refl Hy).upd hl)).updN zg⟩
  · refine ⟨p, _, rfl, by omega, by omega, Px, fun d H5 d0 d1 P5 e5 => ?_⟩
    obtain ⟨n, rfl⟩ := Int.eq_ofNat_of_zero_le d0
    refine ⟨_, rfl, _, SqL.of (e5 _ _ ngp hgx), fun l hl => ?_⟩
    rw [cut_to, ← List.map_take]
    exact k1 l (gs.take n) _ (ex.trans e5 |>.free (P5.ne hl) hl) (by rw [List.length_take]; omega) upd_same (P5.upd hl) ((ex.trans e5).same ((Same.refl H5).upd hl))
theorem ok__law_beginnings {f : Addr} {fd : FuncData} (F : Fun K "_law_beginnings" "_law_beginnings" s__law_beginnings f fd) (G__law_tree : Callee P w K mg base "_law_tree" 2 ["row"] (sp__law_tree K mg)) (T : Txt K mg) : FnOk P w K mg base (CXE P w) 3 f fd ["rows"] (sp__law_beginnings K mg) := by
  refine F.okX sc__law_beginnings (fun vs H Q E h => ?_) (fun cdv A outer s H vs Q E hr h => ?_)
  · obtain ⟨q, N, M, Rs, rfl, _⟩ := h; rfl
  obtain ⟨q, N, M, Rs, rfl, hq, hF, hM, k1⟩ := h
  refine ⟨_, (pss_one (ps_ret (pe_compN ["row"] [none] rfl rfl rfl (pi_list (pv 0)) (fun _ _ _ _ _ => (pg_name (i := 0) (show (["row"] : List Str).Nodup from by decide +kernel) rfl (Or.inr rfl))) (fun _ _ _ _ _ => pifs_nil) (fun _ _ _ _ _ => (pe_compN ["k", "row"] [none, some 0] rfl rfl rfl (pi_range2 rfl T.b_range (pa_cons pe_int (pa_cons (pe_op op_add (pe_callB (call_lenK (K := K) rfl) rfl T.b_len PySem.boot_len (pa_cons (pv 0) pa_nil)) pe_int) pa_nil))) (fun _ _ _ _ _ => (pg_name (i := 0) (show (["k", "row"] : List Str).Nodup from by decide +kernel) rfl (Or.inl rfl))) (fun _ _ _ _ _ => pifs_nil) (fun _ _ _ _ _ => (pe_callF G__law_tree (hr.mono (by decide)) rfl passE (pa_cons (pe_slice (sl_q (K := K) rfl) (pv 1) po_none (po_some (pv 0))) pa_nil))) only_name)) only_name))), ?_⟩
  obtain ⟨as, b1, b2, b3⟩ := id hq
  have hF2 := hF.2.1
  walk_at "rd"
  refine ⟨⟨_, SqL.of b1⟩, comp_inv (n := Rs.length) (fun i acc Hx => ∃ (cs : List Addr) (bs : Nat → List Addr) (T : Nat → Nat → List Int), acc = cs.map V.ref ∧ TreesI M Hx cs bs T Rs i ∧ Same H Hx) (Nat.lt_of_le_of_lt (show _ ≤ 1000 by omega) (by decide)) ⟨[], fun _ => [], fun _ _ => [], rfl, ⟨rfl, fun i h => absurd h (by simp)⟩, Same.refl _⟩ (fun i acc Hx ⟨_, _, _, _, _, s⟩ hi => ⟨_, _, SqL.of (s _ _ b1), List.getElem?_eq_getElem (by rw [List.length_map, b2]; exact hi)⟩) (fun acc Hx ⟨_, _, _, _, _, s⟩ => ⟨_, SqL.of (s _ _ b1), by rw [List.length_map, b2]; exact Nat.le_refl _⟩) ?_ ?_⟩
  · rintro i x acc Hx Hy hi hla ⟨cs, bs, T, rfl, hT, sx⟩ ⟨rfl, hx⟩
    have i1 : i < as.length := by omega
    have ex := hx _ (SqL.of (sx _ _ b1))
    rw [List.getElem?_map, List.getElem?_eq_getElem i1] at ex
    cases ex
    obtain ⟨n1, c1⟩ := b3 i i1 hi
    have hb := hF.2.2 _ (List.getElem_mem hi)
    have cx := sx _ _ c1
    have eR : ((Rs[i]).map V.int).length = Rs[i].length := List.length_map ..
    walk_at "rd"
    refine ⟨_, .inl (SqL.of cx), by omega, by omega, by omega, by omega, ?_⟩
    rw [eR]
    have en : (((Rs[i].length : Nat) : Int) + 1 - 1).toNat = Rs[i].length := by omega
    rw [en]
    refine comp_inv (n := Rs[i].length) (fun k acc Hz => ∃ (ds : List Addr) (U : Nat → List Int), acc = ds.map V.ref ∧ ds.length = k ∧ (∀ j (h : j < ds.length), TreeIs (Rs[i].take (j + 1)) (U j) ∧ Hz ds[j] = some (.tup ((U j).map V.int))) ∧ Same Hy Hz) (Nat.lt_of_le_of_lt (show _ ≤ 1000 by omega) (by decide)) ⟨[], fun _ => [], rfl, rfl, (fun j h => absurd h (by simp)), Same.refl _⟩ (fun k acc Hz _ hk => by show _ < _; omega) (fun acc Hz _ => by show _ ≤ _; omega) ?_ ?_
    · rintro k x acc Hz Hw hk hlk ⟨ds, U, rfl, hdl, hU, sz⟩ ⟨rfl, rfl⟩
      have e1 : (1 : Int) + (k : Int) = ((k + 1 : Nat) : Int) := by omega
      rw [e1]
      walk_at "rd"
      first | refine ⟨_, SqL.of (sz _ _ cx), fun l hl => ?_⟩ | refine ⟨_, .inl ⟨SqL.of (sz _ _ cx), fun l hl => ?_⟩⟩
      rw [cut_to, ← List.map_take]
      refine ⟨l, _, rfl, upd_same, by rw [List.length_take]; omega, fun t es H3 hT3 s3 ht => CA.take hk hlk ⟨ds ++ [t], by simp, by simp [hdl], fun j => if j = k then es else U j, fun j h => ?_, (sz.upd' hl).trans s3⟩⟩
      by_cases e : j < ds.length
      · have nj : ¬ j = k := by rw [← hdl]; omega
        rw [List.getElem_append_left e]
        simp only [if_neg nj]
        exact ⟨(hU j e).1, s3 _ _ (((Same.refl _).upd hl) _ _ (hU j e).2)⟩
      · have ej : j = k := by simp at h; omega
        subst ej
        have e2 : (ds ++ [t])[j]'h = t := by simp [← hdl]
        rw [e2]
        simp only [if_true]
        exact ⟨hT3, ht⟩
    · rintro l acc Hz ⟨ds, U, rfl, hdl, hU, sz⟩ _ hl
      have g := (Same.refl Hz).upd (o := .lst (ds.map V.ref)) hl
      refine CA.take hi hla ⟨cs ++ [l], by simp, fun j => if j = i then ds else bs j, fun j => if j = i then U else T j, hT.push ((sz.trans g)) (hM l ((sx.trans sz).free hl)) upd_same hdl fun j h => ⟨(hU j h).1, g _ _ (hU j h).2⟩, (sx.trans sz).trans g⟩
  · rintro l acc Hx ⟨cs, bs, T, rfl, hT, sx⟩ _ hl
    have g := (Same.refl Hx).upd (o := .lst (cs.map V.ref)) hl
    refine k1 l _ (sx.trans g) ⟨cs, bs, T, upd_same, hM l (sx.free hl), hT.1, fun i h1 h2 => ?_⟩
    obtain ⟨a, b, c, d⟩ := hT.2 i h1 h2
    exact ⟨a, g _ _ b, c, fun k h => ⟨(d k h).1, g _ _ (d k h).2⟩⟩
theorem ok__law_ended {f : Addr} {fd : FuncData} (F : Fun K "_law_ended" "_law_ended" s__law_ended f fd) (G__law_tree : Callee P w K mg base "_law_tree" 2 ["row"] (sp__law_tree K mg)) (T : Txt K mg) : FnOk P w K mg base (CXE P w) 3 f fd ["trees", "given"] (sp__law_ended K mg) := by
  refine F.okX sc__law_ended (fun vs H Q E h => ?_) (fun cdv A outer s H vs Q E hr h => ?_)
  · obtain ⟨t, g, N, Rs, gs, rfl, _⟩ := h; rfl
  obtain ⟨t, g, N, Rs, gs, rfl, hT, hF, hg, hl, k1⟩ := h
  refine ⟨_, (pss_cons (ps_setCN (i := 2) ["k", "given"] [none, some 1] sc__law_ended.nd rfl (Or.inl rfl) rfl rfl rfl (pi_range2 rfl T.b_range (pa_cons pe_int (pa_cons (pe_op op_add (pe_callB (call_min2 rfl) rfl T.b_min bt_min (pa_cons pe_int (pa_cons (pe_callB (call_lenK (K := K) rfl) rfl T.b_len PySem.boot_len (pa_cons (pv 1) pa_nil)) pa_nil))) pe_int) pa_nil))) (fun _ _ _ _ _ => (pg_name (i := 0) (show (["k", "given"] : List Str).Nodup from by decide +kernel) rfl (Or.inl rfl))) (fun _ _ _ _ _ => pifs_nil) (fun _ _ _ _ _ => (pe_callF G__law_tree (hr.mono (by decide)) rfl passE (pa_cons (pe_slice (r := rSlL K) sl_list (pv 1) (po_some (pe_un un_neg (pv 0))) po_none) pa_nil))) only_name)
      (pss_cons (ps_set (i := 3) sc__law_ended.nd rfl (Or.inl rfl) (pe_lst pa_nil))
      (pss_cons (ps_set (i := 4) sc__law_ended.nd rfl (Or.inl rfl) pe_int)
      (pss_cons (ps_nox (ps_for PassesOwn.never rfl (pi_enum (K := K) rfl rfl T.b_enumerate (pa_cons (pv 0) pa_nil)) (pg_tup (n := 2) rfl (pgs_cons (pg_name (i := 5) sc__law_ended.nd rfl (Or.inl rfl)) (pgs_cons (pg_name (i := 6) sc__law_ended.nd rfl (Or.inl rfl)) pgs_nil))) (pss_one (ps_nox (ps_for PassesOwn.never rfl (pi_range1 rfl T.b_range (pa_cons (pe_callB (call_min2 rfl) rfl T.b_min bt_min (pa_cons (pe_callB (call_lenK (K := K) rfl) rfl T.b_len PySem.boot_len (pa_cons (pv 6) pa_nil)) (pa_cons (pe_callB (call_lenK (K := K) rfl) rfl T.b_len PySem.boot_len (pa_cons (pv 2) pa_nil)) pa_nil))) pa_nil)) (pg_name (i := 7) sc__law_ended.nd rfl (Or.inl rfl)) (pss_one (ps_if (pt_cmpR (op_eqD (K := K) rfl hr) (pe_ix ix_list (pv 6) (pv 7) (fun _ _ => rfl)) (pe_ix ix_list (pv 2) (pv 7) (fun _ _ => rfl)) (nomark _)) (pss_cons (ps_set (i := 4) sc__law_ended.nd rfl (Or.inl rfl) (pe_callB (call_max2 rfl) rfl T.b_max bt_max (pa_cons (pv 4) (pa_cons (pe_op op_add (pv 7) pe_int) pa_nil))))
      (pss_one (ps_if (pt_cmpR op_eq (pe_op op_add (pv 7) pe_int) (pe_callB (call_lenK (K := K) rfl) rfl T.b_len PySem.boot_len (pa_cons (pv 6) pa_nil)) (nomark _)) (pss_one (ps_expr (pe_bm PySem.F.plainAttrs_list PySem.F.slot_list_append PySem.F.type_list_append mt_append (pv 3) (pa_cons (pv 5) pa_nil)))) pss_nil))) pss_nil)))))))
      (pss_one (ps_ret (pe_tup (pa_cons (pv 3) (pa_cons (pv 4) pa_nil))))))))), ?_⟩
  obtain ⟨as, bs, Tf, t1, _, t2, t3⟩ := id hT
  have hF1 := hF.1
  have hF2 := hF.2.1
  have eG : (gs.map V.int).length = gs.length := List.length_map ..
  obtain ⟨S, hS⟩ := longs_ex Rs gs
  replace k1 : ∀ (u e : Addr) (L : List Nat) (m : Nat) H', Same H H' → H e = none → H' u = some (.tup [.ref e, .int (m : Int)]) → H' e = some (.lst (natsV L)) → L = hitsL Rs S → m ∈ S → (∀ a ∈ S, a ≤ m) → Q (.ref u) H' := fun u e L m H' a b c d f g h => k1 u e L m H' a b c d fun S' hS' => by rw [longs_unique hS' hS]; exact ⟨f, g, h⟩
  refine seqR (fun σ Hx => ∃ (la : Addr) (cs : List Addr) (U : Nat → List Int), σ = [some (.ref t), some (.ref g), some (.ref la), none, none, none, none, none] ∧ Hx la = some (.lst (cs.map V.ref)) ∧ cs.length = min 12 gs.length ∧ (∀ k (h : k < cs.length), TreeIs (gs.drop (gs.length - (k + 1))) (U k) ∧ Hx cs[k] = some (.tup ((U k).map V.int))) ∧ Same H Hx) (fun R hR => ?_) ?_
  · walk_at "rd"
    refine ⟨_, .inl (SqL.of hg), by decide, by decide, ?_⟩
    rw [eG]
    obtain ⟨n, hn, n1, n2⟩ : ∃ n : Nat, (if (gs.length : Int) < 12 then (gs.length : Int) else 12) = (n : Int) ∧ n = min 12 gs.length ∧ n ≤ 12 := ⟨min 12 gs.length, by split <;> omega, rfl, by omega⟩
    rw [hn]
    have en : ((n : Int) + 1 - 1).toNat = n := by omega
    rw [en]
    refine ⟨by omega, by omega, comp_inv (n := n) (fun k acc Hz => LastsI H Hz gs k acc) (Nat.lt_of_le_of_lt (show _ ≤ 1000 by omega) (by decide)) ⟨[], fun _ => [], rfl, rfl, (fun j h => absurd h (by simp)), Same.refl _⟩ (fun k acc Hz _ hk => by show _ < _; omega) (fun acc Hz _ => by show _ ≤ _; omega) ?_ ?_⟩
    · rintro k x acc Hz Hw hk hlk ⟨ds, U, rfl, hdl, hU, sz⟩ ⟨rfl, rfl⟩
      have e1 : (-(1 + (k : Int))) = -((k + 1 : Nat) : Int) := by omega
      walk_at "rd"
      rw [e1]
      refine ⟨_, SqL.of (sz _ _ hg), fun l hl2 => ?_⟩
      rw [cut_neg _ (by rw [eG]; omega), eG, ← List.map_drop]
      refine ⟨l, _, rfl, upd_same, by rw [List.length_drop]; omega, fun u es H3 hT3 s3 hu => CA.take hk hlk ⟨ds ++ [u], fun j => if j = k then es else U j, by simp, by simp [hdl], fun j h => ?_, (sz.upd' hl2).trans s3⟩⟩
      by_cases e : j < ds.length
      · have nj : ¬ j = k := by rw [← hdl]; omega
        rw [List.getElem_append_left e]
        simp only [if_neg nj]
        exact ⟨(hU j e).1, s3 _ _ (((Same.refl _).upd hl2) _ _ (hU j e).2)⟩
      · have ej : j = k := by simp at h; omega
        subst ej
        have e2 : (ds ++ [u])[j]'h = u := by simp [← hdl]
        rw [e2]
        simp only [if_true]
        exact ⟨hT3, hu⟩
    · rintro l acc Hz ⟨ds, U, rfl, hdl, hU, sz⟩ _ hl2
      have gg := (Same.refl Hz).upd (o := .lst (ds.map V.ref)) hl2
      exact hR _ _ ⟨l, ds, U, rfl, upd_same, by omega, fun j h => ⟨(hU j h).1, gg _ _ (hU j h).2⟩, sz.trans gg⟩
  rintro σ Hx ⟨la, cs, U, rfl, hla, hcl, hU, sx⟩
  refine seqR (fun σ Hy => ∃ e : Addr, σ = [some (.ref t), some (.ref g), some (.ref la), some (.ref e), none, none, none, none] ∧ Hx e = none ∧ Hy e = some (.lst []) ∧ Same Hx Hy) (fun R hR => ?_) ?_
  · walk_at "rd"
    exact ⟨Nat.zero_le _, fun e he => hR _ _ ⟨e, rfl, he, upd_same, (Same.refl Hx).upd he⟩⟩
  rintro σ Hy ⟨e, rfl, ze, he, sy⟩
  refine seqR (fun σ Hz => σ = [some (.ref t), some (.ref g), some (.ref la), some (.ref e), some (.int 0), none, none, none] ∧ Hz = Hy) (fun R hR => ?_) ?_
  · walk_at "rd"
    exact hR _ _ ⟨rfl, rfl⟩
  rintro σ H2 ⟨rfl, rfl⟩
  have eA : (as.map V.ref).length = as.length := List.length_map ..
  walk_at "rd"
  refine ⟨_, SqL.of ((sx.trans sy) _ _ t1), ?_⟩
  refine for_it (n := Rs.length) (fun i σ Hz => ∃ (v5 v6 v7 : Option V) (m : Nat), σ = [some (.ref t), some (.ref g), some (.ref la), some (.ref e), some (.int (m : Int)), v5, v6, v7] ∧ Hz e = some (.lst (natsV ((List.range i).filter fun j => decide (S.getD j 0 = (Rs.getD j []).length)))) ∧ MaxTo S i m ∧ Same Hx Hz) ⟨_, _, _, 0, rfl, he, ⟨(fun j _ hj => absurd hj (by omega)), .inl rfl⟩, sy⟩ (fun i σ Hz hi ⟨_, _, _, _, _, _, _, s⟩ => ⟨_, _, SqL.of ((sx.trans s) _ _ t1), List.getElem?_eq_getElem (by rw [eA, t2]; exact hi)⟩) (fun σ Hz ⟨_, _, _, _, _, _, _, s⟩ => ⟨_, SqL.of ((sx.trans s) _ _ t1), by rw [eA, t2]⟩) ?_ ?_
  · clear he sy
    rintro i x σ Hz Hw hi ⟨v5, v6, v7, m, rfl, hez, hM, sz⟩ ⟨q, y, hq, rfl, rfl, hy⟩
    have i1 : i < as.length := by omega
    have i3 : i < S.length := by rw [hS.1]; exact hi
    have ey := hy _ (SqL.of ((sx.trans sz) _ _ t1))
    rw [List.getElem?_map, List.getElem?_eq_getElem i1] at ey
    cases ey
    have gq := (Same.refl Hz).upd (o := .tup [.int (i : Int), .ref as[i]]) hq
    have tq : (upd Hz q (.tup [.int (i : Int), .ref as[i]])) q = some (.tup [.int (i : Int), .ref as[i]]) := upd_same
    replace hez := gq _ _ hez
    replace sz := sz.trans gq
    generalize upd Hz q (.tup [.int (i : Int), .ref as[i]]) = Hw at tq hez sz ⊢
    obtain ⟨_, a2, a3, a4⟩ := t3 i i1 hi
    have a2w := (sx.trans sz) _ _ a2
    have hbd := hF.2.2 _ (List.getElem_mem hi)
    have hL := hS.2 i hi i3
    have eB : ((bs i).map V.ref).length = Rs[i].length := by rw [List.length_map]; exact a3
    have eC : (cs.map V.ref).length = cs.length := List.length_map ..
    refine ⟨q, _, rfl, SqT.of tq, rfl, _, _, rfl, _, _, rfl, rfl, ?_⟩
    walk_at "rd"
    refine ⟨_, .inl (SqL.of a2w), _, .inl (SqL.of (sz _ _ hla)), ?_⟩
    rw [eB, eC]
    obtain ⟨n, hn, n1⟩ : ∃ n : Nat, (if (cs.length : Int) < (Rs[i].length : Int) then (cs.length : Int) else (Rs[i].length : Int)) = (n : Int) ∧ n = min Rs[i].length gs.length := ⟨min Rs[i].length gs.length, by split <;> omega, rfl⟩
    rw [hn]
    have en : ((n : Int)).toNat = n := by omega
    rw [en]
    refine ⟨by omega, by omega, ?_⟩
    refine for_range (fun k σ Hv => ∃ (v7 : Option V) (m' : Nat), σ = [some (.ref t), some (.ref g), some (.ref la), some (.ref e), some (.int (m' : Int)), some (.int (i : Int)), some (.ref as[i]), v7] ∧ Hv e = some (.lst (natsV (((List.range i).filter fun j => decide (S.getD j 0 = (Rs.getD j []).length)) ++ if Rs[i].length ≤ k ∧ S[i] = Rs[i].length then [i] else []))) ∧ MaxIn (nth Rs[i]) (nth gs) gs.length m k m' ∧ Same Hx Hv) ⟨_, m, rfl, ?_, ⟨Nat.le_refl _, (fun j h1 h2 => absurd h2 (by omega)), .inl rfl⟩, sz⟩ ?_ ?_
    · rw [if_neg (by omega), List.append_nil]; exact hez
    · rintro k σ Hv hk ⟨v7, m', rfl, hev, hMi, sv⟩
      have k1' : k < (bs i).length := by omega
      have k2' : k < cs.length := by omega
      have e0 : (0 : Int) + (k : Int) = (k : Int) := by omega
      obtain ⟨u1, u2⟩ := a4 k k1'
      obtain ⟨w1, w2⟩ := hU k k2'
      have hmt := mt_tree (k := k + 1) (by omega) (by omega) u1 w1
      have hh := eqp_tup (n := 2) (K := K) (H := Hv) eqp_int (V.ref (bs i)[k]) (V.ref cs[k]) (Tf i k) (U k) (isT_ints (SqT.of ((sx.trans sv) _ _ u2))) (isT_ints (SqT.of (sv _ _ w2)))
      rw [e0]
      have b2v := (sx.trans sv) _ _ a2
      have hSi : S[i] = Rs[i].length ↔ (Rs[i].length ≤ gs.length ∧ Mt (nth Rs[i]) (nth gs) Rs[i].length gs.length) := ⟨fun z => by rw [← z]; exact ⟨hL.2.1, hL.2.2.1⟩, fun ⟨z1, z2⟩ => by
        rcases Nat.lt_or_ge S[i] Rs[i].length with y | y
        · exact absurd z2 (hL.2.2.2 _ y (Nat.le_refl _) z1)
        · have := hL.1; omega⟩
      walk_at "rd"
      refine ⟨_, SqL.of b2v, _, atI_nat (by rw [List.getElem?_map, List.getElem?_eq_getElem k1']; rfl), _, SqL.of (sv _ _ hla), _, atI_nat (by rw [List.getElem?_map, List.getElem?_eq_getElem k2']; rfl), _, rfl, _, rfl, _, hh, ite2 (fun z => ⟨_, .inl (SqL.of b2v), ?_⟩) fun z => ⟨_, m', rfl, rfl, ?_, ?_, sv⟩⟩
      · have hM1 := hmt.mp (of_decide_eq_true z)
        rw [eB]
        have em : (if (k : Int) + 1 > (m' : Int) then (k : Int) + 1 else (m' : Int)) = ((max (k + 1) m' : Nat) : Int) := by split <;> omega
        refine ite2 (fun z2 => ⟨tyV_list hev, _, hev, ?_, _, _, em, rfl, ?_, hMi.hit hM1, sv.upd ze⟩) fun z2 => ⟨_, _, em, rfl, ?_, hMi.hit hM1, sv⟩
        · refine Nat.lt_of_le_of_lt (show _ ≤ 1000 from ?_) (by decide)
          rw [natsV_len, List.length_append]
          have := List.length_filter_le (fun j => decide (S.getD j 0 = (Rs.getD j []).length)) (List.range i)
          rw [List.length_range] at this
          generalize (List.filter (fun j => decide (S.getD j 0 = (Rs.getD j []).length)) (List.range i)).length = NN at this ⊢
          split <;> simp <;> omega
        · have hs : S[i] = Rs[i].length := hSi.mpr ⟨by omega, by rw [show Rs[i].length = k + 1 by omega]; exact hM1⟩
          rw [upd_same, if_neg (by omega), if_pos ⟨by omega, hs⟩, List.append_nil, natsV_app]
          rfl
        · rw [hev, if_neg (by omega), if_neg (by omega)]
      · rw [hev, if_neg (by omega)]
        by_cases e : k + 1 = Rs[i].length
        · rw [if_neg (fun y => z (decide_eq_true (hmt.mpr (by rw [e]; exact (hSi.mp y.2).2))))]
        · rw [if_neg (by omega)]
      · exact hMi.miss fun y => z (decide_eq_true (hmt.mpr y))
    · rintro σ Hv ⟨v7, m', rfl, hev, hMi, sv⟩
      walk_at "rd"
      refine ⟨_, _, _, m', rfl, rfl, rfl, rfl, ?_, hM.next i3 hL (by rw [← n1]; exact hMi), sv⟩
      rw [hev, List.range_succ, List.filter_append]
      have eg : S.getD i 0 = S[i] := by simp [i3]
      have eR : (Rs.getD i []) = Rs[i] := by simp [hi]
      have h21 := hL.2.1
      by_cases z : S[i] = Rs[i].length
      · have : List.filter (fun j => decide (S.getD j 0 = (Rs.getD j []).length)) [i] = [i] := by simp only [List.filter_cons, List.filter_nil, eg, eR]; rw [if_pos (decide_eq_true z)]
        rw [this, if_pos ⟨by omega, z⟩]
      · have : List.filter (fun j => decide (S.getD j 0 = (Rs.getD j []).length)) [i] = [] := by simp only [List.filter_cons, List.filter_nil, eg, eR]; rw [if_neg (by simp only [decide_eq_true_eq]; exact z)]
        rw [this, if_neg (fun y => z y.2)]
  · rintro σ Hz ⟨v5, v6, v7, m, rfl, hez, hM, sz⟩
    walk_at "rd"
    refine ⟨by decide, fun u hu => ?_⟩
    have gu := (Same.refl Hz).upd (o := .tup [.ref e, .int (m : Int)]) hu
    refine k1 u e _ m _ ((sx.trans sz).trans gu) (sx.free ze) upd_same (gu _ _ hez) rfl ?_ fun a ha => ?_
    · rcases hM.2 with z | ⟨j, h, _, z⟩
      · have h0 : 0 < S.length := by rw [hS.1]; exact hF1
        have := hM.1 0 h0 hF1
        rw [z, show (0 : Nat) = S[0] by omega]; exact List.getElem_mem h0
      · rw [← z]; exact List.getElem_mem h
    · obtain ⟨j, hj, rfl⟩ := List.mem_iff_getElem.mp ha
      exact hM.1 j hj (by rw [← hS.1]; exact hj)
theorem ok_Watch_how_many {f : Addr} {fd : FuncData} (F : Fun K "how_many" "Watch.how_many" s_Watch_how_many f fd)  (T : Txt K mg) : FnOk P w K mg base (CXE P w) 1 f fd ["self"] (sp_Watch_how_many K mg) := by
  refine F.okX sc_Watch_how_many (fun vs H Q E h => ?_) (fun cdv A outer s H vs Q E hr h => ?_)
  · obtain ⟨N, x, d, b, g, z, Rs, gs, S, rfl, _⟩ := h; rfl
  obtain ⟨N, x, d, b, g, z, Rs, gs, S, rfl, hW, k1⟩ := h
  refine ⟨_, (pss_one (ps_ret (pe_callB (call_lenK (K := K) rfl) rfl T.b_len PySem.boot_len (pa_cons (pe_fldC (K := K) rfl T.cl_Watch T.n_Watch_given (pv 0)) pa_nil)))), ?_⟩
  obtain ⟨dx, da, ba, za, zl, w1, w2, w3, w4, w5, w6, w7, w8, w9, w10, w11⟩ := hW
  walk_at "rd"
  refine ⟨dx, _, w1, _, wF_g d b g z, g, rfl, _, .inl (SqL.of w5), ?_⟩
  rw [List.length_map]; exact k1
theorem ok__law_either {f : Addr} {fd : FuncData} (F : Fun K "_law_either" "_law_either" s__law_either f fd) (G__law_take : Callee P w K mg base "_law_take" 1 ["pot", "many"] (sp__law_take K mg)) (T : Txt K mg) : FnOk P w K mg base (CXE P w) 2 f fd ["pot", "some"] (sp__law_either K mg) := by
  refine F.okX sc__law_either (fun vs H Q E h => ?_) (fun cdv A outer s H vs Q E hr h => ?_)
  · obtain ⟨p, r, ns, rfl, _⟩ := h; rfl
  obtain ⟨p, r, ns, rfl, hP, nrp, hr1, hn, k1⟩ := h
  refine ⟨_, (pss_one (ps_ret (pe_ix ix_tup (pe_tup (pa_cons (pe_callTy (call_listK (K := K) rfl) rfl T.b_list bt_list (pa_cons (pv 1) pa_nil)) (pa_cons (pe_callTy (call_tupK (K := K) rfl) rfl T.b_tuple bt_tuple (pa_cons (pv 1) pa_nil)) pa_nil))) (pe_callF G__law_take (hr.mono (by decide)) rfl passE (pa_cons (pv 0) (pa_cons pe_int pa_nil))) (fun _ _ => rfl)))), ?_⟩
  walk_at "rd"
  refine ⟨_, .inl (SqL.of hr1), fun l hl => ?_⟩
  have g1 := (Same.refl H).upd (o := .lst (ns.map V.int)) hl
  refine ⟨_, .inl ⟨SqL.of (g1 _ _ hr1), fun l2 hl2 => ⟨by decide, fun c hc => ?_⟩⟩⟩
  have g2 := (Same.refl _).upd (o := .tup (ns.map V.int)) hl2
  have g3 := (Same.refl _).upd (o := .tup [V.ref l, V.ref l2]) hc
  have gg := (g1.trans g2).trans g3
  have hl3 := (g2.trans g3) _ _ (upd_same (H := H) (a := l) (o := .lst (ns.map V.int)))
  have hl23 := g3 _ _ (upd_same (a := l2) (o := .tup (ns.map V.int)) (H := upd H l (.lst (ns.map V.int))))
  have nlp : l ≠ p := hP.ne hl
  have nl2p : l2 ≠ p := (hP.same g1).ne hl2
  have ncp : c ≠ p := (hP.same (g1.trans g2)).ne hc
  refine ⟨p, _, rfl, by decide, by decide, hP.same gg, fun d H2 d0 d1 P2 e2 => ⟨_, d, rfl, SqT.of (e2 _ _ ncp upd_same), ?_⟩⟩
  have ex := (Same.refl H).toExc.same gg |>.trans e2
  rcases (by omega : d = 0 ∨ d = 1) with rfl | rfl
  · exact ⟨_, rfl, k1 l H2 hl (.inl (e2 _ _ nlp hl3)) P2 ex⟩
  · exact ⟨_, rfl, k1 l2 H2 (g1.free hl2) (.inr (e2 _ _ nl2p hl23)) P2 ex⟩
theorem ok__law_right {f : Addr} {fd : FuncData} (F : Fun K "_law_right" "_law_right" s__law_right f fd) (GM_Watch_reach_now : CalleeM P w K mg base "Watch" "reach_now" 1 ["self"] (sp_Watch_reach_now K mg)) (GM_Watch_how_many : CalleeM P w K mg base "Watch" "how_many" 1 ["self"] (sp_Watch_how_many K mg)) (G__law_whole : Callee P w K mg base "_law_whole" 1 ["thing"] (sp__law_whole K mg)) (G__law_ended : Callee P w K mg base "_law_ended" 3 ["trees", "given"] (sp__law_ended K mg)) (T : Txt K mg) : FnOk P w K mg base (CXE P w) 4 f fd ["watch", "trees", "given", "told"] (sp__law_right K mg) := by
  refine F.okX sc__law_right (fun vs H Q E h => ?_) (fun cdv A outer s H vs Q E hr h => ?_)
  · obtain ⟨N, M, x, d, b, g, z, t, y, c, Rs, gs, S, rfl, _⟩ := h; rfl
  obtain ⟨N, M, x, d, b, g, z, t, y, c, Rs, gs, S, rfl, hW, hNc, ncg, ncz, nyc, hT, hF, hy, hl, hc, k1⟩ := h
  refine ⟨_, (pss_cons (ps_asg (pe_callF G__law_ended (hr.mono (by decide)) rfl passE (pa_cons (pv 1) (pa_cons (pv 2) pa_nil))) (pg_tup (n := 2) rfl (pgs_cons (pg_name (i := 4) sc__law_right.nd rfl (Or.inl rfl)) (pgs_cons (pg_name (i := 5) sc__law_right.nd rfl (Or.inl rfl)) pgs_nil))))
      (pss_cons (ps_if (PW.pt (pw_or (pt_not (pt_val (pe_callB (call_isiK (K := K) rfl) rfl T.b_isinstance bt_isinstance (pa_cons (pv 3) (pa_cons (pe_bltn (v := .ty "list") rfl T.b_list bt_list rfl) pa_nil))))) (pw_or (pt_cmpR (op_neD (K := K) rfl hr) (pv 3) (pv 4) (nomark _)) (pw_or1 (pt_not (pt_val (pe_callB (call_all (K := K) rfl rfl) rfl T.b_all bt_all (pa_cons (pe_compN ["at"] [none] rfl rfl rfl (pi_list (pv 3)) (fun _ _ _ _ _ => (pg_name (i := 0) (show (["at"] : List Str).Nodup from by decide +kernel) rfl (Or.inl rfl))) (fun _ _ _ _ _ => pifs_nil) (fun _ _ _ _ _ => (pe_callF G__law_whole (hr.mono (by decide)) rfl passE (pa_cons (pv 0) pa_nil))) only_name) pa_nil)))))))) (pss_one (ps_ret pe_bl)) pss_nil)
      (pss_cons (ps_expr (pe_bm PySem.F.plainAttrs_list PySem.F.slot_list_append PySem.F.type_list_append mt_append (pv 3) (pa_cons pe_int pa_nil)))
      (pss_cons (ps_nox (ps_for PassesOwn.never rfl (pi_range1 rfl T.b_range (pa_cons pe_int pa_nil)) (pg_name (i := 6) sc__law_right.nd rfl (Or.inl rfl)) (pss_one (ps_if (PW.pt (pw_or (pt_not (pt_val (pe_callF G__law_whole (hr.mono (by decide)) rfl passE (pa_cons (pe_methF0 (mg := mg) rfl GM_Watch_reach_now (hr.mono (by decide)) passE (pv 0)) pa_nil)))) (pw_or (pt_cmpR op_ne (pe_methF0 (mg := mg) rfl GM_Watch_reach_now (hr.mono (by decide)) passE (pv 0)) (pv 5) (nomark _)) (pw_or1 (pt_cmpR op_ne (pe_methF0 (mg := mg) rfl GM_Watch_how_many (hr.mono (by decide)) passE (pv 0)) (pe_callB (call_lenK (K := K) rfl) rfl T.b_len PySem.boot_len (pa_cons (pv 2) pa_nil)) (nomark _)))))) (pss_one (ps_ret pe_bl)) pss_nil))))
      (pss_one (ps_ret pe_bl)))))), ?_⟩
  have hLo := hW.longs
  walk_at "rd"
  refine ⟨t, y, M, Rs, gs, rfl, hT, hF, hy, hl, fun u e L m H1 s1 ze hu he hL => ?_⟩
  obtain ⟨rfl, hm, hmax⟩ := hL S hLo
  have hc1 := s1 _ _ hc
  have hc1' := hc1
  rw [natsV_ints] at he hc1'
  have hh := eqp_lst (n := 2) (K := K) (H := H1) eqp_int (V.ref c) (V.ref e) _ _ (isL_ints (SqL.of hc1')) (isL_ints (SqL.of he))
  have hlen : (hitsL Rs S).length ≤ 12 := by
    unfold hitsL
    refine Nat.le_trans (List.length_filter_le _ _) ?_
    rw [List.length_range]; exact hF.2.1
  refine ⟨u, rfl, _, SqT.of hu, rfl, _, _, rfl, _, _, rfl, rfl, true, .inl ⟨_, .lst hc1, kit_self⟩, ite2 (fun z => nomatch z) fun _ => ⟨e, rfl, _, hh, ite2 (fun z => absurd z (by simp)) fun _ => ⟨⟨_, SqL.of hc1⟩, ?_⟩⟩⟩
  refine comp_map (n := (hitsL Rs S).length) (fun _ => V.bl true) (Nat.lt_of_le_of_lt (show _ ≤ 1000 by omega) (by decide)) (fun j Hx s hj => ⟨_, _, SqL.of (s _ _ hc1), List.getElem?_eq_getElem (by rw [natsV_len]; exact hj)⟩) (fun Hx s => ⟨_, SqL.of (s _ _ hc1), by rw [natsV_len]; exact Nat.le_refl _⟩) ?_ ?_
  · rintro j v Hx Hy hj s ⟨rfl, hx⟩
    have ex := hx _ (SqL.of (s _ _ hc1))
    unfold natsV at ex
    rw [List.getElem?_map, List.getElem?_eq_getElem hj] at ex
    cases ex
    walk_at "rd"
    exact ⟨_, rfl, CW.next hj rfl s⟩
  intro l' Hx sx hl'
  have ga := sx.upd' (o := .lst ((List.range (hitsL Rs S).length).map fun _ => V.bl true)) hl'
  have hc2 := ga _ _ hc1
  refine ⟨l', rfl, List.replicate (hitsL Rs S).length true, SqL.of (by rw [upd_same, List.map_replicate, List.map_const', List.length_range]), ?_⟩
  have eall : (List.replicate (hitsL Rs S).length true).all id = true := by simp
  rw [eall]
  refine ite2 (fun z => nomatch z) fun _ => ⟨tyV_list hc2, _, hc2, Nat.lt_of_le_of_lt (show _ ≤ 1000 by rw [natsV_len]; omega) (by decide), by decide, by decide, ?_⟩
  have sA := s1.trans ga
  have eX : Exc c H (upd (upd Hx l' (.lst ((List.range (hitsL Rs S).length).map fun _ => V.bl true))) c (.lst (natsV (hitsL Rs S) ++ [V.int 99]))) := fun a o n q => by rw [upd_ne n]; exact sA _ _ q
  have hW2 := (hW.same sA).updQ (o := .lst (natsV (hitsL Rs S) ++ [V.int 99])) hc2 hNc ncg ncz
  have hy2 := eX _ _ nyc hy
  generalize upd (upd Hx l' (.lst ((List.range (hitsL Rs S).length).map fun _ => V.bl true))) c (.lst (natsV (hitsL Rs S) ++ [V.int 99])) = H2 at eX hW2 hy2 ⊢
  refine for_range (fun i σ Hz => ∃ v6 : Option V, σ = [some (.ref x), some (.ref t), some (.ref y), some (.ref c), some (.ref e), some (.int (m : Int)), v6] ∧ Hz = H2) ⟨_, rfl, rfl⟩ ?_ ?_
  · rintro i σ Hz _ ⟨v6, rfl, rfl⟩
    obtain ⟨dxw, da, ba, za, zl, w1, _⟩ := id hW2
    have wn : ∀ m : Str, ¬ m = "sizes" → ¬ m = "given" → ¬ m = "borders" → ¬ m = "distances" → (wF d b g z).lookup m = none := fun m h1 h2 h3 h4 => wF_no h1 h2 h3 h4
    walk_at "rd"
    refine ⟨dxw, _, w1, wn _ (by decide +kernel) (by decide +kernel) (by decide +kernel) (by decide +kernel), N, x, d, b, g, z, Rs, gs, S, rfl, hW2, hF.1, fun mr h1 h2 => ⟨_, rfl, true, rfl, ite2 (fun z => nomatch z) fun _ => ⟨dxw, _, w1, wn _ (by decide +kernel) (by decide +kernel) (by decide +kernel) (by decide +kernel), N, x, d, b, g, z, Rs, gs, S, rfl, hW2, hF.1, fun mr2 h3 h4 => ?_⟩⟩⟩
    obtain rfl : mr2 = m := Nat.le_antisymm (hmax mr2 h3) (h4 m hm)
    exact ⟨rfl, ite2 (fun z => absurd rfl z) fun _ => ⟨dxw, _, w1, wn _ (by decide +kernel) (by decide +kernel) (by decide +kernel) (by decide +kernel), N, x, d, b, g, z, Rs, gs, S, rfl, hW2, _, .inl (SqL.of hy2), rfl, ite2 (fun z => absurd (by rw [List.length_map]) z) fun _ => rfl⟩⟩
  · rintro σ Hz ⟨v6, rfl, rfl⟩
    walk_at "rd"
    exact k1 _ eX

/-- rows handed out: a list of lists or tuples -/
def HandAt (H : Hp) (h : Addr) (us : List Addr) (Rs : List (List Int)) : Prop := H h = some (.lst (us.map V.ref)) ∧ us.length = Rs.length ∧ ∀ i (h1 : i < us.length) (h2 : i < Rs.length), H us[i] = some (.lst (Rs[i].map V.int)) ∨ H us[i] = some (.tup (Rs[i].map V.int))
def HandI (H2 Hb : Hp) (p : Addr) (Rs : List (List Int)) (k : Nat) (acc : List V) (Hz : Hp) : Prop := ∃ us : List Addr, acc = us.map V.ref ∧ us.length = k ∧ (∀ i (h1 : i < us.length) (h2 : i < Rs.length), Hz us[i] = some (.lst (Rs[i].map V.int)) ∨ Hz us[i] = some (.tup (Rs[i].map V.int))) ∧ (∀ a ∈ us, H2 a = none) ∧ PotAt Hz p ∧ Exc p Hb Hz
def BothI (H2 Hz : Hp) (p : Addr) (RR : List (List (List Int))) (k : Nat) (acc : List V) : Prop := ∃ (hs : List Addr) (us : Nat → List Addr), acc = hs.map V.ref ∧ hs.length = k ∧ (∀ i (h1 : i < hs.length) (h2 : i < RR.length), HandAt Hz hs[i] (us i) RR[i] ∧ ∀ a ∈ us i, H2 a = none) ∧ (∀ a ∈ hs, H2 a = none) ∧ hs.Pairwise (· ≠ ·) ∧ PotAt Hz p ∧ Exc p H2 Hz
theorem HandAt.exc {H H' : Hp} {h p : Addr} {us : List Addr} {Rs : List (List Int)} (hh : HandAt H h us Rs) (e : Exc p H H') (nh : h ≠ p) (nu : ∀ a ∈ us, a ≠ p) : HandAt H' h us Rs := by
  obtain ⟨h1, h2, h3⟩ := hh
  exact ⟨e _ _ nh h1, h2, fun i i1 i2 => (h3 i i1 i2).imp (e _ _ (nu _ (List.getElem_mem i1))) (e _ _ (nu _ (List.getElem_mem i1)))⟩
theorem HandAt.same {H H' : Hp} {h : Addr} {us : List Addr} {Rs : List (List Int)} (hh : HandAt H h us Rs) (e : Same H H') : HandAt H' h us Rs := by
  obtain ⟨h1, h2, h3⟩ := hh
  exact ⟨e _ _ h1, h2, fun i i1 i2 => (h3 i i1 i2).imp (e _ _) (e _ _)⟩
theorem HandAt.no {H : Hp} {h : Addr} {us : List Addr} {ns : List Int} (h1 : H h = some (.lst (us.map V.ref))) (hu : us ≠ []) (h2 : H h = some (.lst (ns.map V.int)) ∨ H h = some (.tup (ns.map V.int))) (hn : 0 < ns.length) : False := by
  rcases h2 with e | e
  · rw [h1] at e
    have e := Option.some.inj e
    injection e with e
    cases us with
    | nil => exact hu rfl
    | cons a r =>
      cases ns with
      | nil => simp at hn
      | cons n m => simp at e
  · rw [h1] at e; cases e
def hsel (h1 h2 : Addr) (w : Nat) : Addr := if w = 0 then h1 else h2
/-- the lists handed out are spoilt; nothing else changes -/
def MutI (H2 H3 H4 : Hp) (hd h1 h2 : Addr) (us : Nat → List Addr) (i : Nat) (Hx : Hp) : Prop := (∀ a o, H3 a = none ∨ H2 a ≠ none ∨ a = hd → H4 a = some o → Hx a = some o) ∧ (∀ w, i ≤ w → w < 2 → Hx (hsel h1 h2 w) = some (.lst ((us w).map V.ref))) ∧ ∀ w, w < 2 → ∀ a ∈ us w, (∃ xs, Hx a = some (.lst xs)) ∨ ∃ xs, Hx a = some (.tup xs)
def StrI (H5 : Hp) (p : Addr) (k : Nat) (acc : List V) (Hz : Hp) : Prop := ∃ (sts : List Addr) (ms : Nat → List Int), acc = sts.map V.ref ∧ sts.length = k ∧ (∀ i (h1 : i < sts.length), (ms i).length ≤ 60 ∧ Hz sts[i] = some (.lst ((ms i).map V.int)) ∧ H5 sts[i] = none) ∧ PotAt Hz p ∧ Exc p H5 Hz
def TreI (H6 : Hp) (RR : List (List (List Int))) (k : Nat) (acc : List V) (Hz : Hp) : Prop := ∃ (ts : List Addr), acc = ts.map V.ref ∧ ts.length = k ∧ (∀ i (h1 : i < ts.length) (h2 : i < RR.length), TreesX (fun a => H6 a = none) Hz ts[i] RR[i]) ∧ Same H6 Hz
def St43 (mg : Str → Option Value) (H0 H3 Hx : Hp) (wl sl tl : Addr) (sts ts : List Addr) (x1 x2 d1 d2 b1 b2 g1 g2 z1 z2 : Addr) (R1 R2 : List (List Int)) (ms gs : Nat → List Int) : Prop :=
  (∀ w, w < 2 → ∃ S, WatchAt (fun a => a ≠ hsel g1 g2 (1 - w) ∧ a ≠ hsel z1 z2 (1 - w)) mg Hx (hsel x1 x2 w) (hsel d1 d2 w) (hsel b1 b2 w) (hsel g1 g2 w) (hsel z1 z2 w) (if w = 0 then R1 else R2) (gs w) S) ∧ Hx wl = some (.lst [V.ref x1, V.ref x2]) ∧ Hx sl = some (.lst (sts.map V.ref)) ∧ (∀ i (h : i < sts.length), Hx sts[i] = some (.lst ((ms i).map V.int))) ∧ Hx tl = some (.lst (ts.map V.ref)) ∧ (∀ i (h1 : i < ts.length), TreesX (fun a => a ≠ g1 ∧ a ≠ z1 ∧ a ≠ g2 ∧ a ≠ z2) Hx ts[i] (if i = 0 then R1 else R2)) ∧ Same H0 Hx
theorem St43.same {mg : Str → Option Value} {H0 H3 Hx Hy : Hp} {wl sl tl : Addr} {sts ts : List Addr} {x1 x2 d1 d2 b1 b2 g1 g2 z1 z2 : Addr} {R1 R2 : List (List Int)} {ms gs : Nat → List Int} (h : St43 mg H0 H3 Hx wl sl tl sts ts x1 x2 d1 d2 b1 b2 g1 g2 z1 z2 R1 R2 ms gs) (s : Same Hx Hy) : St43 mg H0 H3 Hy wl sl tl sts ts x1 x2 d1 d2 b1 b2 g1 g2 z1 z2 R1 R2 ms gs := by
  obtain ⟨a, b, c, d, e, f, g⟩ := h
  exact ⟨fun w hw => (a w hw).elim fun S h => ⟨S, h.same s⟩, s _ _ b, s _ _ c, fun i h => s _ _ (d i h), s _ _ e, fun i h => (f i h).keep (fun a o _ e => s _ _ e) (fun a xs e => s _ _ e), g.trans s⟩
theorem St43.congr {mg : Str → Option Value} {H0 H3 Hx : Hp} {wl sl tl : Addr} {sts ts : List Addr} {x1 x2 d1 d2 b1 b2 g1 g2 z1 z2 : Addr} {R1 R2 : List (List Int)} {ms gs gs' : Nat → List Int} (h : St43 mg H0 H3 Hx wl sl tl sts ts x1 x2 d1 d2 b1 b2 g1 g2 z1 z2 R1 R2 ms gs) (e : ∀ w, w < 2 → gs w = gs' w) : St43 mg H0 H3 Hx wl sl tl sts ts x1 x2 d1 d2 b1 b2 g1 g2 z1 z2 R1 R2 ms gs' := by
  obtain ⟨a, r⟩ := h
  exact ⟨fun w hw => by rw [← e w hw]; exact a w hw, r⟩
theorem ok_law {f : Addr} {fd : FuncData} (F : Fun K "law" "law" s_law f fd) (GI_Watch : CalleeI P w K mg base "Watch" 5 ["self", "rows"] (sp_Watch___init__ K mg)) (GM_Watch_give : CalleeM P w K mg base "Watch" "give" 3 ["self", "number"] (sp_Watch_give K mg)) (GM_Watch_reach_now : CalleeM P w K mg base "Watch" "reach_now" 1 ["self"] (sp_Watch_reach_now K mg)) (GM_Watch_how_many : CalleeM P w K mg base "Watch" "how_many" 1 ["self"] (sp_Watch_how_many K mg)) (G__law_deal : Callee P w K mg base "_law_deal" 1 ["script", "k"] (sp__law_deal K mg)) (G__law_either : Callee P w K mg base "_law_either" 2 ["pot", "some"] (sp__law_either K mg)) (G__law_rows : Callee P w K mg base "_law_rows" 3 ["pot"] (sp__law_rows K mg)) (G__law_stream : Callee P w K mg base "_law_stream" 2 ["pot", "rows"] (sp__law_stream K mg)) (G__law_beginnings : Callee P w K mg base "_law_beginnings" 3 ["rows"] (sp__law_beginnings K mg)) (G__law_right : Callee P w K mg base "_law_right" 4 ["watch", "trees", "given", "told"] (sp__law_right K mg)) (T : Txt K mg) : FnOk P w K mg base (CXE P w) 7 f fd ["script"] (spLaw K) := by
  refine F.okX sc_law (fun vs H Q E h => ?_) (fun cdv A outer s H vs Q E hr h => ?_)
  · obtain ⟨a, ns, rfl, _⟩ := h; rfl
  obtain ⟨sc, ss, rfl, hsc, hss, k1⟩ := h
  refine ⟨_, (pss_cons (ps_nox (ps_for PassesOwn.never rfl (pi_range1 rfl T.b_range (pa_cons (pe_callB (call_max2 rfl) rfl T.b_max bt_max (pa_cons pe_int (pa_cons (pe_callB (call_min2 rfl) rfl T.b_min bt_min (pa_cons (pe_callB (call_lenK (K := K) rfl) rfl T.b_len PySem.boot_len (pa_cons (pv 0) pa_nil)) (pa_cons pe_int pa_nil))) pa_nil))) pa_nil)) (pg_name (i := 1) sc_law.nd rfl (Or.inl rfl)) (pss_cons (ps_set (i := 2) sc_law.nd rfl (Or.inr rfl) (pe_callF G__law_deal (hr.mono (by decide)) rfl passE (pa_cons (pv 0) (pa_cons (pv 1) pa_nil))))
      (pss_cons (ps_set (i := 3) sc_law.nd rfl (Or.inl rfl) (pe_lst (pa_cons (pe_callF G__law_rows (hr.mono (by decide)) rfl passE (pa_cons (pv 2) pa_nil)) (pa_cons (pe_callF G__law_rows (hr.mono (by decide)) rfl passE (pa_cons (pv 2) pa_nil)) pa_nil))))
      (pss_cons (ps_setCN (i := 4) ["rows", "pot"] [none, some 2] sc_law.nd rfl (Or.inl rfl) rfl rfl rfl (pi_list (pv 3)) (fun _ _ _ _ _ => (pg_name (i := 0) (show (["rows", "pot"] : List Str).Nodup from by decide +kernel) rfl (Or.inl rfl))) (fun _ _ _ _ _ => pifs_nil) (fun _ _ _ _ _ => (pe_compN ["row", "pot"] [none, some 1] rfl rfl rfl (pi_listK (K := K) rfl (pv 0)) (fun _ _ _ _ _ => (pg_name (i := 0) (show (["row", "pot"] : List Str).Nodup from by decide +kernel) rfl (Or.inl rfl))) (fun _ _ _ _ _ => pifs_nil) (fun _ _ _ _ _ => (pe_callF G__law_either (hr.mono (by decide)) rfl passE (pa_cons (pv 1) (pa_cons (pv 0) pa_nil)))) only_name)) only_name)
      (pss_cons (ps_set (i := 5) sc_law.nd rfl (Or.inl rfl) (pe_lst (pa_cons (pe_makeF (mg := mg) rfl GI_Watch (hr.mono (by decide)) rfl passE (pa_cons (pe_ix ix_list (pv 4) pe_int (fun _ _ => rfl)) pa_nil)) (pa_cons (pe_makeF (mg := mg) rfl GI_Watch (hr.mono (by decide)) rfl passE (pa_cons (pe_callTy (call_tupK (K := K) rfl) rfl T.b_tuple bt_tuple (pa_cons (pe_ix ix_list (pv 4) pe_int (fun _ _ => rfl)) pa_nil)) pa_nil)) pa_nil))))
      (pss_cons (ps_nox (ps_for PassesOwn.never rfl (pi_list (pv 4)) (pg_name (i := 6) sc_law.nd rfl (Or.inl rfl)) (pss_cons (ps_nox (ps_for PassesOwn.never rfl (pi_list (pv 6)) (pg_name (i := 7) sc_law.nd rfl (Or.inl rfl)) (pss_one (ps_if (pt_val (pe_callB (call_isiK (K := K) rfl) rfl T.b_isinstance bt_isinstance (pa_cons (pv 7) (pa_cons (pe_bltn (v := .ty "list") rfl T.b_list bt_list rfl) pa_nil)))) (pss_one (ps_expr (pe_bm0 PySem.F.plainAttrs_list PySem.F.slot_list_clear PySem.F.type_list_clear mt_clear (pv 7)))) pss_nil))))
      (pss_one (ps_expr (pe_bm PySem.F.plainAttrs_list PySem.F.slot_list_append PySem.F.type_list_append mt_append (pv 6) (pa_cons (pe_lst (pa_cons pe_int pa_nil)) pa_nil)))))))
      (pss_cons (ps_setCN (i := 8) ["rows", "pot"] [none, some 2] sc_law.nd rfl (Or.inl rfl) rfl rfl rfl (pi_list (pv 3)) (fun _ _ _ _ _ => (pg_name (i := 0) (show (["rows", "pot"] : List Str).Nodup from by decide +kernel) rfl (Or.inl rfl))) (fun _ _ _ _ _ => pifs_nil) (fun _ _ _ _ _ => (pe_callF G__law_stream (hr.mono (by decide)) rfl passE (pa_cons (pv 1) (pa_cons (pv 0) pa_nil)))) only_name)
      (pss_cons (ps_setCN (i := 9) ["rows"] [none] sc_law.nd rfl (Or.inl rfl) rfl rfl rfl (pi_list (pv 3)) (fun _ _ _ _ _ => (pg_name (i := 0) (show (["rows"] : List Str).Nodup from by decide +kernel) rfl (Or.inl rfl))) (fun _ _ _ _ _ => pifs_nil) (fun _ _ _ _ _ => (pe_callF G__law_beginnings (hr.mono (by decide)) rfl passE (pa_cons (pv 0) pa_nil))) only_name)
      (pss_cons (ps_if (PW.pt (pw_or (pt_cmpR (op_neD (K := K) rfl hr) (pe_compN ["watch"] [none] rfl rfl rfl (pi_list (pv 5)) (fun _ _ _ _ _ => (pg_name (i := 0) (show (["watch"] : List Str).Nodup from by decide +kernel) rfl (Or.inl rfl))) (fun _ _ _ _ _ => pifs_nil) (fun _ _ _ _ _ => (pe_methF0 (mg := mg) rfl GM_Watch_reach_now (hr.mono (by decide)) passE (pv 0))) only_name) (pe_lst (pa_cons pe_int (pa_cons pe_int pa_nil))) (nomark _)) (pw_or1 (pt_cmpR (op_neD (K := K) rfl hr) (pe_compN ["watch"] [none] rfl rfl rfl (pi_list (pv 5)) (fun _ _ _ _ _ => (pg_name (i := 0) (show (["watch"] : List Str).Nodup from by decide +kernel) rfl (Or.inl rfl))) (fun _ _ _ _ _ => pifs_nil) (fun _ _ _ _ _ => (pe_methF0 (mg := mg) rfl GM_Watch_how_many (hr.mono (by decide)) passE (pv 0))) only_name) (pe_lst (pa_cons pe_int (pa_cons pe_int pa_nil))) (nomark _))))) (pss_one (ps_ret pe_bl)) pss_nil)
      (pss_one (ps_nox (ps_for PassesOwn.never rfl (pi_range1 rfl T.b_range (pa_cons (pe_callB (call_max2 rfl) rfl T.b_max bt_max (pa_cons (pe_callB (call_lenK (K := K) rfl) rfl T.b_len PySem.boot_len (pa_cons (pe_ix ix_list (pv 8) pe_int (fun _ _ => rfl)) pa_nil)) (pa_cons (pe_callB (call_lenK (K := K) rfl) rfl T.b_len PySem.boot_len (pa_cons (pe_ix ix_list (pv 8) pe_int (fun _ _ => rfl)) pa_nil)) pa_nil))) pa_nil)) (pg_name (i := 10) sc_law.nd rfl (Or.inl rfl)) (pss_one (ps_nox (ps_for PassesOwn.never rfl (pi_range1 rfl T.b_range (pa_cons pe_int pa_nil)) (pg_name (i := 11) sc_law.nd rfl (Or.inl rfl)) (pss_one (ps_if (pt_cmpR op_lt (pv 10) (pe_callB (call_lenK (K := K) rfl) rfl T.b_len PySem.boot_len (pa_cons (pe_ix ix_list (pv 8) (pv 11) (fun _ _ => rfl)) pa_nil)) (nomark _)) (pss_cons (ps_set (i := 12) sc_law.nd rfl (Or.inl rfl) (pe_methF (mg := mg) rfl GM_Watch_give (hr.mono (by decide)) passE (pe_ix ix_list (pv 5) (pv 11) (fun _ _ => rfl)) (pa_cons (pe_ix ix_list (pe_ix ix_list (pv 8) (pv 11) (fun _ _ => rfl)) (pv 10) (fun _ _ => rfl)) pa_nil)))
      (pss_one (ps_if (pt_not (pt_val (pe_callF G__law_right (hr.mono (by decide)) rfl passE (pa_cons (pe_ix ix_list (pv 5) (pv 11) (fun _ _ => rfl)) (pa_cons (pe_ix ix_list (pv 9) (pv 11) (fun _ _ => rfl)) (pa_cons (pe_slice sl_list (pe_ix ix_list (pv 8) (pv 11) (fun _ _ => rfl)) po_none (po_some (pe_op op_add (pv 10) pe_int))) (pa_cons (pv 12) pa_nil))))))) (pss_one (ps_ret pe_bl)) pss_nil))) pss_nil))))))))))))))))))
      (pss_one (ps_ret pe_bl))), ?_⟩
  walk_at "rd"
  have el : (ss.map V.int).length = ss.length := List.length_map ..
  refine ⟨_, .inl hsc, by split <;> (try split) <;> omega, by split <;> (try split) <;> omega, ?_⟩
  rw [el]
  obtain ⟨nn, hnn, nn1⟩ : ∃ nn : Nat, (if (if (2 : Int) < (ss.length : Int) then (2 : Int) else (ss.length : Int)) > 1 then (if (2 : Int) < (ss.length : Int) then (2 : Int) else (ss.length : Int)) else 1).toNat = nn ∧ nn ≤ 3 := ⟨_, rfl, by split <;> (try split) <;> omega⟩
  rw [hnn]
  have wn : ∀ (d b g z : Addr) (m : Str), ¬ m = "sizes" → ¬ m = "given" → ¬ m = "borders" → ¬ m = "distances" → (wF d b g z).lookup m = none := fun d b g z m h1 h2 h3 h4 => wF_no h1 h2 h3 h4
  refine for_range (fun i σ Hx => ∃ v1 v2 v3 v4 v5 v6 v7 v8 v9 v10 v11 v12, σ = [some (.ref sc), v1, v2, v3, v4, v5, v6, v7, v8, v9, v10, v11, v12] ∧ Same H Hx) ⟨_, _, _, _, _, _, _, _, _, _, _, _, rfl, Same.refl H⟩ ?_ ?_
  · rintro i σ H' hi ⟨v1, v2, v3, v4, v5, v6, v7, v8, v9, v10, v11, v12, rfl, hs⟩
    generalize hk : (0 : Int) + (i : Int) = kk
    have hk0 : 0 ≤ kk ∧ kk ≤ 100 := by omega
    refine seqR (fun σ Hx => ∃ p, σ = [some (.ref sc), some (.int kk), some (.ref p), v3, v4, v5, v6, v7, v8, v9, v10, v11, v12] ∧ H' p = none ∧ PotAt Hx p ∧ Same H' Hx) (fun R hR => ?_) ?_
    · walk_at "rd"
      exact ⟨sc, ss, kk, rfl, hs.seq hsc, hk0.1, hk0.2, fun p H1 hp s1 P1 => hR _ _ ⟨p, rfl, hp, P1, s1⟩⟩
    rintro σ H1 ⟨p, rfl, zp, P1, s1⟩
    refine seqR (fun σ Hx => ∃ (bo q1 q2 : Addr) (R1 R2 : List (List Int)), σ = [some (.ref sc), some (.int kk), some (.ref p), some (.ref bo), v4, v5, v6, v7, v8, v9, v10, v11, v12] ∧ Few R1 12 ∧ Few R2 12 ∧ (bo ≠ p ∧ q1 ≠ p ∧ q2 ≠ p) ∧ Hx bo = some (.lst [V.ref q1, V.ref q2]) ∧ RowsX (fun a => a ≠ p) Hx q1 R1 ∧ RowsX (fun a => a ≠ p) Hx q2 R2 ∧ PotAt Hx p ∧ Same H' Hx) (fun R hR => ?_) ?_
    · walk_at "rd"
      refine ⟨p, rfl, P1, fun q1 R1 H2 _ n1 hF1 hR1 P2 e2 => ⟨p, rfl, P2, fun q2 R2 H3 _ n2 hF2 hR2 P3 e3 => ⟨by decide, fun bo hb => ?_⟩⟩⟩
      have gb := (Same.refl H3).upd (o := .lst [V.ref q1, V.ref q2]) hb
      exact hR _ _ ⟨bo, q1, q2, R1, R2, rfl, hF1, hF2, ⟨P3.ne hb, n1, n2⟩, upd_same, (hR1.pot n1 e3).same gb, hR2.same gb, P3.same gb, ((s1.exc zp e2).exc zp e3).trans gb⟩
    clear P1 s1 H1
    rintro σ H2 ⟨bo, q1, q2, R1, R2, rfl, hF1, hF2, ⟨nbp, n1p, n2p⟩, hbo, hR1, hR2, P2, s2⟩
    have BR : ∀ i (h : i < 2), RowsX (fun a => a ≠ p) H2 ([q1, q2][i]) ([R1, R2][i]) ∧ Few ([R1, R2][i]) 12 ∧ [q1, q2][i] ≠ p := fun i h => by
      rcases (by omega : i = 0 ∨ i = 1) with rfl | rfl
      · exact ⟨hR1, hF1, n1p⟩
      · exact ⟨hR2, hF2, n2p⟩
    refine seqR (fun σ Hx => ∃ (hd : Addr) (hs : List Addr) (us : Nat → List Addr), σ = [some (.ref sc), some (.int kk), some (.ref p), some (.ref bo), some (.ref hd), v5, v6, v7, v8, v9, v10, v11, v12] ∧ Hx hd = some (.lst (hs.map V.ref)) ∧ H2 hd = none ∧ hs.length = 2 ∧ (∀ i (h1 : i < hs.length) (h2 : i < 2), HandAt Hx hs[i] (us i) ([R1, R2][i]) ∧ ∀ a ∈ us i, H2 a = none) ∧ (∀ a ∈ hs, H2 a = none) ∧ hs.Pairwise (· ≠ ·) ∧ (∀ a ∈ hs, a ≠ hd) ∧ PotAt Hx p ∧ Exc p H2 Hx) (fun R hR => ?_) ?_
    · walk_at "rd"
      refine ⟨⟨_, SqL.of hbo⟩, comp_inv (n := 2) (fun k acc Hz => BothI H2 Hz p [R1, R2] k acc) (by decide) ⟨[], fun _ => [], rfl, rfl, (fun j h => absurd h (by simp)), (fun a h => nomatch h), .nil, P2, (Same.refl H2).toExc⟩ (fun k acc Hz ⟨_, _, _, _, _, _, _, _, e⟩ hk => ⟨_, _, SqL.of (e _ _ nbp hbo), List.getElem?_eq_getElem (by simpa using hk)⟩) (fun acc Hz ⟨_, _, _, _, _, _, _, _, e⟩ => ⟨_, SqL.of (e _ _ nbp hbo), by simp⟩) ?_ ?_⟩
      · rintro k v acc Hz Hw hk hlk ⟨hs, us, rfl, hhl, hH, hhn, hpw, Pz, ez⟩ ⟨rfl, hv⟩
        have hv := hv _ (SqL.of (ez _ _ nbp hbo))
        obtain ⟨hRk, hFk, nqk⟩ := BR k hk
        have ev : v = V.ref ([q1, q2][k]) := by
          rcases (by omega : k = 0 ∨ k = 1) with rfl | rfl
          · exact (Option.some.inj hv).symm
          · exact (Option.some.inj hv).symm
        subst ev
        obtain ⟨as, b1, b2, b3⟩ := id hRk
        have hkl : k < [R1, R2].length := hk
        have npH : ∀ a, H2 a = none → a ≠ p := fun a ha => P2.ne ha
        obtain ⟨RR, hRR⟩ : ∃ RR, [R1, R2][k] = RR := ⟨_, rfl⟩
        simp only [hRR] at hRk hFk b2 b3
        generalize ([q1, q2][k]) = qk at hRk nqk b1
        have eA : (as.map V.ref).length = as.length := List.length_map ..
        have hF12 := hFk.2.1
        walk_at "rd"
        refine ⟨⟨_, SqL.of (ez _ _ nqk b1)⟩, comp_inv (n := RR.length) (fun k acc Hy => HandI H2 Hw p RR k acc Hy) (Nat.lt_of_le_of_lt (show _ ≤ 1000 by omega) (by decide)) ⟨[], rfl, rfl, (fun j h => absurd h (by simp)), (fun a h => nomatch h), Pz, (Same.refl _).toExc⟩ (fun k acc Hy ⟨_, _, _, _, _, _, e⟩ hk => ⟨_, _, SqL.of ((ez.trans e) _ _ nqk b1), List.getElem?_eq_getElem (by rw [eA, b2]; exact hk)⟩) (fun acc Hy ⟨_, _, _, _, _, _, e⟩ => ⟨_, SqL.of ((ez.trans e) _ _ nqk b1), by rw [eA, b2]; exact Nat.le_refl _⟩) ?_ ?_⟩
        · rintro m v acc Hy Hy' hm hlm ⟨vs, rfl, hvl, hV, hvn, Py, ey⟩ ⟨rfl, hv⟩
          have i1 : m < as.length := by omega
          have hv := hv _ (SqL.of ((ez.trans ey) _ _ nqk b1))
          rw [List.getElem?_map, List.getElem?_eq_getElem i1] at hv
          cases hv
          obtain ⟨c0, c1⟩ := b3 m i1 hm
          have hbd := hFk.2.2 _ (List.getElem_mem hm)
          walk_at "rd"
          refine ⟨p, as[m], RR[m], rfl, Py, c0, (ez.trans ey) _ _ c0 c1, by omega, fun u H4 zu hu P4 e4 => CA.take hm hlm ⟨vs ++ [u], by simp, by simp [hvl], fun j j1 j2 => ?_, fun a ha => ?_, P4, ey.trans e4⟩⟩
          · by_cases e : j < vs.length
            · rw [List.getElem_append_left e]
              have nu := npH _ (hvn _ (List.getElem_mem e))
              exact (hV j e j2).imp (e4 _ _ nu) (e4 _ _ nu)
            · have ej : j = m := by simp at j1; omega
              subst ej
              have e2 : (vs ++ [u])[j]'j1 = u := by simp [← hvl]
              rw [e2]; exact hu
          · rcases List.mem_append.mp ha with z | z
            · exact hvn a z
            · rw [List.mem_singleton.mp z]; exact (ez.trans ey).free (Py.ne zu) zu
        · rintro hh acc Hy ⟨vs, rfl, hvl, hV, hvn, Py, ey⟩ _ hhn2
          have gh := (Same.refl Hy).upd (o := .lst (vs.map V.ref)) hhn2
          refine CA.take hk hlk ⟨hs ++ [hh], fun j => if j = k then vs else us j, by simp, by simp [hhl], fun j j1 j2 => ?_, fun a ha => ?_, List.pairwise_append.mpr ⟨hpw, .cons (fun a h => nomatch h) .nil, fun a ha b hb => ?_⟩, Py.same gh, (ez.trans ey).same gh⟩
          · by_cases e : j < hs.length
            · have nj : ¬ j = k := by rw [← hhl]; omega
              simp only [if_neg nj]
              rw [List.getElem_append_left e]
              obtain ⟨a1, a2⟩ := hH j e j2
              exact ⟨(a1.exc ey (npH _ (hhn _ (List.getElem_mem e))) (fun a ha => npH _ (a2 a ha))).same gh, a2⟩
            · have ej : j = k := by simp at j1; omega
              subst ej
              have e2 : (hs ++ [hh])[j]'j1 = hh := by simp [← hhl]
              rw [e2]
              simp only [if_true]
              subst hRR
              exact ⟨⟨upd_same, hvl, fun m m1 m2 => (hV m m1 m2).imp (gh _ _) (gh _ _)⟩, hvn⟩
          · rcases List.mem_append.mp ha with z | z
            · exact hhn a z
            · rw [List.mem_singleton.mp z]; exact (ez.trans ey).free (Py.ne hhn2) hhn2
          · rw [List.mem_singleton.mp hb]
            obtain ⟨j, hj, rfl⟩ := List.mem_iff_getElem.mp ha
            have h0 := (hH j hj (by show j < 2; omega)).1.1
            exact ne_of_none (ey _ _ (npH _ (hhn _ ha)) h0) hhn2
      · rintro hd acc Hz ⟨hs, us, rfl, hhl, hH, hhn, hpw, Pz, ez⟩ _ hdn
        have gd := (Same.refl Hz).upd (o := .lst (hs.map V.ref)) hdn
        exact hR _ _ ⟨hd, hs, us, rfl, upd_same, ez.free (Pz.ne hdn) hdn, hhl, fun i h1 h2 => ⟨(hH i h1 h2).1.same gd, (hH i h1 h2).2⟩, hhn, hpw, (fun a ha => by
          obtain ⟨j, hj, rfl⟩ := List.mem_iff_getElem.mp ha
          exact ne_of_none (hH j hj (by show j < 2; omega)).1.1 hdn), Pz.same gd, ez.same gd⟩
    rintro σ H3 ⟨hd, hs', us, rfl, hhd, zhd, hhl, hH, hhn, hpw, hnd, P3, e3⟩
    obtain ⟨h1, h2, rfl⟩ : ∃ h1 h2, hs' = [h1, h2] := by
      match hs', hhl with
      | [a, b], _ => exact ⟨a, b, rfl⟩
    obtain ⟨hA1, zu1⟩ := hH 0 (by simp) (by decide)
    obtain ⟨hA2, zu2⟩ := hH 1 (by simp) (by decide)
    have hA1 : HandAt H3 h1 (us 0) R1 := hA1
    have hA2 : HandAt H3 h2 (us 1) R2 := hA2
    have zh1 : H2 h1 = none := hhn _ (by simp)
    have zh2 : H2 h2 = none := hhn _ (by simp)
    have n12 : h1 ≠ h2 := by simpa using hpw
    have n1d : h1 ≠ hd := hnd _ (by simp)
    have n2d : h2 ≠ hd := hnd _ (by simp)
    refine seqR (fun σ Hx => ∃ (wl x1 x2 d1 b1 g1 z1 d2 b2 g2 z2 : Addr) (S1 S2 : List Nat), σ = [some (.ref sc), some (.int kk), some (.ref p), some (.ref bo), some (.ref hd), some (.ref wl), v6, v7, v8, v9, v10, v11, v12] ∧ Hx wl = some (.lst [V.ref x1, V.ref x2]) ∧ H3 wl = none ∧ WatchAt (fun a => H3 a = none ∧ a ≠ g2 ∧ a ≠ z2) mg Hx x1 d1 b1 g1 z1 R1 [] S1 ∧ WatchAt (fun a => H3 a = none ∧ a ≠ g1 ∧ a ≠ z1) mg Hx x2 d2 b2 g2 z2 R2 [] S2 ∧ (H3 g1 = none ∧ H3 z1 = none ∧ H3 g2 = none ∧ H3 z2 = none ∧ H3 x1 = none ∧ H3 x2 = none) ∧ (g1 ≠ g2 ∧ g1 ≠ z2 ∧ z1 ≠ g2 ∧ z1 ≠ z2 ∧ wl ≠ g1 ∧ wl ≠ z1 ∧ wl ≠ g2 ∧ wl ≠ z2) ∧ Same H3 Hx) (fun R hR => ?_) ?_
    · walk_at "rd"
      refine ⟨_, SqL.of hhd, _, rfl, fun x1 dx1 nx1 ndx1 nxd1 => ?_⟩
      have s0 := ((Same.refl H3).upd (o := .own x1) ndx1).upd' (o := .ins (cW mg) dx1 []) (p := x1) (by rw [upd_ne nxd1.symm]; exact nx1)
      have hQ1 : RowsQ H3 h1 R1 := ⟨false, us 0, hA1.1, hA1.2.1, hA1.2.2⟩
      refine ⟨x1, dx1, h1, fun a => H3 a = none, R1, rfl, upd_same, hQ1.same s0, hF1, fun a ha => s0.free ha, fun d1 b1 g1 z1 H5 hW1 zg1 zz1 e5 => ⟨rfl, ?_⟩⟩
      have s5 : Same H3 H5 := fun a o e => e5 a o (ne_of_none e nx1) (s0 _ _ e)
      refine ⟨_, SqL.of (s5 _ _ hhd), _, rfl, h2, rfl, _, .inl ⟨SqL.of (s5 _ _ hA2.1), fun tu ztu x2 dx2 nx2 ndx2 nxd2 => ?_⟩⟩
      have g6 := (Same.refl H5).upd (o := .tup ((us 1).map V.ref)) ztu
      have htu := upd_same (H := H5) (a := tu) (o := .tup ((us 1).map V.ref))
      generalize upd H5 tu (.tup ((us 1).map V.ref)) = H6 at g6 htu nx2 ndx2 ⊢
      have s56 := s5.trans g6
      have s7 := ((Same.refl H6).upd (o := .own x2) ndx2).upd' (o := .ins (cW mg) dx2 []) (p := x2) (by rw [upd_ne nxd2.symm]; exact nx2)
      have hQ2 : RowsQ H6 tu R2 := ⟨true, us 1, htu, hA2.2.1, fun i i1 i2 => (hA2.2.2 i i1 i2).imp (s56 _ _) (s56 _ _)⟩
      refine ⟨x2, dx2, tu, fun a => H6 a = none, R2, rfl, upd_same, hQ2.same s7, hF2, fun a ha => s7.free ha, fun d2 b2 g2 z2 H8 hW2 zg2 zz2 e8 => ⟨rfl, by decide, fun wl zwl => hR _ _ ?_⟩⟩
      have s8 : Same H6 H8 := fun a o e => e8 a o (ne_of_none e nx2) (s7 _ _ e)
      have g9 := (Same.refl H8).upd (o := .lst [V.ref x1, V.ref x2]) zwl
      have zg2' : H6 g2 = none := s7.free zg2
      have zz2' : H6 z2 = none := s7.free zz2
      obtain ⟨dxa, daa, baa, zaa, zla, w1, w2, w3, w4, w5, w6, _⟩ := id hW1
      obtain ⟨dxb, dab, bab, zab, zlb, y1, y2, y3, y4, y5, y6, _⟩ := id hW2
      have u5 := g6 _ _ w5
      have u6 := g6 _ _ w6
      have u1 := g6 _ _ w1
      refine ⟨wl, x1, x2, d1, b1, g1, z1, d2, b2, g2, z2, _, _, rfl, upd_same, (s56.trans s8).free zwl, ((hW1.same g6).mono fun a xs n e => ⟨n, ne_of_none e zg2', ne_of_none e zz2'⟩).same (s8.trans g9), (hW2.mono fun a xs n e => ⟨s56.free n, (fun z => by rw [z, u5] at n; cases n), (fun z => by rw [z, u6] at n; cases n)⟩).same g9, ⟨s0.free zg1, s0.free zz1, s56.free zg2', s56.free zz2', nx1, s56.free nx2⟩, ⟨ne_of_none u5 zg2', ne_of_none u5 zz2', ne_of_none u6 zg2', ne_of_none u6 zz2', (ne_of_none (s8 _ _ u5) zwl).symm, (ne_of_none (s8 _ _ u6) zwl).symm, (ne_of_none y5 zwl).symm, (ne_of_none y6 zwl).symm⟩, (s56.trans s8).trans g9⟩
    rintro σ H4 ⟨wl, x1, x2, d1, b1, g1, z1, d2, b2, g2, z2, S1, S2, rfl, hwl, zwl, hW1, hW2, fr, ap, s4⟩
    refine seqR (fun σ Hx => ∃ v6 v7 : Option V, σ = [some (.ref sc), some (.int kk), some (.ref p), some (.ref bo), some (.ref hd), some (.ref wl), v6, v7, v8, v9, v10, v11, v12] ∧ (∀ a o, H3 a = none ∨ H2 a ≠ none → H4 a = some o → Hx a = some o)) (fun R hR => ?_) ?_
    · walk_at "rd"
      have hne1 : us 0 ≠ [] := fun z => by have := hA1.2.1; rw [z] at this; have := hF1.1; simp at *; omega
      have hne2 : us 1 ≠ [] := fun z => by have := hA2.2.1; rw [z] at this; have := hF2.1; simp at *; omega
      have kinds : ∀ w, w < 2 → ∀ a ∈ us w, ((∃ xs, H4 a = some (.lst xs)) ∨ ∃ xs, H4 a = some (.tup xs)) ∧ a ≠ h1 ∧ a ≠ h2 ∧ a ≠ hd ∧ H3 a ≠ none ∧ H2 a = none := fun w hw a ha => by
        obtain ⟨i, hi, rfl⟩ := List.mem_iff_getElem.mp ha
        rcases (by omega : w = 0 ∨ w = 1) with rfl | rfl
        · have hi2 : i < R1.length := by rw [← hA1.2.1]; exact hi
          have hb := hF1.2.2 _ (List.getElem_mem hi2)
          have hh := hA1.2.2 i hi hi2
          refine ⟨hh.imp (fun e => ⟨_, s4 _ _ e⟩) (fun e => ⟨_, s4 _ _ e⟩), ?_, ?_, ?_, ?_, zu1 _ (List.getElem_mem hi)⟩
          · exact fun z => HandAt.no hA1.1 hne1 (z ▸ hh) hb.1
          · exact fun z => HandAt.no hA2.1 hne2 (z ▸ hh) hb.1
          · exact fun z => HandAt.no hhd (by simp) (z ▸ hh) hb.1
          · rcases hh with e | e <;> rw [e] <;> simp
        · have hi2 : i < R2.length := by rw [← hA2.2.1]; exact hi
          have hb := hF2.2.2 _ (List.getElem_mem hi2)
          have hh := hA2.2.2 i hi hi2
          refine ⟨hh.imp (fun e => ⟨_, s4 _ _ e⟩) (fun e => ⟨_, s4 _ _ e⟩), ?_, ?_, ?_, ?_, zu2 _ (List.getElem_mem hi)⟩
          · exact fun z => HandAt.no hA1.1 hne1 (z ▸ hh) hb.1
          · exact fun z => HandAt.no hA2.1 hne2 (z ▸ hh) hb.1
          · exact fun z => HandAt.no hhd (by simp) (z ▸ hh) hb.1
          · rcases hh with e | e <;> rw [e] <;> simp
      have hin : ∀ w, w < 2 → hsel h1 h2 w ≠ hd ∧ H3 (hsel h1 h2 w) ≠ none ∧ H2 (hsel h1 h2 w) = none ∧ H4 (hsel h1 h2 w) = some (.lst ((us w).map V.ref)) ∧ ∀ v, v < 2 → v ≠ w → hsel h1 h2 v ≠ hsel h1 h2 w := fun w hw => by
        rcases (by omega : w = 0 ∨ w = 1) with rfl | rfl
        · refine ⟨n1d, (by show H3 h1 ≠ none; rw [hA1.1]; simp), zh1, s4 _ _ hA1.1, fun v hv nv => ?_⟩
          obtain rfl : v = 1 := by omega
          exact n12.symm
        · refine ⟨n2d, (by show H3 h2 ≠ none; rw [hA2.1]; simp), zh2, s4 _ _ hA2.1, fun v hv nv => ?_⟩
          obtain rfl : v = 0 := by omega
          exact n12
      refine ⟨⟨_, SqL.of (s4 _ _ hhd)⟩, for_list (K := K) (a := hd) (xs := [V.ref h1, V.ref h2]) (fun i σ Hx => ∃ v6 v7 : Option V, σ = [some (.ref sc), some (.int kk), some (.ref p), some (.ref bo), some (.ref hd), some (.ref wl), v6, v7, v8, v9, v10, v11, v12] ∧ MutI H2 H3 H4 hd h1 h2 us i Hx) ⟨_, _, rfl, ⟨fun a o _ e => e, fun w _ hw => (hin w hw).2.2.2.1, fun w hw a ha => (kinds w hw a ha).1⟩⟩ (fun i σ Hx _ ⟨_, _, _, h⟩ => SqL.of (h.1 _ _ (.inr (.inr rfl)) (s4 _ _ hhd))) ?_ ?_⟩
      · rintro w v σ Hx hw ⟨v6, v7, rfl, hI⟩
        have hw2 : w < 2 := (List.getElem?_eq_some_iff.mp hw).1
        have ev : v = V.ref (hsel h1 h2 w) := by
          rcases (by omega : w = 0 ∨ w = 1) with rfl | rfl
          · exact (Option.some.inj hw).symm
          · exact (Option.some.inj hw).symm
        subst ev
        obtain ⟨m1, m2, m3, m4, m5⟩ := hin w hw2
        show tSeq _ _ _ _ _
        refine seqR (fun σ Hx => ∃ v7 : Option V, σ = [some (.ref sc), some (.int kk), some (.ref p), some (.ref bo), some (.ref hd), some (.ref wl), some (.ref (hsel h1 h2 w)), v7, v8, v9, v10, v11, v12] ∧ MutI H2 H3 H4 hd h1 h2 us w Hx) (fun R2 hR2 => ?_) ?_
        · walk_at "rd"
          refine ⟨⟨_, SqL.of (hI.2.1 w (Nat.le_refl _) hw2)⟩, for_list (K := K) (a := hsel h1 h2 w) (xs := (us w).map V.ref) (fun i σ Hx => ∃ v7 : Option V, σ = [some (.ref sc), some (.int kk), some (.ref p), some (.ref bo), some (.ref hd), some (.ref wl), some (.ref (hsel h1 h2 w)), v7, v8, v9, v10, v11, v12] ∧ MutI H2 H3 H4 hd h1 h2 us w Hx) ⟨_, rfl, hI⟩ (fun i σ Hx _ ⟨_, _, h⟩ => SqL.of (h.2.1 w (Nat.le_refl _) hw2)) ?_ ?_⟩
          · clear hI
            rintro m v σ Hx hm ⟨v7, rfl, hI⟩
            obtain ⟨a, ha, rfl⟩ : ∃ a, a ∈ us w ∧ v = V.ref a := by
              obtain ⟨a, ha, rfl⟩ := List.mem_map.mp (List.mem_of_getElem? hm)
              exact ⟨a, ha, rfl⟩
            obtain ⟨_, k1', k2', k3', k4', k5'⟩ := kinds w hw2 a ha
            walk_at "rd"
            rcases hI.2.2 w hw2 a ha with ⟨xs, hx⟩ | ⟨xs, hx⟩
            · refine ⟨true, .inl ⟨_, .lst hx, kit_self⟩, ite2 (fun _ => ⟨tyV_list hx, _, _, rfl, rfl, hx, ?_⟩) fun z => absurd rfl z⟩
              refine ⟨fun b o hb e => ?_, fun v hv1 hv2 => ?_, fun v hv b hb => ?_⟩
              · rw [upd_ne (fun z => by subst z; rcases hb with y | y | y; exact k4' y; exact y k5'; exact k3' y)]; exact hI.1 b o hb e
              · rw [upd_ne (fun z => by rcases (by omega : v = 0 ∨ v = 1) with rfl | rfl; exact k1' z.symm; exact k2' z.symm)]; exact hI.2.1 v hv1 hv2
              · by_cases z : b = a
                · rw [z]; exact .inl ⟨_, upd_same⟩
                · rw [upd_ne z]; exact hI.2.2 v hv b hb
            · exact ⟨false, .inl ⟨_, .tup hx, by with_unfolding_all rfl⟩, ite2 (fun z => nomatch z) fun _ => hI⟩
          · rintro σ Hx ⟨v7, rfl, hI⟩
            exact hR2 _ _ ⟨v7, rfl, hI⟩
        clear hI
        rintro σ Hx ⟨v7, rfl, hI⟩
        have hh := hI.2.1 w (Nat.le_refl _) hw2
        walk_at "rd"
        refine ⟨tyV_list hh, by decide, fun u hu => ?_⟩
        have gu := (Same.refl Hx).upd (o := .lst [V.int 1]) hu
        refine ⟨_, gu _ _ hh, ?_, ?_⟩
        · refine Nat.lt_of_le_of_lt (show _ ≤ 1000 from ?_) (by decide)
          rw [List.length_map]
          rcases (by omega : w = 0 ∨ w = 1) with rfl | rfl
          · rw [hA1.2.1]; have := hF1.2.1; omega
          · rw [hA2.2.1]; have := hF2.2.1; omega
        · refine ⟨fun b o hb e => ?_, fun v hv1 hv2 => ?_, fun v hv b hb => ?_⟩
          · rw [upd_ne (fun z => by subst z; rcases hb with y | y | y; exact m2 y; exact y m3; exact m1 y)]; exact gu _ _ (hI.1 b o hb e)
          · rw [upd_ne (m5 v hv2 (by omega))]; exact gu _ _ (hI.2.1 v (by omega) hv2)
          · have nb : b ≠ hsel h1 h2 w := by
              obtain ⟨_, k1', k2', _⟩ := kinds v hv b hb
              rcases (by omega : w = 0 ∨ w = 1) with rfl | rfl
              · exact k1'
              · exact k2'
            rw [upd_ne nb]
            exact (hI.2.2 v hv b hb).imp (fun ⟨xs, e⟩ => ⟨xs, gu _ _ e⟩) (fun ⟨xs, e⟩ => ⟨xs, gu _ _ e⟩)
      · rintro σ Hx ⟨v6, v7, rfl, hI⟩
        exact hR _ _ ⟨v6, v7, rfl, fun a o h e => hI.1 a o (h.imp id .inl) e⟩
    rintro σ H5 ⟨v6', v7', rfl, k5⟩
    have n3p : ∀ a, H3 a = none → a ≠ p := fun a ha => P3.ne ha
    have k5a : ∀ a o, H3 a = none → H4 a = some o → H5 a = some o := fun a o n e => k5 a o (.inl n) e
    have e25 : Exc p H2 H5 := fun a o n e => k5 a o (.inr (by rw [e]; simp)) (s4 _ _ (e3 _ _ n e))
    have P5 : PotAt H5 p := pot_at (P3.same s4) fun o e => k5 p o (.inr P2.some) e
    have hW1' : WatchAt (fun a => H3 a = none ∧ a ≠ g2 ∧ a ≠ z2) mg H5 x1 d1 b1 g1 z1 R1 [] S1 := hW1.keep (fun a o n e => k5a _ _ n.1 e) (fun C dx fs e => k5a _ _ fr.2.2.2.2.1 e) (fun o e => k5a _ _ fr.1 e) (fun o e => k5a _ _ fr.2.1 e)
    have hW2' : WatchAt (fun a => H3 a = none ∧ a ≠ g1 ∧ a ≠ z1) mg H5 x2 d2 b2 g2 z2 R2 [] S2 := hW2.keep (fun a o n e => k5a _ _ n.1 e) (fun C dx fs e => k5a _ _ fr.2.2.2.2.2 e) (fun o e => k5a _ _ fr.2.2.1 e) (fun o e => k5a _ _ fr.2.2.2.1 e)
    have hwl5 := k5a _ _ zwl hwl
    have hbo5 := e25 _ _ nbp hbo
    have BR5 : ∀ i (h : i < 2), RowsX (fun a => a ≠ p) H5 ([q1, q2][i]) ([R1, R2][i]) ∧ Few ([R1, R2][i]) 12 ∧ [q1, q2][i] ≠ p := fun i h => ⟨(BR i h).1.pot (BR i h).2.2 e25, (BR i h).2⟩
    have s5 : Same H' H5 := s2.exc zp e25
    have frH : H' g1 = none ∧ H' z1 = none ∧ H' g2 = none ∧ H' z2 = none := ⟨(s2.exc zp e3).free fr.1, (s2.exc zp e3).free fr.2.1, (s2.exc zp e3).free fr.2.2.1, (s2.exc zp e3).free fr.2.2.2.1⟩
    clear k5 k5a e25 hW1 hW2 hwl hbo BR s4 P2 P3 e3 hR1 hR2 hA1 hA2 hH hhd s2
    refine seqR (fun σ Hx => ∃ (sl : Addr) (sts : List Addr) (ms : Nat → List Int), σ = [some (.ref sc), some (.int kk), some (.ref p), some (.ref bo), some (.ref hd), some (.ref wl), v6', v7', some (.ref sl), v9, v10, v11, v12] ∧ Hx sl = some (.lst (sts.map V.ref)) ∧ H5 sl = none ∧ sts.length = 2 ∧ (∀ i (h1 : i < sts.length), (ms i).length ≤ 60 ∧ Hx sts[i] = some (.lst ((ms i).map V.int)) ∧ H5 sts[i] = none) ∧ PotAt Hx p ∧ Exc p H5 Hx) (fun R hR => ?_) ?_
    · walk_at "rd"
      refine ⟨⟨_, SqL.of hbo5⟩, comp_inv (n := 2) (fun k acc Hz => StrI H5 p k acc Hz) (by decide) ⟨[], fun _ => [], rfl, rfl, (fun j h => absurd h (by simp)), P5, (Same.refl H5).toExc⟩ (fun k acc Hz ⟨_, _, _, _, _, _, e⟩ hk => ⟨_, _, SqL.of (e _ _ nbp hbo5), List.getElem?_eq_getElem (by simpa using hk)⟩) (fun acc Hz ⟨_, _, _, _, _, _, e⟩ => ⟨_, SqL.of (e _ _ nbp hbo5), by simp⟩) ?_ ?_⟩
      · rintro k v acc Hz Hw hk hlk ⟨sts, ms, rfl, hsl, hS, Pz, ez⟩ ⟨rfl, hv⟩
        have hv := hv _ (SqL.of (ez _ _ nbp hbo5))
        obtain ⟨hRk, hFk, nqk⟩ := BR5 k hk
        have ev : v = V.ref ([q1, q2][k]) := by
          rcases (by omega : k = 0 ∨ k = 1) with rfl | rfl
          · exact (Option.some.inj hv).symm
          · exact (Option.some.inj hv).symm
        subst ev
        walk_at "rd"
        refine ⟨p, _, _, rfl, Pz, hRk.pot nqk ez, nqk, hFk, fun g gs H6 zg hgl hg P6 e6 => CA.take hk hlk ⟨sts ++ [g], fun j => if j = k then gs else ms j, by simp, by simp [hsl], fun j j1 => ?_, P6, ez.trans e6⟩⟩
        by_cases e : j < sts.length
        · have nj : ¬ j = k := by rw [← hsl]; omega
          simp only [if_neg nj]
          rw [List.getElem_append_left e]
          obtain ⟨a1, a2, a3⟩ := hS j e
          exact ⟨a1, e6 _ _ (P5.ne a3) a2, a3⟩
        · have ej : j = k := by simp at j1; omega
          subst ej
          have e2 : (sts ++ [g])[j]'j1 = g := by simp [← hsl]
          rw [e2]
          simp only [if_true]
          exact ⟨hgl, hg, ez.free (Pz.ne zg) zg⟩
      · rintro sl acc Hz ⟨sts, ms, rfl, hsl, hS, Pz, ez⟩ _ hn
        have gs := (Same.refl Hz).upd (o := .lst (sts.map V.ref)) hn
        exact hR _ _ ⟨sl, sts, ms, rfl, upd_same, ez.free (Pz.ne hn) hn, hsl, fun i h1 => ⟨(hS i h1).1, gs _ _ (hS i h1).2.1, (hS i h1).2.2⟩, Pz.same gs, ez.same gs⟩
    rintro σ H6 ⟨sl, sts, ms, rfl, hsl6, zsl, hstl, hST, P6, e6⟩
    refine seqR (fun σ Hx => ∃ (tl : Addr) (ts : List Addr), σ = [some (.ref sc), some (.int kk), some (.ref p), some (.ref bo), some (.ref hd), some (.ref wl), v6', v7', some (.ref sl), some (.ref tl), v10, v11, v12] ∧ Hx tl = some (.lst (ts.map V.ref)) ∧ H6 tl = none ∧ ts.length = 2 ∧ (∀ i (h1 : i < ts.length) (h2 : i < 2), TreesX (fun a => H6 a = none) Hx ts[i] ([R1, R2][i])) ∧ Same H6 Hx) (fun R hR => ?_) ?_
    · walk_at "rd"
      refine ⟨⟨_, SqL.of (e6 _ _ nbp hbo5)⟩, comp_inv (n := 2) (fun k acc Hz => TreI H6 [R1, R2] k acc Hz) (by decide) ⟨[], rfl, rfl, (fun j h => absurd h (by simp)), Same.refl H6⟩ (fun k acc Hz ⟨_, _, _, _, e⟩ hk => ⟨_, _, SqL.of (e _ _ (e6 _ _ nbp hbo5)), List.getElem?_eq_getElem (by simpa using hk)⟩) (fun acc Hz ⟨_, _, _, _, e⟩ => ⟨_, SqL.of (e _ _ (e6 _ _ nbp hbo5)), by simp⟩) ?_ ?_⟩
      · rintro k v acc Hz Hw hk hlk ⟨ts, rfl, htl, hT, sz⟩ ⟨rfl, hv⟩
        have hv := hv _ (SqL.of (sz _ _ (e6 _ _ nbp hbo5)))
        obtain ⟨hRk, hFk, nqk⟩ := BR5 k hk
        have ev : v = V.ref ([q1, q2][k]) := by
          rcases (by omega : k = 0 ∨ k = 1) with rfl | rfl
          · exact (Option.some.inj hv).symm
          · exact (Option.some.inj hv).symm
        subst ev
        walk_at "rd"
        refine ⟨_, _, fun a => H6 a = none, _, rfl, (hRk.pot nqk e6).same sz, hFk, fun a ha => sz.free ha, fun t H7 s7 hT7 => CA.take hk hlk ⟨ts ++ [t], by simp, by simp [htl], fun j j1 j2 => ?_, sz.trans s7⟩⟩
        by_cases e : j < ts.length
        · rw [List.getElem_append_left e]
          exact (hT j e j2).keep (fun a o _ e => s7 _ _ e) (fun a xs e => s7 _ _ e)
        · have ej : j = k := by simp at j1; omega
          subst ej
          have e2 : (ts ++ [t])[j]'j1 = t := by simp [← htl]
          rw [e2]
          exact hT7
      · rintro tl acc Hz ⟨ts, rfl, htl, hT, sz⟩ _ hn
        have gs := (Same.refl Hz).upd (o := .lst (ts.map V.ref)) hn
        exact hR _ _ ⟨tl, ts, rfl, upd_same, sz.free hn, htl, fun i h1 h2 => (hT i h1 h2).keep (fun a o _ e => gs _ _ e) (fun a xs e => gs _ _ e), sz.trans gs⟩
    rintro σ H7 ⟨tl, ts, rfl, htl7, ztl, htsl, hTT, s7⟩
    obtain ⟨dxa, daa, baa, zaa, zla, w1, w2, w3, w4, w5, w6, _⟩ := id hW1'
    obtain ⟨dxb, dab, bab, zab, zlb, y1, y2, y3, y4, y5, y6, _⟩ := id hW2'
    have pr5 : ∀ a, H5 a = none → a ≠ g1 ∧ a ≠ z1 ∧ a ≠ g2 ∧ a ≠ z2 := fun a ha => ⟨(ne_of_none w5 ha).symm, (ne_of_none w6 ha).symm, (ne_of_none y5 ha).symm, (ne_of_none y6 ha).symm⟩
    have pr6 : ∀ a, H6 a = none → a ≠ g1 ∧ a ≠ z1 ∧ a ≠ g2 ∧ a ≠ z2 := fun a ha => ⟨(ne_of_none (e6 _ _ (n3p _ fr.1) w5) ha).symm, (ne_of_none (e6 _ _ (n3p _ fr.2.1) w6) ha).symm, (ne_of_none (e6 _ _ (n3p _ fr.2.2.1) y5) ha).symm, (ne_of_none (e6 _ _ (n3p _ fr.2.2.2.1) y6) ha).symm⟩
    have prw : wl ≠ g1 ∧ wl ≠ z1 ∧ wl ≠ g2 ∧ wl ≠ z2 := ⟨ap.2.2.2.2.1, ap.2.2.2.2.2.1, ap.2.2.2.2.2.2.1, ap.2.2.2.2.2.2.2⟩
    have nwp : wl ≠ p := n3p _ zwl
    have hG0 : St43 mg H' H3 H7 wl sl tl sts ts x1 x2 d1 d2 b1 b2 g1 g2 z1 z2 R1 R2 ms (fun w => (ms w).take 0) := by
      refine ⟨fun w hw => ?_, s7 _ _ (e6 _ _ nwp hwl5), s7 _ _ hsl6, fun i h => s7 _ _ (hST i h).2.1, htl7, fun i h1 => ?_, (s5.exc zp e6).trans s7⟩
      · rcases (by omega : w = 0 ∨ w = 1) with rfl | rfl
        · exact ⟨S1, WatchAt.mono (M := fun a => a ≠ g2 ∧ a ≠ z2) (k := fun a xs n _ => n.2) <| (hW1'.keep (fun a o n e => e6 _ _ (n3p _ n.1) e) (fun C dx fs e => e6 _ _ (n3p _ fr.2.2.2.2.1) e) (fun o e => e6 _ _ (n3p _ fr.1) e) (fun o e => e6 _ _ (n3p _ fr.2.1) e)).same s7⟩
        · exact ⟨S2, WatchAt.mono (M := fun a => a ≠ g1 ∧ a ≠ z1) (k := fun a xs n _ => n.2) <| (hW2'.keep (fun a o n e => e6 _ _ (n3p _ n.1) e) (fun C dx fs e => e6 _ _ (n3p _ fr.2.2.2.2.2) e) (fun o e => e6 _ _ (n3p _ fr.2.2.1) e) (fun o e => e6 _ _ (n3p _ fr.2.2.2.1) e)).same s7⟩
      · have i2 : i < 2 := by omega
        rcases (by omega : i = 0 ∨ i = 1) with rfl | rfl
        · exact (hTT 0 h1 i2).mono fun a xs n _ => pr6 a n
        · exact (hTT 1 h1 i2).mono fun a xs n _ => pr6 a n
    have psl := pr5 _ zsl
    have pst : ∀ i (h : i < sts.length), sts[i] ≠ g1 ∧ sts[i] ≠ z1 ∧ sts[i] ≠ g2 ∧ sts[i] ≠ z2 := fun i h => pr5 _ (hST i h).2.2
    have ptl := pr6 _ ztl
    have hms : ∀ i, i < 2 → (ms i).length ≤ 60 := fun i h => (hST i (by omega)).1
    clear hTT hST hW1' hW2' w1 w2 w3 w4 w5 w6 y1 y2 y3 y4 y5 y6 hwl5 hbo5 hsl6 htl7 s7 s5 e6 P5 P6 BR5 pr5 pr6 ztl zsl
    have hFw : ∀ w, w < 2 → Few (if w = 0 then R1 else R2) 12 := fun w hw => by
      rcases (by omega : w = 0 ∨ w = 1) with rfl | rfl
      · exact hF1
      · exact hF2
    have hxw : ∀ w, w < 2 → [V.ref x1, V.ref x2][w]? = some (V.ref (hsel x1 x2 w)) := fun w hw => by
      rcases (by omega : w = 0 ∨ w = 1) with rfl | rfl <;> rfl
    refine seqR (fun σ Hx => σ = [some (.ref sc), some (.int kk), some (.ref p), some (.ref bo), some (.ref hd), some (.ref wl), v6', v7', some (.ref sl), some (.ref tl), v10, v11, v12] ∧ St43 mg H' H3 Hx wl sl tl sts ts x1 x2 d1 d2 b1 b2 g1 g2 z1 z2 R1 R2 ms (fun w => (ms w).take 0)) (fun R hR => ?_) ?_
    · walk_at "rd"
      refine ⟨⟨_, SqL.of hG0.2.1⟩, comp_map (n := 2) (fun _ => V.int 0) (by decide) (fun k Hz s hk => ⟨_, _, SqL.of (s _ _ hG0.2.1), hxw k hk⟩) (fun Hz s => ⟨_, SqL.of (s _ _ hG0.2.1), by simp⟩) ?_ ?_⟩
      · rintro k v Hz Hw hk s ⟨rfl, hv⟩
        have hv := hv _ (SqL.of (s _ _ hG0.2.1))
        rw [hxw k hk] at hv
        cases hv
        obtain ⟨S, hWk⟩ := hG0.1 k hk
        have hLo := hWk.longs
        obtain ⟨dx, _, _, _, _, w1, _⟩ := id hWk
        walk_at "rd"
        refine ⟨dx, _, s _ _ w1, wn _ _ _ _ _ (by decide +kernel) (by decide +kernel) (by decide +kernel) (by decide +kernel), _, _, _, _, _, _, _, _, S, rfl, hWk.same s, (hFw k hk).1, fun m hm _ => CW.next hk ?_ s⟩
        obtain ⟨j, hj, rfl⟩ := List.mem_iff_getElem.mp hm
        have := (hLo.2 j (by rw [← hLo.1]; exact hj) hj).2.1
        simp at this
        rw [this]; rfl
      · intro l Hz s hl
        have zz : ∀ (Hx : Hp) (a b : Addr), Hx a = some (.lst [V.int 0, V.int 0]) → Hx b = some (.lst [V.int 0, V.int 0]) → EqD K Hx 3 (V.ref a) (V.ref b) true := fun Hx a b h1 h2 => by
          have := eqp_lst (n := 2) (K := K) (H := Hx) eqp_int (V.ref a) (V.ref b) [0, 0] [0, 0] (isL_ints (SqL.of h1)) (isL_ints (SqL.of h2))
          exact this
        have gl := s.upd' (o := .lst ((List.range 2).map fun _ => V.int 0)) hl
        have hl1 : (upd Hz l (.lst ((List.range 2).map fun _ => V.int 0))) l = some (.lst [V.int 0, V.int 0]) := upd_same
        generalize upd Hz l (.lst ((List.range 2).map fun _ => V.int 0)) = Ha at gl hl1 ⊢
        refine ⟨by decide, fun l2 hl2 => ?_⟩
        have g2 := (Same.refl Ha).upd (o := .lst [V.int 0, V.int 0]) hl2
        refine ⟨l, rfl, _, zz _ _ _ (g2 _ _ hl1) upd_same, ite2 (fun z => nomatch z) fun _ => ?_⟩
        have sb := gl.trans g2
        generalize upd Ha l2 (.lst [V.int 0, V.int 0]) = Hb at sb ⊢
        have hGb := hG0.same sb
        refine ⟨⟨_, SqL.of hGb.2.1⟩, comp_map (n := 2) (fun _ => V.int 0) (by decide) (fun k Hz s hk => ⟨_, _, SqL.of (s _ _ hGb.2.1), hxw k hk⟩) (fun Hz s => ⟨_, SqL.of (s _ _ hGb.2.1), by simp⟩) ?_ ?_⟩
        · rintro k v Hz Hw hk s ⟨rfl, hv⟩
          have hv := hv _ (SqL.of (s _ _ hGb.2.1))
          rw [hxw k hk] at hv
          cases hv
          obtain ⟨S, hWk⟩ := hGb.1 k hk
          obtain ⟨dx, _, _, _, _, w1, _⟩ := id hWk
          walk_at "rd"
          exact ⟨dx, _, s _ _ w1, wn _ _ _ _ _ (by decide +kernel) (by decide +kernel) (by decide +kernel) (by decide +kernel), _, _, _, _, _, _, _, _, S, rfl, hWk.same s, CW.next hk rfl s⟩
        · intro l3 Hc sc3 hl3
          have g3 := sc3.upd' (o := .lst ((List.range 2).map fun _ => V.int 0)) hl3
          have hl31 : (upd Hc l3 (.lst ((List.range 2).map fun _ => V.int 0))) l3 = some (.lst [V.int 0, V.int 0]) := upd_same
          generalize upd Hc l3 (.lst ((List.range 2).map fun _ => V.int 0)) = Hd at g3 hl31 ⊢
          refine ⟨by decide, fun l4 hl4 => ?_⟩
          have g4 := (Same.refl Hd).upd (o := .lst [V.int 0, V.int 0]) hl4
          exact ⟨l3, rfl, _, zz _ _ _ (g4 _ _ hl31) upd_same, ite2 (fun z => nomatch z) fun _ => hR _ _ ⟨rfl, hGb.same (g3.trans g4)⟩⟩
    clear hG0
    rintro σ H8 ⟨rfl, hG⟩
    have hst : ∀ (w : Nat) (h : w < 2), atI (sts.map V.ref) (w : Int) = some (V.ref (sts[w]'(by omega))) := fun w h => atI_nat (by rw [List.getElem?_map, List.getElem?_eq_getElem (by omega)]; rfl)
    have htt : ∀ (w : Nat) (h : w < 2), atI (ts.map V.ref) (w : Int) = some (V.ref (ts[w]'(by omega))) := fun w h => atI_nat (by rw [List.getElem?_map, List.getElem?_eq_getElem (by omega)]; rfl)
    have hww : ∀ (w : Nat) (h : w < 2), atI [V.ref x1, V.ref x2] (w : Int) = some (V.ref (hsel x1 x2 w)) := fun w h => atI_nat (hxw w h)
    have em : ∀ w : Nat, ((ms w).map V.int).length = (ms w).length := fun w => List.length_map ..
    walk_at "rd"
    refine ⟨_, SqL.of hG.2.2.1, _, hst 0 (by decide), _, rfl, _, .inl (SqL.of (hG.2.2.2.1 0 (by omega))), _, SqL.of hG.2.2.1, _, hst 1 (by decide), _, rfl, _, .inl (SqL.of (hG.2.2.2.1 1 (by omega))), ?_⟩
    rw [em, em]
    have h60 := hms 0 (by decide)
    have h61 := hms 1 (by decide)
    refine ⟨by split <;> omega, by split <;> omega, ?_⟩
    obtain ⟨n, hn⟩ : ∃ n : Nat, (if ((ms 1).length : Int) > ((ms 0).length : Int) then ((ms 1).length : Int) else ((ms 0).length : Int)).toNat = n ∧ n ≤ 60 := ⟨_, rfl, by split <;> omega⟩
    rw [hn.1]
    refine for_range (fun at' σ Hx => ∃ v10 v11 v12 : Option V, σ = [some (.ref sc), some (.int kk), some (.ref p), some (.ref bo), some (.ref hd), some (.ref wl), v6', v7', some (.ref sl), some (.ref tl), v10, v11, v12] ∧ St43 mg H' H3 Hx wl sl tl sts ts x1 x2 d1 d2 b1 b2 g1 g2 z1 z2 R1 R2 ms (fun w => (ms w).take at')) ⟨_, _, _, rfl, hG⟩ ?_ ?_
    · clear hG
      rintro at' σ H8 hat ⟨v10, v11, v12, rfl, hG⟩
      walk_at "rd"
      refine ⟨by decide, by decide, for_range (fun w σ Hx => ∃ v11 v12 : Option V, σ = [some (.ref sc), some (.int kk), some (.ref p), some (.ref bo), some (.ref hd), some (.ref wl), v6', v7', some (.ref sl), some (.ref tl), some (.int (at' : Int)), v11, v12] ∧ St43 mg H' H3 Hx wl sl tl sts ts x1 x2 d1 d2 b1 b2 g1 g2 z1 z2 R1 R2 ms (fun v => (ms v).take (if v < w then at' + 1 else at'))) ⟨_, _, by rw [Int.zero_add], by simpa using hG⟩ ?_ ?_⟩
      · clear hG
        rintro w σ H8 hw ⟨v11, v12, rfl, hG⟩
        have hw2 : w < 2 := hw
        have e0 : (0 : Int) + (w : Int) = (w : Int) := by omega
        rw [e0]
        walk_at "rd"
        refine ⟨_, SqL.of hG.2.2.1, _, hst w hw2, _, rfl, _, .inl (SqL.of (hG.2.2.2.1 w (by omega))), ?_⟩
        rw [em]
        refine ite2 (fun c => ?_) fun c => ?_
        · have hc : at' < (ms w).length := by omega
          obtain ⟨S, hWw⟩ := hG.1 w hw2
          simp only [Nat.lt_irrefl, if_false] at hWw
          obtain ⟨So, hWo⟩ := hG.1 (1 - w) (by omega)
          obtain ⟨_, _, _, _, _, _, _, _, _, o5, o6, _⟩ := id hWo
          obtain ⟨dx, daw, baw, zaw, zlw, c1, c2, c3, c4, c5, c6, c7, c8, c9, _⟩ := id hWw
          have nGZ : ∀ a, (a ≠ g1 ∧ a ≠ z1 ∧ a ≠ g2 ∧ a ≠ z2) → a ≠ hsel g1 g2 w ∧ a ≠ hsel z1 z2 w := fun a h => by
            rcases (by omega : w = 0 ∨ w = 1) with rfl | rfl
            · exact ⟨h.1, h.2.1⟩
            · exact ⟨h.2.2.1, h.2.2.2⟩
          refine ⟨_, SqL.of hG.2.1, _, hww w hw2, _, rfl, dx, _, c1, wn _ _ _ _ _ (by decide +kernel) (by decide +kernel) (by decide +kernel) (by decide +kernel), _, SqL.of hG.2.2.1, _, hst w hw2, _, rfl, _, SqL.of (hG.2.2.2.1 w (by omega)), _, nth_at hc, _, _, _, _, _, _, nth (ms w) at', _, _, S, rfl, hWw, fun a ha => ⟨(ne_of_none o5 ha).symm, (ne_of_none o6 ha).symm⟩, hFw w hw2, by rw [List.length_take]; omega, fun cc S' Ha zc hcc hWa ka => ?_⟩
          have kwl := ka _ _ (nGZ _ prw).1 (nGZ _ prw).2 hG.2.1
          have ksl := ka _ _ (nGZ _ psl).1 (nGZ _ psl).2 hG.2.2.1
          have ktl := ka _ _ (nGZ _ ptl).1 (nGZ _ ptl).2 hG.2.2.2.2.1
          have kst := ka _ _ (nGZ _ (pst w (by omega))).1 (nGZ _ (pst w (by omega))).2 (hG.2.2.2.1 w (by omega))
          have ncG : cc ≠ hsel g1 g2 w := (ne_of_none c5 zc).symm
          have ncZ : cc ≠ hsel z1 z2 w := (ne_of_none c6 zc).symm
          refine ⟨_, SqL.of kwl, _, hww w hw2, _, SqL.of ktl, _, htt w hw2, _, SqL.of ksl, _, hst w hw2, _, rfl, _, SqL.of kst, fun y zy => ?_⟩
          have ecut : cutV ((ms w).map V.int) none (some ((at' : Int) + 1)) = ((ms w).take (at' + 1)).map V.int := by
            rw [show ((at' : Int) + 1) = ((at' + 1 : Nat) : Int) by omega, cut_to, List.map_take]
          rw [ecut]
          have gy := (Same.refl Ha).upd (o := .lst (((ms w).take (at' + 1)).map V.int)) zy
          have etk : (ms w).take at' ++ [nth (ms w) at'] = (ms w).take (at' + 1) := by
            rw [List.take_succ]
            simp [nth, List.getD_eq_getElem?_getD, hc]
          rw [etk] at hWa
          have hTb := (hG.2.2.2.2.2.1 w (by omega)).keep (H' := upd Ha y (.lst (((ms w).take (at' + 1)).map V.int))) (fun a o n e => gy _ _ (ka _ _ (nGZ _ n).1 (nGZ _ n).2 e)) (fun a xs e => gy _ _ (ka _ _ (fun z => by rw [z, c5] at e; cases e) (fun z => by rw [z, c6] at e; cases e) e))
          have hccb := gy _ _ hcc
          have hyb := upd_same (H := Ha) (a := y) (o := .lst (((ms w).take (at' + 1)).map V.int))
          have nyc : y ≠ cc := (ne_of_none hcc zy).symm
          have hWb := hWa.same gy
          generalize upd Ha y (.lst (((ms w).take (at' + 1)).map V.int)) = Hb at gy hTb hccb hyb hWb ⊢
          refine ⟨_, _, _, _, _, _, _, _, y, cc, _, _, S', rfl, hWb, fun a n => n.2, ncG, ncZ, nyc, hTb, hFw w hw2, hyb, by rw [List.length_take]; omega, hccb, fun Hc ec => ⟨true, rfl, ite2 (fun z => nomatch z) fun _ => ?_⟩⟩
          have K8 : ∀ a o, a ≠ hsel g1 g2 w → a ≠ hsel z1 z2 w → H8 a = some o → Hc a = some o := fun a o n1 n2 e => ec _ _ (ne_of_none e zc) (gy _ _ (ka _ _ n1 n2 e))
          refine ⟨fun v hv => ?_, K8 _ _ (nGZ _ prw).1 (nGZ _ prw).2 hG.2.1, K8 _ _ (nGZ _ psl).1 (nGZ _ psl).2 hG.2.2.1, fun i h => K8 _ _ (nGZ _ (pst i h)).1 (nGZ _ (pst i h)).2 (hG.2.2.2.1 i h), K8 _ _ (nGZ _ ptl).1 (nGZ _ ptl).2 hG.2.2.2.2.1, fun i h => (hG.2.2.2.2.2.1 i h).keep (fun a o n e => K8 _ _ (nGZ _ n).1 (nGZ _ n).2 e) (fun a xs e => K8 _ _ (fun z => by rw [z, c5] at e; cases e) (fun z => by rw [z, c6] at e; cases e) e), fun a o e => K8 _ _ ?_ ?_ (hG.2.2.2.2.2.2 _ _ e)⟩
          · by_cases ev : v = w
            · subst ev
              simp only [Nat.lt_succ_self, if_true]
              exact ⟨S', (hWb.keep (fun a o n e => ec _ _ n.2 e) (fun C dx fs e => ec _ _ (fun z => by rw [z, hccb] at e; cases e) e) (fun o e => ec _ _ ncG.symm e) (fun o e => ec _ _ ncZ.symm e)).mono fun a xs n _ => n.1⟩
            · have e1 : (if v < w + 1 then at' + 1 else at') = (if v < w then at' + 1 else at') := by
                by_cases e2 : v < w
                · rw [if_pos e2, if_pos (by omega)]
                · rw [if_neg e2, if_neg (by omega)]
              obtain ⟨Sv, hWv⟩ := hG.1 v hv
              have ew : 1 - v = w := by omega
              rw [ew] at hWv ⊢
              refine ⟨Sv, ?_⟩
              simp only [e1]
              refine hWv.keep (fun a o n e => K8 _ _ n.1 n.2 e) (fun C dx fs e => K8 _ _ (fun z => by rw [z, c5] at e; cases e) (fun z => by rw [z, c6] at e; cases e) e) (fun o e => K8 _ _ ?_ ?_ e) (fun o e => K8 _ _ ?_ ?_ e)
              all_goals
                rcases (by omega : (v = 0 ∧ w = 1) ∨ (v = 1 ∧ w = 0)) with ⟨rfl, rfl⟩ | ⟨rfl, rfl⟩
              · exact ap.1
              · exact ap.1.symm
              · exact ap.2.1
              · exact ap.2.2.1.symm
              · exact ap.2.2.1
              · exact ap.2.1.symm
              · exact ap.2.2.2.1
              · exact ap.2.2.2.1.symm
          · rcases (by omega : w = 0 ∨ w = 1) with rfl | rfl
            · exact ne_of_none e frH.1
            · exact ne_of_none e frH.2.2.1
          · rcases (by omega : w = 0 ∨ w = 1) with rfl | rfl
            · exact ne_of_none e frH.2.1
            · exact ne_of_none e frH.2.2.2
        · refine hG.congr fun v hv => ?_
          by_cases e : v = w
          · subst e
            rw [if_neg (Nat.lt_irrefl _), if_pos (Nat.lt_succ_self _), List.take_of_length_le (by omega), List.take_of_length_le (by omega)]
          · by_cases e2 : v < w
            · rw [if_pos e2, if_pos (by omega)]
            · rw [if_neg e2, if_neg (by omega)]
      · rintro σ Hx ⟨v11, v12, rfl, hG⟩
        exact ⟨_, _, _, rfl, hG.congr fun v hv => by rw [show Int.toNat 2 = 2 from rfl, if_pos hv]⟩
    · rintro σ Hx ⟨v10, v11, v12, rfl, hG⟩
      exact ⟨_, _, _, _, _, _, _, _, _, _, _, _, rfl, hs.trans hG.2.2.2.2.2.2⟩
  · rintro σ H' ⟨v1, v2, v3, v4, v5, v6, v7, v8, v9, v10, v11, v12, rfl, hs⟩
    walk_at "rd"
    exact k1 _

end
theorem all_mk {l : PySem.W.OpenLaw} {w : World} {K : PySem.W.Frag} {h : Heap} {mg : Str → Option Value} {fa : Addr} (X : K.In h) (G : h.Ns mainGlobals mg) (hfa : mg "law" = some (.ref fa))
    {C_Watch : Addr} (n_Watch : PySem.W.nsIn K mainGlobals "Watch" = some (some (.ref C_Watch))) (pg_Watch : PySem.W.plainGet K C_Watch Str.empty = true) (hd_Watch : PySem.W.hasDictIn K C_Watch = true) (po_Watch : PySem.W.plainOver K C_Watch = true) (sa_Watch : PySem.W.findIn K (.ref C_Watch) "__setattr__" = some (some (.builtin "object.__setattr__"))) (mk_Watch : PySem.W.makesIn K C_Watch = true) (kc_Watch : PySem.W.keepIn K (.ref C_Watch) = true)
    (na_Watch_distances : PySem.W.findIn K (.ref C_Watch) "distances" = some none)
    (na_Watch_borders : PySem.W.findIn K (.ref C_Watch) "borders" = some none)
    (na_Watch_given : PySem.W.findIn K (.ref C_Watch) "given" = some none)
    (na_Watch_sizes : PySem.W.findIn K (.ref C_Watch) "sizes" = some none)
    {f_need_numbers : Addr} {od_need_numbers an_need_numbers : Option Addr} {sl_need_numbers : Array (Option Value)} {oc_need_numbers kV_need_numbers dc_need_numbers pm_need_numbers cd_need_numbers ct_need_numbers : Value}
    {D_need_numbers : Addr} {tk_need_numbers : Tok} {oc3_need_numbers : Value} {od3_need_numbers : Option Addr} {ep_need_numbers : Nat} {sl3_need_numbers : Array (Option Value)}
    (a_need_numbers : PySem.W.nsIn K mainGlobals "need_numbers" = some (some (.ref f_need_numbers))) (l_need_numbers : K.lookup f_need_numbers = some ⟨oc_need_numbers, od_need_numbers, .func (PySem.W.fnOf "need_numbers" "need_numbers" (defArgs s_need_numbers) (defBody s_need_numbers) (defScope s_need_numbers) (.ref D_need_numbers) kV_need_numbers dc_need_numbers pm_need_numbers an_need_numbers cd_need_numbers ct_need_numbers), sl_need_numbers⟩) (c_need_numbers : PySem.W.codeIn K cd_need_numbers "need_numbers" = true) (k_need_numbers : PySem.W.keepIn K (.ref f_need_numbers) = true)
    (t_need_numbers : K.lookup D_need_numbers = some ⟨oc3_need_numbers, od3_need_numbers, .seq #[.int 1 tk_need_numbers] ep_need_numbers, sl3_need_numbers⟩)
    {f_settle : Addr} {od_settle an_settle : Option Addr} {sl_settle : Array (Option Value)} {oc_settle kV_settle dc_settle pm_settle cd_settle ct_settle : Value}
    (a_settle : PySem.W.nsIn K mainGlobals "settle" = some (some (.ref f_settle))) (l_settle : K.lookup f_settle = some ⟨oc_settle, od_settle, .func (PySem.W.fnOf "settle" "settle" (defArgs s_settle) (defBody s_settle) (defScope s_settle) .none kV_settle dc_settle pm_settle an_settle cd_settle ct_settle), sl_settle⟩) (c_settle : PySem.W.codeIn K cd_settle "settle" = true) (k_settle : PySem.W.keepIn K (.ref f_settle) = true)
    {f_tree_of : Addr} {od_tree_of an_tree_of : Option Addr} {sl_tree_of : Array (Option Value)} {oc_tree_of kV_tree_of dc_tree_of pm_tree_of cd_tree_of ct_tree_of : Value}
    (a_tree_of : PySem.W.nsIn K mainGlobals "tree_of" = some (some (.ref f_tree_of))) (l_tree_of : K.lookup f_tree_of = some ⟨oc_tree_of, od_tree_of, .func (PySem.W.fnOf "tree_of" "tree_of" (defArgs s_tree_of) (defBody s_tree_of) (defScope s_tree_of) .none kV_tree_of dc_tree_of pm_tree_of an_tree_of cd_tree_of ct_tree_of), sl_tree_of⟩) (c_tree_of : PySem.W.codeIn K cd_tree_of "tree_of" = true) (k_tree_of : PySem.W.keepIn K (.ref f_tree_of) = true)
    {f_way_up : Addr} {od_way_up an_way_up : Option Addr} {sl_way_up : Array (Option Value)} {oc_way_up kV_way_up dc_way_up pm_way_up cd_way_up ct_way_up : Value}
    (a_way_up : PySem.W.nsIn K mainGlobals "way_up" = some (some (.ref f_way_up))) (l_way_up : K.lookup f_way_up = some ⟨oc_way_up, od_way_up, .func (PySem.W.fnOf "way_up" "way_up" (defArgs s_way_up) (defBody s_way_up) (defScope s_way_up) .none kV_way_up dc_way_up pm_way_up an_way_up cd_way_up ct_way_up), sl_way_up⟩) (c_way_up : PySem.W.codeIn K cd_way_up "way_up" = true) (k_way_up : PySem.W.keepIn K (.ref f_way_up) = true)
    {f_fences_of : Addr} {od_fences_of an_fences_of : Option Addr} {sl_fences_of : Array (Option Value)} {oc_fences_of kV_fences_of dc_fences_of pm_fences_of cd_fences_of ct_fences_of : Value}
    (a_fences_of : PySem.W.nsIn K mainGlobals "fences_of" = some (some (.ref f_fences_of))) (l_fences_of : K.lookup f_fences_of = some ⟨oc_fences_of, od_fences_of, .func (PySem.W.fnOf "fences_of" "fences_of" (defArgs s_fences_of) (defBody s_fences_of) (defScope s_fences_of) .none kV_fences_of dc_fences_of pm_fences_of an_fences_of cd_fences_of ct_fences_of), sl_fences_of⟩) (c_fences_of : PySem.W.codeIn K cd_fences_of "fences_of" = true) (k_fences_of : PySem.W.keepIn K (.ref f_fences_of) = true)
    {f_distance_list : Addr} {od_distance_list an_distance_list : Option Addr} {sl_distance_list : Array (Option Value)} {oc_distance_list kV_distance_list dc_distance_list pm_distance_list cd_distance_list ct_distance_list : Value}
    (a_distance_list : PySem.W.nsIn K mainGlobals "distance_list" = some (some (.ref f_distance_list))) (l_distance_list : K.lookup f_distance_list = some ⟨oc_distance_list, od_distance_list, .func (PySem.W.fnOf "distance_list" "distance_list" (defArgs s_distance_list) (defBody s_distance_list) (defScope s_distance_list) .none kV_distance_list dc_distance_list pm_distance_list an_distance_list cd_distance_list ct_distance_list), sl_distance_list⟩) (c_distance_list : PySem.W.codeIn K cd_distance_list "distance_list" = true) (k_distance_list : PySem.W.keepIn K (.ref f_distance_list) = true)
    {f_row_distances : Addr} {od_row_distances an_row_distances : Option Addr} {sl_row_distances : Array (Option Value)} {oc_row_distances kV_row_distances dc_row_distances pm_row_distances cd_row_distances ct_row_distances : Value}
    (a_row_distances : PySem.W.nsIn K mainGlobals "row_distances" = some (some (.ref f_row_distances))) (l_row_distances : K.lookup f_row_distances = some ⟨oc_row_distances, od_row_distances, .func (PySem.W.fnOf "row_distances" "row_distances" (defArgs s_row_distances) (defBody s_row_distances) (defScope s_row_distances) .none kV_row_distances dc_row_distances pm_row_distances an_row_distances cd_row_distances ct_row_distances), sl_row_distances⟩) (c_row_distances : PySem.W.codeIn K cd_row_distances "row_distances" = true) (k_row_distances : PySem.W.keepIn K (.ref f_row_distances) = true)
    {f_seen_within : Addr} {od_seen_within an_seen_within : Option Addr} {sl_seen_within : Array (Option Value)} {oc_seen_within kV_seen_within dc_seen_within pm_seen_within cd_seen_within ct_seen_within : Value}
    (a_seen_within : PySem.W.nsIn K mainGlobals "seen_within" = some (some (.ref f_seen_within))) (l_seen_within : K.lookup f_seen_within = some ⟨oc_seen_within, od_seen_within, .func (PySem.W.fnOf "seen_within" "seen_within" (defArgs s_seen_within) (defBody s_seen_within) (defScope s_seen_within) .none kV_seen_within dc_seen_within pm_seen_within an_seen_within cd_seen_within ct_seen_within), sl_seen_within⟩) (c_seen_within : PySem.W.codeIn K cd_seen_within "seen_within" = true) (k_seen_within : PySem.W.keepIn K (.ref f_seen_within) = true)
    {f_follow : Addr} {od_follow an_follow : Option Addr} {sl_follow : Array (Option Value)} {oc_follow kV_follow dc_follow pm_follow cd_follow ct_follow : Value}
    (a_follow : PySem.W.nsIn K mainGlobals "follow" = some (some (.ref f_follow))) (l_follow : K.lookup f_follow = some ⟨oc_follow, od_follow, .func (PySem.W.fnOf "follow" "follow" (defArgs s_follow) (defBody s_follow) (defScope s_follow) .none kV_follow dc_follow pm_follow an_follow cd_follow ct_follow), sl_follow⟩) (c_follow : PySem.W.codeIn K cd_follow "follow" = true) (k_follow : PySem.W.keepIn K (.ref f_follow) = true)
    {f_borders_by : Addr} {od_borders_by an_borders_by : Option Addr} {sl_borders_by : Array (Option Value)} {oc_borders_by kV_borders_by dc_borders_by pm_borders_by cd_borders_by ct_borders_by : Value}
    (a_borders_by : PySem.W.nsIn K mainGlobals "borders_by" = some (some (.ref f_borders_by))) (l_borders_by : K.lookup f_borders_by = some ⟨oc_borders_by, od_borders_by, .func (PySem.W.fnOf "borders_by" "borders_by" (defArgs s_borders_by) (defBody s_borders_by) (defScope s_borders_by) .none kV_borders_by dc_borders_by pm_borders_by an_borders_by cd_borders_by ct_borders_by), sl_borders_by⟩) (c_borders_by : PySem.W.codeIn K cd_borders_by "borders_by" = true) (k_borders_by : PySem.W.keepIn K (.ref f_borders_by) = true)
    {f_need_watched : Addr} {od_need_watched an_need_watched : Option Addr} {sl_need_watched : Array (Option Value)} {oc_need_watched kV_need_watched dc_need_watched pm_need_watched cd_need_watched ct_need_watched : Value}
    (a_need_watched : PySem.W.nsIn K mainGlobals "need_watched" = some (some (.ref f_need_watched))) (l_need_watched : K.lookup f_need_watched = some ⟨oc_need_watched, od_need_watched, .func (PySem.W.fnOf "need_watched" "need_watched" (defArgs s_need_watched) (defBody s_need_watched) (defScope s_need_watched) .none kV_need_watched dc_need_watched pm_need_watched an_need_watched cd_need_watched ct_need_watched), sl_need_watched⟩) (c_need_watched : PySem.W.codeIn K cd_need_watched "need_watched" = true) (k_need_watched : PySem.W.keepIn K (.ref f_need_watched) = true)
    {f_next_distance : Addr} {od_next_distance an_next_distance : Option Addr} {sl_next_distance : Array (Option Value)} {oc_next_distance kV_next_distance dc_next_distance pm_next_distance cd_next_distance ct_next_distance : Value}
    (a_next_distance : PySem.W.nsIn K mainGlobals "next_distance" = some (some (.ref f_next_distance))) (l_next_distance : K.lookup f_next_distance = some ⟨oc_next_distance, od_next_distance, .func (PySem.W.fnOf "next_distance" "next_distance" (defArgs s_next_distance) (defBody s_next_distance) (defScope s_next_distance) .none kV_next_distance dc_next_distance pm_next_distance an_next_distance cd_next_distance ct_next_distance), sl_next_distance⟩) (c_next_distance : PySem.W.codeIn K cd_next_distance "next_distance" = true) (k_next_distance : PySem.W.keepIn K (.ref f_next_distance) = true)
    {f_Watch___init__ : Addr} {od_Watch___init__ an_Watch___init__ : Option Addr} {sl_Watch___init__ : Array (Option Value)} {oc_Watch___init__ kV_Watch___init__ dc_Watch___init__ pm_Watch___init__ cd_Watch___init__ ct_Watch___init__ : Value}
    (a_Watch___init__ : PySem.W.findIn K (.ref C_Watch) "__init__" = some (some (.ref f_Watch___init__))) (i_Watch___init__ : PySem.W.isFn K (.ref f_Watch___init__) = true) (l_Watch___init__ : K.lookup f_Watch___init__ = some ⟨oc_Watch___init__, od_Watch___init__, .func (PySem.W.fnOf "__init__" "Watch.__init__" (defArgs s_Watch___init__) (defBody s_Watch___init__) (defScope s_Watch___init__) .none kV_Watch___init__ dc_Watch___init__ pm_Watch___init__ an_Watch___init__ cd_Watch___init__ ct_Watch___init__), sl_Watch___init__⟩) (c_Watch___init__ : PySem.W.codeIn K cd_Watch___init__ "Watch.__init__" = true) (k_Watch___init__ : PySem.W.keepIn K (.ref f_Watch___init__) = true)
    {f_Watch_give : Addr} {od_Watch_give an_Watch_give : Option Addr} {sl_Watch_give : Array (Option Value)} {oc_Watch_give kV_Watch_give dc_Watch_give pm_Watch_give cd_Watch_give ct_Watch_give : Value}
    (a_Watch_give : PySem.W.findIn K (.ref C_Watch) "give" = some (some (.ref f_Watch_give))) (i_Watch_give : PySem.W.isFn K (.ref f_Watch_give) = true) (l_Watch_give : K.lookup f_Watch_give = some ⟨oc_Watch_give, od_Watch_give, .func (PySem.W.fnOf "give" "Watch.give" (defArgs s_Watch_give) (defBody s_Watch_give) (defScope s_Watch_give) .none kV_Watch_give dc_Watch_give pm_Watch_give an_Watch_give cd_Watch_give ct_Watch_give), sl_Watch_give⟩) (c_Watch_give : PySem.W.codeIn K cd_Watch_give "Watch.give" = true) (k_Watch_give : PySem.W.keepIn K (.ref f_Watch_give) = true)
    {f_Watch_reach_now : Addr} {od_Watch_reach_now an_Watch_reach_now : Option Addr} {sl_Watch_reach_now : Array (Option Value)} {oc_Watch_reach_now kV_Watch_reach_now dc_Watch_reach_now pm_Watch_reach_now cd_Watch_reach_now ct_Watch_reach_now : Value}
    (a_Watch_reach_now : PySem.W.findIn K (.ref C_Watch) "reach_now" = some (some (.ref f_Watch_reach_now))) (i_Watch_reach_now : PySem.W.isFn K (.ref f_Watch_reach_now) = true) (l_Watch_reach_now : K.lookup f_Watch_reach_now = some ⟨oc_Watch_reach_now, od_Watch_reach_now, .func (PySem.W.fnOf "reach_now" "Watch.reach_now" (defArgs s_Watch_reach_now) (defBody s_Watch_reach_now) (defScope s_Watch_reach_now) .none kV_Watch_reach_now dc_Watch_reach_now pm_Watch_reach_now an_Watch_reach_now cd_Watch_reach_now ct_Watch_reach_now), sl_Watch_reach_now⟩) (c_Watch_reach_now : PySem.W.codeIn K cd_Watch_reach_now "Watch.reach_now" = true) (k_Watch_reach_now : PySem.W.keepIn K (.ref f_Watch_reach_now) = true)
    {f_Watch_how_many : Addr} {od_Watch_how_many an_Watch_how_many : Option Addr} {sl_Watch_how_many : Array (Option Value)} {oc_Watch_how_many kV_Watch_how_many dc_Watch_how_many pm_Watch_how_many cd_Watch_how_many ct_Watch_how_many : Value}
    (a_Watch_how_many : PySem.W.findIn K (.ref C_Watch) "how_many" = some (some (.ref f_Watch_how_many))) (i_Watch_how_many : PySem.W.isFn K (.ref f_Watch_how_many) = true) (l_Watch_how_many : K.lookup f_Watch_how_many = some ⟨oc_Watch_how_many, od_Watch_how_many, .func (PySem.W.fnOf "how_many" "Watch.how_many" (defArgs s_Watch_how_many) (defBody s_Watch_how_many) (defScope s_Watch_how_many) .none kV_Watch_how_many dc_Watch_how_many pm_Watch_how_many an_Watch_how_many cd_Watch_how_many ct_Watch_how_many), sl_Watch_how_many⟩) (c_Watch_how_many : PySem.W.codeIn K cd_Watch_how_many "Watch.how_many" = true) (k_Watch_how_many : PySem.W.keepIn K (.ref f_Watch_how_many) = true)
    {f__law_deal : Addr} {od__law_deal an__law_deal : Option Addr} {sl__law_deal : Array (Option Value)} {oc__law_deal kV__law_deal dc__law_deal pm__law_deal cd__law_deal ct__law_deal : Value}
    (a__law_deal : PySem.W.nsIn K mainGlobals "_law_deal" = some (some (.ref f__law_deal))) (l__law_deal : K.lookup f__law_deal = some ⟨oc__law_deal, od__law_deal, .func (PySem.W.fnOf "_law_deal" "_law_deal" (defArgs s__law_deal) (defBody s__law_deal) (defScope s__law_deal) .none kV__law_deal dc__law_deal pm__law_deal an__law_deal cd__law_deal ct__law_deal), sl__law_deal⟩) (c__law_deal : PySem.W.codeIn K cd__law_deal "_law_deal" = true) (k__law_deal : PySem.W.keepIn K (.ref f__law_deal) = true)
    {f__law_take : Addr} {od__law_take an__law_take : Option Addr} {sl__law_take : Array (Option Value)} {oc__law_take kV__law_take dc__law_take pm__law_take cd__law_take ct__law_take : Value}
    (a__law_take : PySem.W.nsIn K mainGlobals "_law_take" = some (some (.ref f__law_take))) (l__law_take : K.lookup f__law_take = some ⟨oc__law_take, od__law_take, .func (PySem.W.fnOf "_law_take" "_law_take" (defArgs s__law_take) (defBody s__law_take) (defScope s__law_take) .none kV__law_take dc__law_take pm__law_take an__law_take cd__law_take ct__law_take), sl__law_take⟩) (c__law_take : PySem.W.codeIn K cd__law_take "_law_take" = true) (k__law_take : PySem.W.keepIn K (.ref f__law_take) = true)
    {f__law_whole : Addr} {od__law_whole an__law_whole : Option Addr} {sl__law_whole : Array (Option Value)} {oc__law_whole kV__law_whole dc__law_whole pm__law_whole cd__law_whole ct__law_whole : Value}
    (a__law_whole : PySem.W.nsIn K mainGlobals "_law_whole" = some (some (.ref f__law_whole))) (l__law_whole : K.lookup f__law_whole = some ⟨oc__law_whole, od__law_whole, .func (PySem.W.fnOf "_law_whole" "_law_whole" (defArgs s__law_whole) (defBody s__law_whole) (defScope s__law_whole) .none kV__law_whole dc__law_whole pm__law_whole an__law_whole cd__law_whole ct__law_whole), sl__law_whole⟩) (c__law_whole : PySem.W.codeIn K cd__law_whole "_law_whole" = true) (k__law_whole : PySem.W.keepIn K (.ref f__law_whole) = true)
    {f__law_row : Addr} {od__law_row an__law_row : Option Addr} {sl__law_row : Array (Option Value)} {oc__law_row kV__law_row dc__law_row pm__law_row cd__law_row ct__law_row : Value}
    (a__law_row : PySem.W.nsIn K mainGlobals "_law_row" = some (some (.ref f__law_row))) (l__law_row : K.lookup f__law_row = some ⟨oc__law_row, od__law_row, .func (PySem.W.fnOf "_law_row" "_law_row" (defArgs s__law_row) (defBody s__law_row) (defScope s__law_row) .none kV__law_row dc__law_row pm__law_row an__law_row cd__law_row ct__law_row), sl__law_row⟩) (c__law_row : PySem.W.codeIn K cd__law_row "_law_row" = true) (k__law_row : PySem.W.keepIn K (.ref f__law_row) = true)
    {f__law_elder : Addr} {od__law_elder an__law_elder : Option Addr} {sl__law_elder : Array (Option Value)} {oc__law_elder kV__law_elder dc__law_elder pm__law_elder cd__law_elder ct__law_elder : Value}
    (a__law_elder : PySem.W.nsIn K mainGlobals "_law_elder" = some (some (.ref f__law_elder))) (l__law_elder : K.lookup f__law_elder = some ⟨oc__law_elder, od__law_elder, .func (PySem.W.fnOf "_law_elder" "_law_elder" (defArgs s__law_elder) (defBody s__law_elder) (defScope s__law_elder) .none kV__law_elder dc__law_elder pm__law_elder an__law_elder cd__law_elder ct__law_elder), sl__law_elder⟩) (c__law_elder : PySem.W.codeIn K cd__law_elder "_law_elder" = true) (k__law_elder : PySem.W.keepIn K (.ref f__law_elder) = true)
    {f__law_tree : Addr} {od__law_tree an__law_tree : Option Addr} {sl__law_tree : Array (Option Value)} {oc__law_tree kV__law_tree dc__law_tree pm__law_tree cd__law_tree ct__law_tree : Value}
    (a__law_tree : PySem.W.nsIn K mainGlobals "_law_tree" = some (some (.ref f__law_tree))) (l__law_tree : K.lookup f__law_tree = some ⟨oc__law_tree, od__law_tree, .func (PySem.W.fnOf "_law_tree" "_law_tree" (defArgs s__law_tree) (defBody s__law_tree) (defScope s__law_tree) .none kV__law_tree dc__law_tree pm__law_tree an__law_tree cd__law_tree ct__law_tree), sl__law_tree⟩) (c__law_tree : PySem.W.codeIn K cd__law_tree "_law_tree" = true) (k__law_tree : PySem.W.keepIn K (.ref f__law_tree) = true)
    {f__law_either : Addr} {od__law_either an__law_either : Option Addr} {sl__law_either : Array (Option Value)} {oc__law_either kV__law_either dc__law_either pm__law_either cd__law_either ct__law_either : Value}
    (a__law_either : PySem.W.nsIn K mainGlobals "_law_either" = some (some (.ref f__law_either))) (l__law_either : K.lookup f__law_either = some ⟨oc__law_either, od__law_either, .func (PySem.W.fnOf "_law_either" "_law_either" (defArgs s__law_either) (defBody s__law_either) (defScope s__law_either) .none kV__law_either dc__law_either pm__law_either an__law_either cd__law_either ct__law_either), sl__law_either⟩) (c__law_either : PySem.W.codeIn K cd__law_either "_law_either" = true) (k__law_either : PySem.W.keepIn K (.ref f__law_either) = true)
    {f__law_rows : Addr} {od__law_rows an__law_rows : Option Addr} {sl__law_rows : Array (Option Value)} {oc__law_rows kV__law_rows dc__law_rows pm__law_rows cd__law_rows ct__law_rows : Value}
    (a__law_rows : PySem.W.nsIn K mainGlobals "_law_rows" = some (some (.ref f__law_rows))) (l__law_rows : K.lookup f__law_rows = some ⟨oc__law_rows, od__law_rows, .func (PySem.W.fnOf "_law_rows" "_law_rows" (defArgs s__law_rows) (defBody s__law_rows) (defScope s__law_rows) .none kV__law_rows dc__law_rows pm__law_rows an__law_rows cd__law_rows ct__law_rows), sl__law_rows⟩) (c__law_rows : PySem.W.codeIn K cd__law_rows "_law_rows" = true) (k__law_rows : PySem.W.keepIn K (.ref f__law_rows) = true)
    {f__law_stream : Addr} {od__law_stream an__law_stream : Option Addr} {sl__law_stream : Array (Option Value)} {oc__law_stream kV__law_stream dc__law_stream pm__law_stream cd__law_stream ct__law_stream : Value}
    (a__law_stream : PySem.W.nsIn K mainGlobals "_law_stream" = some (some (.ref f__law_stream))) (l__law_stream : K.lookup f__law_stream = some ⟨oc__law_stream, od__law_stream, .func (PySem.W.fnOf "_law_stream" "_law_stream" (defArgs s__law_stream) (defBody s__law_stream) (defScope s__law_stream) .none kV__law_stream dc__law_stream pm__law_stream an__law_stream cd__law_stream ct__law_stream), sl__law_stream⟩) (c__law_stream : PySem.W.codeIn K cd__law_stream "_law_stream" = true) (k__law_stream : PySem.W.keepIn K (.ref f__law_stream) = true)
    {f__law_ended : Addr} {od__law_ended an__law_ended : Option Addr} {sl__law_ended : Array (Option Value)} {oc__law_ended kV__law_ended dc__law_ended pm__law_ended cd__law_ended ct__law_ended : Value}
    (a__law_ended : PySem.W.nsIn K mainGlobals "_law_ended" = some (some (.ref f__law_ended))) (l__law_ended : K.lookup f__law_ended = some ⟨oc__law_ended, od__law_ended, .func (PySem.W.fnOf "_law_ended" "_law_ended" (defArgs s__law_ended) (defBody s__law_ended) (defScope s__law_ended) .none kV__law_ended dc__law_ended pm__law_ended an__law_ended cd__law_ended ct__law_ended), sl__law_ended⟩) (c__law_ended : PySem.W.codeIn K cd__law_ended "_law_ended" = true) (k__law_ended : PySem.W.keepIn K (.ref f__law_ended) = true)
    {f__law_beginnings : Addr} {od__law_beginnings an__law_beginnings : Option Addr} {sl__law_beginnings : Array (Option Value)} {oc__law_beginnings kV__law_beginnings dc__law_beginnings pm__law_beginnings cd__law_beginnings ct__law_beginnings : Value}
    (a__law_beginnings : PySem.W.nsIn K mainGlobals "_law_beginnings" = some (some (.ref f__law_beginnings))) (l__law_beginnings : K.lookup f__law_beginnings = some ⟨oc__law_beginnings, od__law_beginnings, .func (PySem.W.fnOf "_law_beginnings" "_law_beginnings" (defArgs s__law_beginnings) (defBody s__law_beginnings) (defScope s__law_beginnings) .none kV__law_beginnings dc__law_beginnings pm__law_beginnings an__law_beginnings cd__law_beginnings ct__law_beginnings), sl__law_beginnings⟩) (c__law_beginnings : PySem.W.codeIn K cd__law_beginnings "_law_beginnings" = true) (k__law_beginnings : PySem.W.keepIn K (.ref f__law_beginnings) = true)
    {f__law_right : Addr} {od__law_right an__law_right : Option Addr} {sl__law_right : Array (Option Value)} {oc__law_right kV__law_right dc__law_right pm__law_right cd__law_right ct__law_right : Value}
    (a__law_right : PySem.W.nsIn K mainGlobals "_law_right" = some (some (.ref f__law_right))) (l__law_right : K.lookup f__law_right = some ⟨oc__law_right, od__law_right, .func (PySem.W.fnOf "_law_right" "_law_right" (defArgs s__law_right) (defBody s__law_right) (defScope s__law_right) .none kV__law_right dc__law_right pm__law_right an__law_right cd__law_right ct__law_right), sl__law_right⟩) (c__law_right : PySem.W.codeIn K cd__law_right "_law_right" = true) (k__law_right : PySem.W.keepIn K (.ref f__law_right) = true)
    {f_law : Addr} {od_law an_law : Option Addr} {sl_law : Array (Option Value)} {oc_law kV_law dc_law pm_law cd_law ct_law : Value}
    (a_law : PySem.W.nsIn K mainGlobals "law" = some (some (.ref f_law))) (l_law : K.lookup f_law = some ⟨oc_law, od_law, .func (PySem.W.fnOf "law" "law" (defArgs s_law) (defBody s_law) (defScope s_law) .none kV_law dc_law pm_law an_law cd_law ct_law), sl_law⟩) (c_law : PySem.W.codeIn K cd_law "law" = true) (k_law : PySem.W.keepIn K (.ref f_law) = true)
    {C_DipError : Addr} (n_DipError : PySem.W.nsIn K mainGlobals "DipError" = some (some (.ref C_DipError))) (x_DipError : PySem.W.excIn K C_DipError bmV newV = true) (d_DipError : PySem.W.hasDictIn K C_DipError = true) (y_DipError : PySem.W.typeIn K (.ref C_DipError) = some (.type "type"))
    {C_Empty : Addr} (n_Empty : PySem.W.nsIn K mainGlobals "Empty" = some (some (.ref C_Empty))) (x_Empty : PySem.W.excIn K C_Empty bmV newV = true) (d_Empty : PySem.W.hasDictIn K C_Empty = true) (y_Empty : PySem.W.typeIn K (.ref C_Empty) = some (.type "type"))
    {C_TooMany : Addr} (n_TooMany : PySem.W.nsIn K mainGlobals "TooMany" = some (some (.ref C_TooMany))) (x_TooMany : PySem.W.excIn K C_TooMany bmV newV = true) (d_TooMany : PySem.W.hasDictIn K C_TooMany = true) (y_TooMany : PySem.W.typeIn K (.ref C_TooMany) = some (.type "type"))
    (b_all : PySem.W.nsIn K mainGlobals "all" = some none)
    (b_bool : PySem.W.nsIn K mainGlobals "bool" = some none)
    (b_enumerate : PySem.W.nsIn K mainGlobals "enumerate" = some none)
    (b_int : PySem.W.nsIn K mainGlobals "int" = some none)
    (b_isinstance : PySem.W.nsIn K mainGlobals "isinstance" = some none)
    (b_len : PySem.W.nsIn K mainGlobals "len" = some none)
    (b_list : PySem.W.nsIn K mainGlobals "list" = some none)
    (b_max : PySem.W.nsIn K mainGlobals "max" = some none)
    (b_min : PySem.W.nsIn K mainGlobals "min" = some none)
    (b_range : PySem.W.nsIn K mainGlobals "range" = some none)
    (b_tuple : PySem.W.nsIn K mainGlobals "tuple" = some none)
    (b_zip : PySem.W.nsIn K mainGlobals "zip" = some none)
    {t_MOST_WATCHED : Tok} (m_MOST_WATCHED : PySem.W.nsIn K mainGlobals "MOST_WATCHED" = some (some (.int 12 t_MOST_WATCHED)))
    : ∃ fd : FuncData, (∀ (s : Shared) (v : Value), BindsTo s fd ⟨[v], []⟩ [("script", v)]) ∧ ∀ base : Heap, K.In base → base.Ns mainGlobals mg → FnOk l.prog w K mg base (CXE l.prog w) 7 fa fd ["script"] (spLaw K) := by
  have e := hfa.symm.trans (PySem.W.mg_of X G a_law)
  cases e
  have q_DipError : clsAt mg "DipError" = C_DipError := by unfold clsAt; rw [PySem.W.mg_of X G n_DipError]
  have q_Empty : clsAt mg "Empty" = C_Empty := by unfold clsAt; rw [PySem.W.mg_of X G n_Empty]
  have q_TooMany : clsAt mg "TooMany" = C_TooMany := by unfold clsAt; rw [PySem.W.mg_of X G n_TooMany]
  have q_Watch : clsAt mg "Watch" = C_Watch := by unfold clsAt; rw [PySem.W.mg_of X G n_Watch]
  have q_MOST_WATCHED : tokAt mg "MOST_WATCHED" = t_MOST_WATCHED := by unfold tokAt; rw [PySem.W.mg_of X G m_MOST_WATCHED]
  have T : Txt K mg := {
    b_all := PySem.W.mg_none_of X G b_all
    b_bool := PySem.W.mg_none_of X G b_bool
    b_enumerate := PySem.W.mg_none_of X G b_enumerate
    b_int := PySem.W.mg_none_of X G b_int
    b_isinstance := PySem.W.mg_none_of X G b_isinstance
    b_len := PySem.W.mg_none_of X G b_len
    b_list := PySem.W.mg_none_of X G b_list
    b_max := PySem.W.mg_none_of X G b_max
    b_min := PySem.W.mg_none_of X G b_min
    b_range := PySem.W.mg_none_of X G b_range
    b_tuple := PySem.W.mg_none_of X G b_tuple
    b_zip := PySem.W.mg_none_of X G b_zip
    c_DipError := by rw [q_DipError]; exact PySem.W.mg_of X G n_DipError
    x_DipError := by rw [q_DipError]; exact x_DipError
    c_Empty := by rw [q_Empty]; exact PySem.W.mg_of X G n_Empty
    x_Empty := by rw [q_Empty]; exact x_Empty
    c_TooMany := by rw [q_TooMany]; exact PySem.W.mg_of X G n_TooMany
    x_TooMany := by rw [q_TooMany]; exact x_TooMany
    c_Watch := by rw [q_Watch]; exact PySem.W.mg_of X G n_Watch
    cl_Watch := by rw [q_Watch]; exact ⟨pg_Watch, hd_Watch, po_Watch, sa_Watch⟩
    n_Watch_distances := by rw [q_Watch]; exact na_Watch_distances
    n_Watch_borders := by rw [q_Watch]; exact na_Watch_borders
    n_Watch_given := by rw [q_Watch]; exact na_Watch_given
    n_Watch_sizes := by rw [q_Watch]; exact na_Watch_sizes
    m_MOST_WATCHED := by rw [q_MOST_WATCHED]; exact PySem.W.mg_of X G m_MOST_WATCHED
  }
  have F_need_numbers := fun_mkD (st := s_need_numbers) l_need_numbers c_need_numbers k_need_numbers
  have B_need_numbers := F_need_numbers.binds (ps := ["row", "fewest"]) (ds := []) t_need_numbers fun _ _ _ _ _ _ us hl => match us, hl with | [_, _], _ => ⟨_, rfl, rfl⟩
  have BD_need_numbers := F_need_numbers.binds (ps := ["row", "fewest"]) (ds := [.int 1 tk_need_numbers]) t_need_numbers fun _ _ _ _ _ _ us hl => match us, (show us.length = 1 from Nat.succ.inj (List.length_append.symm.trans hl)) with | [_], _ => ⟨_, rfl, rfl⟩
  have F_settle := fun_mk (st := s_settle) l_settle c_settle k_settle
  have B_settle := F_settle.binds (ps := ["elders", "spine", "place", "keep"]) fun _ _ _ _ _ _ us hl => match us, hl with | [_, _, _, _], _ => rfl
  have F_tree_of := fun_mk (st := s_tree_of) l_tree_of c_tree_of k_tree_of
  have B_tree_of := F_tree_of.binds (ps := ["row"]) fun _ _ _ _ _ _ us hl => match us, hl with | [_], _ => rfl
  have F_way_up := fun_mk (st := s_way_up) l_way_up c_way_up k_way_up
  have B_way_up := F_way_up.binds (ps := ["tree", "place"]) fun _ _ _ _ _ _ us hl => match us, hl with | [_, _], _ => rfl
  have F_fences_of := fun_mk (st := s_fences_of) l_fences_of c_fences_of k_fences_of
  have B_fences_of := F_fences_of.binds (ps := ["tree"]) fun _ _ _ _ _ _ us hl => match us, hl with | [_], _ => rfl
  have F_distance_list := fun_mk (st := s_distance_list) l_distance_list c_distance_list k_distance_list
  have B_distance_list := F_distance_list.binds (ps := ["tree"]) fun _ _ _ _ _ _ us hl => match us, hl with | [_], _ => rfl
  have F_row_distances := fun_mk (st := s_row_distances) l_row_distances c_row_distances k_row_distances
  have B_row_distances := F_row_distances.binds (ps := ["row"]) fun _ _ _ _ _ _ us hl => match us, hl with | [_], _ => rfl
  have F_seen_within := fun_mk (st := s_seen_within) l_seen_within c_seen_within k_seen_within
  have B_seen_within := F_seen_within.binds (ps := ["distance", "size"]) fun _ _ _ _ _ _ us hl => match us, hl with | [_, _], _ => rfl
  have F_follow := fun_mk (st := s_follow) l_follow c_follow k_follow
  have B_follow := F_follow.binds (ps := ["told", "borders", "size", "distance"]) fun _ _ _ _ _ _ us hl => match us, hl with | [_, _, _, _], _ => rfl
  have F_borders_by := fun_mk (st := s_borders_by) l_borders_by c_borders_by k_borders_by
  have B_borders_by := F_borders_by.binds (ps := ["told"]) fun _ _ _ _ _ _ us hl => match us, hl with | [_], _ => rfl
  have F_need_watched := fun_mk (st := s_need_watched) l_need_watched c_need_watched k_need_watched
  have B_need_watched := F_need_watched.binds (ps := ["rows"]) fun _ _ _ _ _ _ us hl => match us, hl with | [_], _ => rfl
  have F_next_distance := fun_mk (st := s_next_distance) l_next_distance c_next_distance k_next_distance
  have B_next_distance := F_next_distance.binds (ps := ["given", "number"]) fun _ _ _ _ _ _ us hl => match us, hl with | [_, _], _ => rfl
  have F_Watch___init__ := fun_mk (st := s_Watch___init__) l_Watch___init__ c_Watch___init__ k_Watch___init__
  have B_Watch___init__ := F_Watch___init__.binds (ps := ["self", "rows"]) fun _ _ _ _ _ _ us hl => match us, hl with | [_, _], _ => rfl
  have F_Watch_give := fun_mk (st := s_Watch_give) l_Watch_give c_Watch_give k_Watch_give
  have B_Watch_give := F_Watch_give.binds (ps := ["self", "number"]) fun _ _ _ _ _ _ us hl => match us, hl with | [_, _], _ => rfl
  have F_Watch_reach_now := fun_mk (st := s_Watch_reach_now) l_Watch_reach_now c_Watch_reach_now k_Watch_reach_now
  have B_Watch_reach_now := F_Watch_reach_now.binds (ps := ["self"]) fun _ _ _ _ _ _ us hl => match us, hl with | [_], _ => rfl
  have F_Watch_how_many := fun_mk (st := s_Watch_how_many) l_Watch_how_many c_Watch_how_many k_Watch_how_many
  have B_Watch_how_many := F_Watch_how_many.binds (ps := ["self"]) fun _ _ _ _ _ _ us hl => match us, hl with | [_], _ => rfl
  have F__law_deal := fun_mk (st := s__law_deal) l__law_deal c__law_deal k__law_deal
  have B__law_deal := F__law_deal.binds (ps := ["script", "k"]) fun _ _ _ _ _ _ us hl => match us, hl with | [_, _], _ => rfl
  have F__law_take := fun_mk (st := s__law_take) l__law_take c__law_take k__law_take
  have B__law_take := F__law_take.binds (ps := ["pot", "many"]) fun _ _ _ _ _ _ us hl => match us, hl with | [_, _], _ => rfl
  have F__law_whole := fun_mk (st := s__law_whole) l__law_whole c__law_whole k__law_whole
  have B__law_whole := F__law_whole.binds (ps := ["thing"]) fun _ _ _ _ _ _ us hl => match us, hl with | [_], _ => rfl
  have F__law_row := fun_mk (st := s__law_row) l__law_row c__law_row k__law_row
  have B__law_row := F__law_row.binds (ps := ["pot", "most"]) fun _ _ _ _ _ _ us hl => match us, hl with | [_, _], _ => rfl
  have F__law_elder := fun_mk (st := s__law_elder) l__law_elder c__law_elder k__law_elder
  have B__law_elder := F__law_elder.binds (ps := ["row", "place"]) fun _ _ _ _ _ _ us hl => match us, hl with | [_, _], _ => rfl
  have F__law_tree := fun_mk (st := s__law_tree) l__law_tree c__law_tree k__law_tree
  have B__law_tree := F__law_tree.binds (ps := ["row"]) fun _ _ _ _ _ _ us hl => match us, hl with | [_], _ => rfl
  have F__law_either := fun_mk (st := s__law_either) l__law_either c__law_either k__law_either
  have B__law_either := F__law_either.binds (ps := ["pot", "some"]) fun _ _ _ _ _ _ us hl => match us, hl with | [_, _], _ => rfl
  have F__law_rows := fun_mk (st := s__law_rows) l__law_rows c__law_rows k__law_rows
  have B__law_rows := F__law_rows.binds (ps := ["pot"]) fun _ _ _ _ _ _ us hl => match us, hl with | [_], _ => rfl
  have F__law_stream := fun_mk (st := s__law_stream) l__law_stream c__law_stream k__law_stream
  have B__law_stream := F__law_stream.binds (ps := ["pot", "rows"]) fun _ _ _ _ _ _ us hl => match us, hl with | [_, _], _ => rfl
  have F__law_ended := fun_mk (st := s__law_ended) l__law_ended c__law_ended k__law_ended
  have B__law_ended := F__law_ended.binds (ps := ["trees", "given"]) fun _ _ _ _ _ _ us hl => match us, hl with | [_, _], _ => rfl
  have F__law_beginnings := fun_mk (st := s__law_beginnings) l__law_beginnings c__law_beginnings k__law_beginnings
  have B__law_beginnings := F__law_beginnings.binds (ps := ["rows"]) fun _ _ _ _ _ _ us hl => match us, hl with | [_], _ => rfl
  have F__law_right := fun_mk (st := s__law_right) l__law_right c__law_right k__law_right
  have B__law_right := F__law_right.binds (ps := ["watch", "trees", "given", "told"]) fun _ _ _ _ _ _ us hl => match us, hl with | [_, _, _, _], _ => rfl
  have F_law := fun_mk (st := s_law) l_law c_law k_law
  refine ⟨PySem.W.fnOf "law" "law" (defArgs s_law) (defBody s_law) (defScope s_law) .none kV_law dc_law pm_law an_law cd_law ct_law, fun s v => .of_eq rfl, fun base _ _ => ?_⟩
  have G_settle : Callee l.prog w K mg base "settle" 1 ["elders", "spine", "place", "keep"] (sp_settle K mg) := ⟨_, _, PySem.W.mg_of X G a_settle, k_settle, B_settle, ok_settle F_settle  T⟩
  have G_tree_of : Callee l.prog w K mg base "tree_of" 2 ["row"] (sp_tree_of K mg) := ⟨_, _, PySem.W.mg_of X G a_tree_of, k_tree_of, B_tree_of, ok_tree_of F_tree_of G_settle T⟩
  have G_way_up : Callee l.prog w K mg base "way_up" 1 ["tree", "place"] (sp_way_up K mg) := ⟨_, _, PySem.W.mg_of X G a_way_up, k_way_up, B_way_up, ok_way_up F_way_up  T⟩
  have G_fences_of : Callee l.prog w K mg base "fences_of" 2 ["tree"] (sp_fences_of K mg) := ⟨_, _, PySem.W.mg_of X G a_fences_of, k_fences_of, B_fences_of, ok_fences_of F_fences_of G_way_up T⟩
  have G_distance_list : Callee l.prog w K mg base "distance_list" 3 ["tree"] (sp_distance_list K mg) := ⟨_, _, PySem.W.mg_of X G a_distance_list, k_distance_list, B_distance_list, ok_distance_list F_distance_list G_fences_of T⟩
  have G_row_distances : Callee l.prog w K mg base "row_distances" 4 ["row"] (sp_row_distances K mg) := ⟨_, _, PySem.W.mg_of X G a_row_distances, k_row_distances, B_row_distances, ok_row_distances F_row_distances G_tree_of G_distance_list T⟩
  have G_seen_within : Callee l.prog w K mg base "seen_within" 1 ["distance", "size"] (sp_seen_within K mg) := ⟨_, _, PySem.W.mg_of X G a_seen_within, k_seen_within, B_seen_within, ok_seen_within F_seen_within  T⟩
  have G_follow : Callee l.prog w K mg base "follow" 2 ["told", "borders", "size", "distance"] (sp_follow K mg) := ⟨_, _, PySem.W.mg_of X G a_follow, k_follow, B_follow, ok_follow F_follow G_seen_within T⟩
  have G_borders_by : Callee l.prog w K mg base "borders_by" 3 ["told"] (sp_borders_by K mg) := ⟨_, _, PySem.W.mg_of X G a_borders_by, k_borders_by, B_borders_by, ok_borders_by F_borders_by G_follow T⟩
  have G_need_numbers : Callee l.prog w K mg base "need_numbers" 1 ["row", "fewest"] (sp_need_numbers K mg) := ⟨_, _, PySem.W.mg_of X G a_need_numbers, k_need_numbers, B_need_numbers, ok_need_numbers F_need_numbers  T⟩
  have GD_need_numbers : CalleeD l.prog w K mg base "need_numbers" 1 ["row", "fewest"] [V.int 1] (sp_need_numbers K mg) := ⟨_, _, _, PySem.W.mg_of X G a_need_numbers, k_need_numbers, BD_need_numbers, .cons ⟨_, rfl⟩ .nil, ok_need_numbers F_need_numbers  T⟩
  have G_need_watched : Callee l.prog w K mg base "need_watched" 2 ["rows"] (sp_need_watched K mg) := ⟨_, _, PySem.W.mg_of X G a_need_watched, k_need_watched, B_need_watched, ok_need_watched F_need_watched GD_need_numbers T⟩
  have GI_Watch : CalleeI l.prog w K mg base "Watch" 5 ["self", "rows"] (sp_Watch___init__ K mg) := ⟨_, _, by rw [q_Watch]; exact ⟨mk_Watch, a_Watch___init__, i_Watch___init__, kc_Watch⟩, by rw [q_Watch]; exact PySem.W.mg_of X G n_Watch, B_Watch___init__, ok_Watch___init__ F_Watch___init__ G_row_distances G_borders_by G_need_watched T⟩
  have G_next_distance : Callee l.prog w K mg base "next_distance" 1 ["given", "number"] (sp_next_distance K mg) := ⟨_, _, PySem.W.mg_of X G a_next_distance, k_next_distance, B_next_distance, ok_next_distance F_next_distance  T⟩
  have GM_Watch_give : CalleeM l.prog w K mg base "Watch" "give" 3 ["self", "number"] (sp_Watch_give K mg) := ⟨_, _, T.cl_Watch, by rw [q_Watch]; exact ⟨a_Watch_give, i_Watch_give, k_Watch_give⟩, B_Watch_give, ok_Watch_give F_Watch_give G_follow G_next_distance T⟩
  have GM_Watch_reach_now : CalleeM l.prog w K mg base "Watch" "reach_now" 1 ["self"] (sp_Watch_reach_now K mg) := ⟨_, _, T.cl_Watch, by rw [q_Watch]; exact ⟨a_Watch_reach_now, i_Watch_reach_now, k_Watch_reach_now⟩, B_Watch_reach_now, ok_Watch_reach_now F_Watch_reach_now  T⟩
  have GM_Watch_how_many : CalleeM l.prog w K mg base "Watch" "how_many" 1 ["self"] (sp_Watch_how_many K mg) := ⟨_, _, T.cl_Watch, by rw [q_Watch]; exact ⟨a_Watch_how_many, i_Watch_how_many, k_Watch_how_many⟩, B_Watch_how_many, ok_Watch_how_many F_Watch_how_many  T⟩
  have G__law_deal : Callee l.prog w K mg base "_law_deal" 1 ["script", "k"] (sp__law_deal K mg) := ⟨_, _, PySem.W.mg_of X G a__law_deal, k__law_deal, B__law_deal, ok__law_deal F__law_deal  T⟩
  have G__law_take : Callee l.prog w K mg base "_law_take" 1 ["pot", "many"] (sp__law_take K mg) := ⟨_, _, PySem.W.mg_of X G a__law_take, k__law_take, B__law_take, ok__law_take F__law_take  T⟩
  have G__law_either : Callee l.prog w K mg base "_law_either" 2 ["pot", "some"] (sp__law_either K mg) := ⟨_, _, PySem.W.mg_of X G a__law_either, k__law_either, B__law_either, ok__law_either F__law_either G__law_take T⟩
  have G__law_row : Callee l.prog w K mg base "_law_row" 2 ["pot", "most"] (sp__law_row K mg) := ⟨_, _, PySem.W.mg_of X G a__law_row, k__law_row, B__law_row, ok__law_row F__law_row G__law_take T⟩
  have G__law_rows : Callee l.prog w K mg base "_law_rows" 3 ["pot"] (sp__law_rows K mg) := ⟨_, _, PySem.W.mg_of X G a__law_rows, k__law_rows, B__law_rows, ok__law_rows F__law_rows G__law_take G__law_row T⟩
  have G__law_stream : Callee l.prog w K mg base "_law_stream" 2 ["pot", "rows"] (sp__law_stream K mg) := ⟨_, _, PySem.W.mg_of X G a__law_stream, k__law_stream, B__law_stream, ok__law_stream F__law_stream G__law_take T⟩
  have G__law_elder : Callee l.prog w K mg base "_law_elder" 1 ["row", "place"] (sp__law_elder K mg) := ⟨_, _, PySem.W.mg_of X G a__law_elder, k__law_elder, B__law_elder, ok__law_elder F__law_elder  T⟩
  have G__law_tree : Callee l.prog w K mg base "_law_tree" 2 ["row"] (sp__law_tree K mg) := ⟨_, _, PySem.W.mg_of X G a__law_tree, k__law_tree, B__law_tree, ok__law_tree F__law_tree G__law_elder T⟩
  have G__law_beginnings : Callee l.prog w K mg base "_law_beginnings" 3 ["rows"] (sp__law_beginnings K mg) := ⟨_, _, PySem.W.mg_of X G a__law_beginnings, k__law_beginnings, B__law_beginnings, ok__law_beginnings F__law_beginnings G__law_tree T⟩
  have G__law_whole : Callee l.prog w K mg base "_law_whole" 1 ["thing"] (sp__law_whole K mg) := ⟨_, _, PySem.W.mg_of X G a__law_whole, k__law_whole, B__law_whole, ok__law_whole F__law_whole  T⟩
  have G__law_ended : Callee l.prog w K mg base "_law_ended" 3 ["trees", "given"] (sp__law_ended K mg) := ⟨_, _, PySem.W.mg_of X G a__law_ended, k__law_ended, B__law_ended, ok__law_ended F__law_ended G__law_tree T⟩
  have G__law_right : Callee l.prog w K mg base "_law_right" 4 ["watch", "trees", "given", "told"] (sp__law_right K mg) := ⟨_, _, PySem.W.mg_of X G a__law_right, k__law_right, B__law_right, ok__law_right F__law_right GM_Watch_reach_now GM_Watch_how_many G__law_whole G__law_ended T⟩
  exact ok_law F_law GI_Watch GM_Watch_give GM_Watch_reach_now GM_Watch_how_many G__law_deal G__law_either G__law_rows G__law_stream G__law_beginnings G__law_right T
theorem walk {l : PySem.W.OpenLaw} {q : Program} {loose : List Str} {XP : (Str → Option Value) → Heap → Prop} {YP : World → Heap → Prop} {d : DefRec} {K : Params → PySem.W.Frag} (hn : l.most = some 63) (hdf : d.params.defaults = [])
    (hY : ∀ (w : World) (h : Heap), YP w h → (K w.params).In h)
    (F : ∀ (w : World) (mg : Str → Option Value) (fa : Addr) (h : Heap), (K w.params).In h → h.Ns mainGlobals mg → mg d.name = some (.ref fa) →
      ∃ fd : FuncData, (∀ (s : Shared) (u : Value), BindsTo s fd ⟨[u], []⟩ [("script", u)]) ∧ ∀ base : Heap, (K w.params).In base → base.Ns mainGlobals mg → FnOk l.prog w (K w.params) mg base (CXE l.prog w) 7 fa fd ["script"] (spLaw (K w.params))) :
    PySem.W.WalkO q loose XP YP l.row.toRowW d [] (fun f vs => PySem.call f vs) :=
  L2.walk_of (n := 63) (k := 7) (x := "script") (CX := fun w => CXE l.prog w) (sp := fun w => spLaw (K w.params)) hn (by decide) hdf ⟨rfl, by decide, by decide⟩ hY F (fun _ _ a ns hl _ hS => ⟨a, ns, rfl, hS, hl, fun _ => rfl⟩) fun _ _ _ _ _ ⟨_, _, _, _, _, _, _, z⟩ => z
end K43
def PySem.W.Fast.tw17228820592213439756 : Unit := ()
def PySem.W.Fast.tw14163537564579941998 : Unit := ()
def PySem.W.Fast.tw3430734532384034973 : Unit := ()
def PySem.W.Fast.tw2152106530935863780 : Unit := ()
def PySem.W.Fast.tw3595963575042514480 : Unit := ()
def PySem.W.Fast.tw9937727673498595162 : Unit := ()
def PySem.W.Fast.tw9339788419115422273 : Unit := ()
def PySem.W.Fast.tw354963273646677276 : Unit := ()
def PySem.W.Fast.tw8798508945546666150 : Unit := ()
def PySem.W.Fast.tw15889782218815307750 : Unit := ()
def PySem.W.Fast.tw17682336161851588181 : Unit := ()
def PySem.W.Fast.tw832874174217228719 : Unit := ()
def PySem.W.Fast.tw13423324227623791891 : Unit := ()
def PySem.W.Fast.tw12762264149208957182 : Unit := ()
def PySem.W.Fast.tw5632200490985217893 : Unit := ()
def PySem.W.Fast.tw11145954597777324581 : Unit := ()
def PySem.W.Fast.tw15222029416990177317 : Unit := ()
def PySem.W.Fast.tw14092145789280157869 : Unit := ()
def PySem.W.Fast.tw14622530920146278944 : Unit := ()
def PySem.W.Fast.tw13660760413515268431 : Unit := ()
def PySem.W.Fast.tw9194555984637958069 : Unit := ()
def PySem.W.Fast.tw4607968987664961451 : Unit := ()
def PySem.W.Fast.tw17721286351041658467 : Unit := ()
def PySem.W.Fast.tw4592437192891617865 : Unit := ()
def PySem.W.Fast.tw14456376805758423396 : Unit := ()
def PySem.W.Fast.tw14588807246218792272 : Unit := ()
def PySem.W.Fast.tw14245404688184616901 : Unit := ()
def PySem.W.Fast.tw13800758001226007603 : Unit := ()
def PySem.W.Fast.tw13062661140911057754 : Unit := ()
def PySem.W.Fast.tw10388984309119354836 : Unit := ()
def PySem.W.Fast.tw12954550106144903248 : Unit := ()
def PySem.W.Fast.tw17371208805172225741 : Unit := ()
def PySem.W.Fast.tw1117528347176508724 : Unit := ()
def PySem.W.Fast.tw5957638086529322018 : Unit := ()
def PySem.W.Fast.tw9488112419917668947 : Unit := ()
def PySem.W.Fast.tw8187641839138296778 : Unit := ()
def PySem.W.Fast.tw11276123365884568138 : Unit := ()
def PySem.W.Fast.tw6634047230152415514 : Unit := ()
def PySem.W.Fast.tw8761351298223413104 : Unit := ()
def PySem.W.Fast.tw12669392602271125327 : Unit := ()
def PySem.W.Fast.tw17013521471562448900 : Unit := ()
def PySem.W.Fast.tw3720371262664913507 : Unit := ()
def PySem.W.Fast.tw16125468304794081343 : Unit := ()
def PySem.W.Fast.tw9159610288902764913 : Unit := ()
def PySem.W.Fast.tw3391757605757452613 : Unit := ()
def PySem.W.Fast.tw614554444860705579 : Unit := ()
def PySem.W.Fast.tw641504037521929143 : Unit := ()
def PySem.W.Fast.tw7609059543194278331 : Unit := ()
def PySem.W.Fast.tw1198873358725282173 : Unit := ()
def PySem.W.Fast.tw415423238233329918 : Unit := ()
def PySem.W.Fast.tw6687485536592342462 : Unit := ()
def PySem.W.Fast.tw17904374300983573005 : Unit := ()
def PySem.W.Fast.tw7276918685737812878 : Unit := ()
def PySem.W.Fast.tw8976816628171521962 : Unit := ()
def PySem.W.Fast.tw6480426647184926239 : Unit := ()
def PySem.W.Fast.tw10618874856512629903 : Unit := ()
def PySem.W.Fast.tw18173721898400206819 : Unit := ()
def PySem.W.Fast.tw8248785608947430707 : Unit := ()
def PySem.W.Fast.tw9724812799966898590 : Unit := ()
def PySem.W.Fast.tw12360515291526430212 : Unit := ()
def PySem.W.Fast.tw9367380971202933929 : Unit := ()
def PySem.W.Fast.tw7891179600223593694 : Unit := ()
def PySem.W.Fast.tw8699416741968962169 : Unit := ()
def PySem.W.Fast.tw10664153382407471145 : Unit := ()
def PySem.W.Fast.tw8438205820620669730 : Unit := ()
def PySem.W.Fast.tw13638026623673262563 : Unit := ()
def PySem.W.Fast.tw1694384213398398199 : Unit := ()
def PySem.W.Fast.tw1916028571193449746 : Unit := ()
def PySem.W.Fast.tw12851710203570403660 : Unit := ()
def PySem.W.Fast.tw10915858218961789295 : Unit := ()
def PySem.W.Fast.tw6954123061285861341 : Unit := ()
def PySem.W.Fast.tw1088782943286492010 : Unit := ()
def PySem.W.Fast.tw16604063558815088841 : Unit := ()
def PySem.W.Fast.tw7349684153481739853 : Unit := ()
def PySem.W.Fast.tw2003999365125416857 : Unit := ()
def PySem.W.Fast.tw6841267446581312449 : Unit := ()
def PySem.W.Fast.tw11718040087497442231 : Unit := ()

open PySem PySem.W PyProof.Rows
set_option maxRecDepth 100000 in
set_option maxHeartbeats 0 in
theorem PySem.Challenge.cw_dipkin_k43_a_watch_tells_holds : PySem.Challenge.rw_dipkin_k43_a_watch_tells.Holds := by
  w_on; o_law; k_head; (case hw => w_witness2)
  k_fill
  refine K43.walk (l := PySem.Challenge.rw_dipkin_k43_a_watch_tells) rfl rfl (fun w h Y => PySem.W.kIn_of Y) ?F
  case F =>
    intro w mg fa h KX G hmg
    refine' K43.all_mk KX G hmg ?n_Watch ?pg_Watch ?hd_Watch ?po_Watch ?sa_Watch ?mk_Watch ?kc_Watch ?na_Watch_distances ?na_Watch_borders ?na_Watch_given ?na_Watch_sizes ?a_need_numbers ?l_need_numbers ?c_need_numbers ?k_need_numbers ?t_need_numbers ?a_settle ?l_settle ?c_settle ?k_settle ?a_tree_of ?l_tree_of ?c_tree_of ?k_tree_of ?a_way_up ?l_way_up ?c_way_up ?k_way_up ?a_fences_of ?l_fences_of ?c_fences_of ?k_fences_of ?a_distance_list ?l_distance_list ?c_distance_list ?k_distance_list ?a_row_distances ?l_row_distances ?c_row_distances ?k_row_distances ?a_seen_within ?l_seen_within ?c_seen_within ?k_seen_within ?a_follow ?l_follow ?c_follow ?k_follow ?a_borders_by ?l_borders_by ?c_borders_by ?k_borders_by ?a_need_watched ?l_need_watched ?c_need_watched ?k_need_watched ?a_next_distance ?l_next_distance ?c_next_distance ?k_next_distance ?a_Watch___init__ ?i_Watch___init__ ?l_Watch___init__ ?c_Watch___init__ ?k_Watch___init__ ?a_Watch_give ?i_Watch_give ?l_Watch_give ?c_Watch_give ?k_Watch_give ?a_Watch_reach_now ?i_Watch_reach_now ?l_Watch_reach_now ?c_Watch_reach_now ?k_Watch_reach_now ?a_Watch_how_many ?i_Watch_how_many ?l_Watch_how_many ?c_Watch_how_many ?k_Watch_how_many ?a__law_deal ?l__law_deal ?c__law_deal ?k__law_deal ?a__law_take ?l__law_take ?c__law_take ?k__law_take ?a__law_whole ?l__law_whole ?c__law_whole ?k__law_whole ?a__law_row ?l__law_row ?c__law_row ?k__law_row ?a__law_elder ?l__law_elder ?c__law_elder ?k__law_elder ?a__law_tree ?l__law_tree ?c__law_tree ?k__law_tree ?a__law_either ?l__law_either ?c__law_either ?k__law_either ?a__law_rows ?l__law_rows ?c__law_rows ?k__law_rows ?a__law_stream ?l__law_stream ?c__law_stream ?k__law_stream ?a__law_ended ?l__law_ended ?c__law_ended ?k__law_ended ?a__law_beginnings ?l__law_beginnings ?c__law_beginnings ?k__law_beginnings ?a__law_right ?l__law_right ?c__law_right ?k__law_right ?a_law ?l_law ?c_law ?k_law ?n_DipError ?x_DipError ?d_DipError ?y_DipError ?n_Empty ?x_Empty ?d_Empty ?y_Empty ?n_TooMany ?x_TooMany ?d_TooMany ?y_TooMany ?b_all ?b_bool ?b_enumerate ?b_int ?b_isinstance ?b_len ?b_list ?b_max ?b_min ?b_range ?b_tuple ?b_zip ?m_MOST_WATCHED
    (case n_Watch => k_is)
    (case pg_Watch => k_is)
    (case hd_Watch => k_is)
    (case po_Watch => k_is)
    (case sa_Watch => k_is)
    (case mk_Watch => k_is)
    (case kc_Watch => k_is)
    (case na_Watch_distances => k_is)
    (case na_Watch_borders => k_is)
    (case na_Watch_given => k_is)
    (case na_Watch_sizes => k_is)
    (case a_need_numbers => k_is)
    (case l_need_numbers => k_is)
    (case c_need_numbers => k_is)
    (case k_need_numbers => k_is)
    (case t_need_numbers => k_is)
    (case a_settle => k_is)
    (case l_settle => k_is)
    (case c_settle => k_is)
    (case k_settle => k_is)
    (case a_tree_of => k_is)
    (case l_tree_of => k_is)
    (case c_tree_of => k_is)
    (case k_tree_of => k_is)
    (case a_way_up => k_is)
    (case l_way_up => k_is)
    (case c_way_up => k_is)
    (case k_way_up => k_is)
    (case a_fences_of => k_is)
    (case l_fences_of => k_is)
    (case c_fences_of => k_is)
    (case k_fences_of => k_is)
    (case a_distance_list => k_is)
    (case l_distance_list => k_is)
    (case c_distance_list => k_is)
    (case k_distance_list => k_is)
    (case a_row_distances => k_is)
    (case l_row_distances => k_is)
    (case c_row_distances => k_is)
    (case k_row_distances => k_is)
    (case a_seen_within => k_is)
    (case l_seen_within => k_is)
    (case c_seen_within => k_is)
    (case k_seen_within => k_is)
    (case a_follow => k_is)
    (case l_follow => k_is)
    (case c_follow => k_is)
    (case k_follow => k_is)
    (case a_borders_by => k_is)
    (case l_borders_by => k_is)
    (case c_borders_by => k_is)
    (case k_borders_by => k_is)
    (case a_need_watched => k_is)
    (case l_need_watched => k_is)
    (case c_need_watched => k_is)
    (case k_need_watched => k_is)
    (case a_next_distance => k_is)
    (case l_next_distance => k_is)
    (case c_next_distance => k_is)
    (case k_next_distance => k_is)
    (case a_Watch___init__ => k_is)
    (case i_Watch___init__ => k_is)
    (case l_Watch___init__ => k_is)
    (case c_Watch___init__ => k_is)
    (case k_Watch___init__ => k_is)
    (case a_Watch_give => k_is)
    (case i_Watch_give => k_is)
    (case l_Watch_give => k_is)
    (case c_Watch_give => k_is)
    (case k_Watch_give => k_is)
    (case a_Watch_reach_now => k_is)
    (case i_Watch_reach_now => k_is)
    (case l_Watch_reach_now => k_is)
    (case c_Watch_reach_now => k_is)
    (case k_Watch_reach_now => k_is)
    (case a_Watch_how_many => k_is)
    (case i_Watch_how_many => k_is)
    (case l_Watch_how_many => k_is)
    (case c_Watch_how_many => k_is)
    (case k_Watch_how_many => k_is)
    (case a__law_deal => k_is)
    (case l__law_deal => k_is)
    (case c__law_deal => k_is)
    (case k__law_deal => k_is)
    (case a__law_take => k_is)
    (case l__law_take => k_is)
    (case c__law_take => k_is)
    (case k__law_take => k_is)
    (case a__law_whole => k_is)
    (case l__law_whole => k_is)
    (case c__law_whole => k_is)
    (case k__law_whole => k_is)
    (case a__law_row => k_is)
    (case l__law_row => k_is)
    (case c__law_row => k_is)
    (case k__law_row => k_is)
    (case a__law_elder => k_is)
    (case l__law_elder => k_is)
    (case c__law_elder => k_is)
    (case k__law_elder => k_is)
    (case a__law_tree => k_is)
    (case l__law_tree => k_is)
    (case c__law_tree => k_is)
    (case k__law_tree => k_is)
    (case a__law_either => k_is)
    (case l__law_either => k_is)
    (case c__law_either => k_is)
    (case k__law_either => k_is)
    (case a__law_rows => k_is)
    (case l__law_rows => k_is)
    (case c__law_rows => k_is)
    (case k__law_rows => k_is)
    (case a__law_stream => k_is)
    (case l__law_stream => k_is)
    (case c__law_stream => k_is)
    (case k__law_stream => k_is)
    (case a__law_ended => k_is)
    (case l__law_ended => k_is)
    (case c__law_ended => k_is)
    (case k__law_ended => k_is)
    (case a__law_beginnings => k_is)
    (case l__law_beginnings => k_is)
    (case c__law_beginnings => k_is)
    (case k__law_beginnings => k_is)
    (case a__law_right => k_is)
    (case l__law_right => k_is)
    (case c__law_right => k_is)
    (case k__law_right => k_is)
    (case a_law => k_is)
    (case l_law => k_is)
    (case c_law => k_is)
    (case k_law => k_is)
    (case n_DipError => k_is)
    (case x_DipError => k_exc)
    (case d_DipError => k_is)
    (case y_DipError => k_is)
    (case n_Empty => k_is)
    (case x_Empty => k_exc)
    (case d_Empty => k_is)
    (case y_Empty => k_is)
    (case n_TooMany => k_is)
    (case x_TooMany => k_exc)
    (case d_TooMany => k_is)
    (case y_TooMany => k_is)
    (case b_all => k_is)
    (case b_bool => k_is)
    (case b_enumerate => k_is)
    (case b_int => k_is)
    (case b_isinstance => k_is)
    (case b_len => k_is)
    (case b_list => k_is)
    (case b_max => k_is)
    (case b_min => k_is)
    (case b_range => k_is)
    (case b_tuple => k_is)
    (case b_zip => k_is)
    (case m_MOST_WATCHED => k_is)

