import PyProof.Rows.All
import Wide.All
import OpenK.AllK
import Wide.FinOn
import Lean
import PyProof.EqAt
import PyProof.EqKinds
import PyProof.TupleCall
import PyProof.MeetsSeq
import PyProof.NeKinds
import PyProof.TupleOfSeq
import PyProof.ListRange
import PyProof.TupleOfGen
import PyProof.ZipIter
import KE.KRevIter
import PyProof.StrWalks
import PyProof.StrBlock2
import PyProof.MeetsStr
import PyProof.StrCalls2
import PyProof.StrLawsIn
import KE.KIntText
import PyProof.StrLawsTight
import PyProof.StrLawsChain
import PyProof.StrLawsAffix
import PyProof.Rows.StrItems
import PyProof.Rows.ReprOcc
import KE.KDictSum
import PyProof.Rows.SeqMore
import KE.KDictList
import PySem.Challenge.RW_dipkin_k61_the_nearest_judged
set_option Elab.async false
set_option linter.all false
set_option maxRecDepth 100000

namespace L2
open PySem PySem.Spec PyProof.Rows


abbrev Key := Sum Int Str
def keyIs : Key → Value → Bool
  | .inl k, v => Value.isInt k v
  | .inr x, v => Value.isStrOf x v
def keyH (w : World) : Key → Int
  | .inl k => hashInt k
  | .inr x => hashStr w x
theorem keyIs_shape : ∀ {k : Key} {v : Value}, keyIs k v = true → (∃ i t, k = Sum.inl i ∧ v = Value.int i t) ∨ (∃ x t, k = Sum.inr x ∧ v = Value.str x t)
  | .inl i, v, h => by
    obtain ⟨t, e⟩ := Value.isInt_shape (k := i) (v := v) h
    exact .inl ⟨i, t, rfl, e⟩
  | .inr x, v, h => by
    obtain ⟨t, e⟩ := Value.isStrOf_shape (x := x) (v := v) h
    exact .inr ⟨x, t, rfl, e⟩
theorem key_ll (a b : Int) : decide ((Sum.inl a : Key) = Sum.inl b) = (a == b) := by
  by_cases e : a = b
  · subst e; simp
  · have h : ¬ (Sum.inl a : Key) = Sum.inl b := fun q => e (Sum.inl.inj q)
    rw [decide_eq_false h]
    exact (beq_eq_false_iff_ne.mpr e).symm
theorem key_rr (a b : Str) : decide ((Sum.inr a : Key) = Sum.inr b) = decide (a = b) := by
  by_cases e : a = b
  · subst e; simp
  · have h : ¬ (Sum.inr a : Key) = Sum.inr b := fun q => e (Sum.inr.inj q)
    rw [decide_eq_false h, decide_eq_false e]
theorem key_lr (a : Int) (b : Str) : decide ((Sum.inl a : Key) = Sum.inr b) = false := decide_eq_false (fun q => nomatch q)
theorem key_rl (a : Str) (b : Int) : decide ((Sum.inr a : Key) = Sum.inl b) = false := decide_eq_false (fun q => nomatch q)

def mixKind (prog : Program) (w : World) : PySem.KeyKind prog w Key where
  is := keyIs
  hash := keyH w
  inj := fun v a b ha hb => by
    rcases keyIs_shape ha with ⟨i, t, rfl, rfl⟩ | ⟨x, t, rfl, rfl⟩
    · rcases keyIs_shape hb with ⟨j, u, rfl, e⟩ | ⟨y, u, rfl, e⟩
      · injection e with e1 _; rw [e1]
      · exact nomatch e
    · rcases keyIs_shape hb with ⟨j, u, rfl, e⟩ | ⟨y, u, rfl, e⟩
      · exact nomatch e
      · injection e with e1 _; rw [e1]
  byValue := fun k v h => by
    rcases keyIs_shape h with ⟨i, t, rfl, rfl⟩ | ⟨x, t, rfl, rfl⟩ <;> rfl
  pyHash := fun hv h => by
    rcases keyIs_shape hv with ⟨i, t, rfl, rfl⟩ | ⟨x, t, rfl, rfl⟩
    · exact wpAny_pyHash_int h
    · exact wpAny_pyHash_str h
  eqBool := fun hu hv h => by
    rcases keyIs_shape hu with ⟨i, t, rfl, rfl⟩ | ⟨x, t, rfl, rfl⟩
    · rcases keyIs_shape hv with ⟨j, u, rfl, rfl⟩ | ⟨y, u, rfl, rfl⟩
      · rw [key_ll] at h; exact wpAny_eqBool_int h
      · rw [key_lr] at h; exact SeqAt.EqAt.int_str i t y u _ _ _ _ h
    · rcases keyIs_shape hv with ⟨j, u, rfl, rfl⟩ | ⟨y, u, rfl, rfl⟩
      · rw [key_rl] at h; exact SeqAt.EqAt.str_int x t j u _ _ _ _ h
      · rw [key_rr] at h; exact wpAny_eqBool_str h
  «strs» := fun k x t v h => by
    rcases keyIs_shape h with ⟨i, u, rfl, e⟩ | ⟨y, u, rfl, e⟩
    · exact nomatch e
    · injection e with e1 _
      subst e1
      cases v <;> rfl

end L2

namespace L2
open PySem PySem.Spec PyProof.Rows


inductive V where
  | non | bl (b : Bool) | int (i : Int) | str (x : Str) | byt (b : Array UInt8) | flt (b : UInt64) | ref (a : Addr) | ty (n : String)
  deriving DecidableEq

def RelV : V → Value → Prop
  | .non, u => u = Value.none
  | .bl b, u => u = Value.bool b
  | .int i, u => ∃ t, u = Value.int i t
  | .str x, u => ∃ t, u = Value.str x t
  | .byt b, u => ∃ t, u = Value.bytes b t
  | .flt b, u => ∃ t, u = Value.float b t
  | .ref a, u => u = Value.ref a
  | .ty n, u => u = Value.type n

abbrev Vals : List V → List Value → Prop := Paired RelV
theorem Vals.length {xs : List V} {us : List Value} (r : Vals xs us) : xs.length = us.length := Paired.length r
theorem Vals.get : ∀ {xs : List V} {us : List Value} {i : Nat} {x : V}, Vals xs us → xs[i]? = some x → ∃ u, us[i]? = some u ∧ RelV x u
  | _, _, _, _, .nil, e => by simp at e
  | _, _, 0, _, .cons r _, e => by simp at e; subst e; exact ⟨_, rfl, r⟩
  | _, _, i + 1, x, .cons _ t, e => by
    obtain ⟨u, h1, h2⟩ := Vals.get (i := i) (x := x) t (by simpa using e)
    exact ⟨u, by simpa using h1, h2⟩
theorem Vals.set {x : V} {u : Value} (r : RelV x u) : ∀ {xs : List V} {us : List Value} (i : Nat), Vals xs us → Vals (xs.set i x) (us.set i u)
  | _, _, _, .nil => .nil
  | _, _, 0, .cons _ t => .cons r t
  | _, _, i + 1, .cons q t => .cons q (Vals.set r i t)
theorem Vals.append : ∀ {xs ys : List V} {us ws : List Value}, Vals xs us → Vals ys ws → Vals (xs ++ ys) (us ++ ws)
  | _, _, _, _, .nil, s => s
  | _, _, _, _, .cons r t, s => .cons r (Vals.append t s)
theorem Vals.take : ∀ {xs : List V} {us : List Value} (n : Nat), Vals xs us → Vals (xs.take n) (us.take n)
  | _, _, 0, _ => .nil
  | _, _, _ + 1, .nil => .nil
  | _, _, n + 1, .cons r t => .cons r (Vals.take n t)
theorem Vals.drop : ∀ {xs : List V} {us : List Value} (n : Nat), Vals xs us → Vals (xs.drop n) (us.drop n)
  | _, _, 0, r => r
  | _, _, _ + 1, .nil => .nil
  | _, _, n + 1, .cons _ t => Vals.drop n t
def RelO : Option V → Option Value → Prop
  | some v, some u => RelV v u
  | none, none => True
  | _, _ => False
def KV {κ : Type} : List (κ × V) → List (κ × Value) → Prop := Paired fun (p : κ × V) (q : κ × Value) => p.1 = q.1 ∧ RelV p.2 q.2


def kV : Key → V
  | .inl i => .int i
  | .inr x => .str x


inductive HO where
  
  | lst (xs : List V)
  
  | tup (xs : List V)
  
  | dK (kvs : List (Key × V)) | dT (kvs : List (List Key × V))
  
  | set (S : Int → Bool) (n : Nat)
  
  | ins (C dx : Addr) (fs : List (Str × V))
  
  | own (x : Addr)
  
  | xd (fs : List (Str × V))
  
  | met (f x : Addr)
  
  | rng (lo hi : Int)
  
  | frz (o : Obj) (u : HO)
  
  | tbl (ps : Array Value)
  
  | ext (φ : Heap → Prop)

abbrev Hp := Addr → Option HO
def upd (H : Hp) (a : Addr) (o : HO) : Hp := fun b => if b = a then some o else H b
theorem upd_same {H : Hp} {a : Addr} {o : HO} : upd H a o a = some o := by unfold upd; rw [if_pos rfl]
theorem upd_ne {H : Hp} {a b : Addr} {o : HO} (h : b ≠ a) : upd H a o b = H b := by unfold upd; rw [if_neg h]
theorem ne_of_none {H : Hp} {a b : Addr} {o : HO} (h : H a = some o) (h' : H b = none) : a ≠ b := by
  intro e; subst e; rw [h] at h'; cases h'

section
variable (P : Program) (w : World)
def ObjOk (H : Hp) (h : Heap) (a : Addr) : HO → Prop
  | .lst xs => xs.length ≤ sizeLine ∧ ∃ (its : List Value) (n : Nat), Vals xs its ∧ h.get? a = some { cls := .type "list", data := .seq its.toArray n }
  | .tup xs => xs.length ≤ sizeLine ∧ ∃ its : List Value, Vals xs its ∧ IsTup h a its.toArray
  | .dK kvs => kvs.length ≤ sizeLine ∧ (a == sysModules) = false ∧ ∃ vs, KV kvs vs ∧ h.DictOf (mixKind P w) a vs
  | .dT kvs => kvs.length ≤ sizeLine ∧ (a == sysModules) = false ∧ ∃ xs : List (List Key × Addr × Value),
      Paired (fun (p : List Key × V) (q : List Key × Addr × Value) => p.1 = q.1 ∧ H q.2.1 = some (.tup (p.1.map kV)) ∧ RelV p.2 q.2.2) kvs xs ∧
      ∃ o es ep, h.get? a = some o ∧ o.ExactDict ∧ o.data = .dict es ep ∧ es.toList = xs.map (entryOfKey (tupleKind (mixKind P w))) ∧ (xs.map (·.1)).Nodup
  | .set S n => h.SetOf (intKind P w) a S n
  | .ins C dx fs => H dx = some (.own a) ∧ fs.length ≤ 1000 ∧ dx ≠ a ∧ h.get? a = some (PySem.W.instObj C dx) ∧
      ∃ mA, h.Ns1 dx mA ∧ (∀ f, RelO (fs.lookup f) (mA f)) ∧ PySem.Within mA (fs.map (·.1))
  | .own _ => ∃ o, h.get? a = some o
  | .xd fs => ∃ mA, h.Ns1 a mA ∧ ∀ f, RelO (fs.lookup f) (mA f)
  | .rng lo hi => ∃ t u v, h.get? a = some { cls := .type "range", data := .fields #[.int lo t, .int hi u, .int 1 v] }
  | .frz o u => h.get? a = some o ∧ ObjOk H h a u
  | .tbl ps => ∃ ts : Array Value, h.get? a = some { cls := .none, data := .fields ts } ∧ TriplesOk ts.toList ∧ ∀ pos cv, codeAmong pos ts.toList = some cv → ∃ c oc vs q t t', cv = .ref c ∧ H c = some (.frz oc (.own a)) ∧ oc.data = .fields vs ∧ ps[0]? = some (.str q t) ∧ vs[1]? = some (.str q t')
  | .met f x => h.get? a = some (PySem.W.methodObj (.ref f) (.ref x))
  | .ext φ => φ h ∧ (∃ o, h.get? a = some o) ∧ ∀ h1 h2 : Heap, φ h1 → (∀ o, h1.get? a = some o → h2.get? a = some o) → φ h2

def HOk (H : Hp) (h : Heap) : Prop := ∀ a o, H a = some o → ObjOk P w H h a o
end

section
variable {P : Program} {w : World} {H H' : Hp} {h h' : Heap} {a : Addr} {o : HO}
theorem ObjOk.lt (x : ObjOk P w H h a o) : a < h.objs.size := by
  cases o with
  | lst xs => obtain ⟨_, _, _, _, e⟩ := x; exact Heap.lt_size e
  | tup xs => obtain ⟨_, _, _, p⟩ := x; exact p.lt
  | dK kvs => obtain ⟨_, _, _, _, o, _, _, e, _⟩ := x; exact Heap.lt_size e
  | dT kvs => obtain ⟨_, _, _, _, o, _, _, e, _⟩ := x; exact Heap.lt_size e
  | set S n => obtain ⟨o, _, _, _, e, _⟩ := x; exact Heap.lt_size e
  | ins C dx fs => obtain ⟨_, _, _, e, _⟩ := x; exact Heap.lt_size e
  | own y => obtain ⟨_, e⟩ := x; exact Heap.lt_size e
  | xd fs => obtain ⟨_, ⟨_, _, _, e, _⟩, _⟩ := x; exact Heap.lt_size e
  | rng lo hi => obtain ⟨_, _, _, e⟩ := x; exact Heap.lt_size e
  | frz ob u => obtain ⟨e, _⟩ := x; exact Heap.lt_size e
  | tbl ps => obtain ⟨_, e, _⟩ := x; exact Heap.lt_size e
  | met f y => exact Heap.lt_size (show h.get? a = some _ from x)
  | ext φ => obtain ⟨_, ⟨_, e⟩, _⟩ := x; exact Heap.lt_size e
theorem Paired.mapP {α β : Type} {F G : α → β → Prop} : ∀ {l₁ : List α} {l₂ : List β}, Paired F l₁ l₂ → (∀ a b, F a b → G a b) → Paired G l₁ l₂
  | _, _, .nil, _ => .nil
  | _, _, .cons r t, f => .cons (f _ _ r) (Paired.mapP t f)
theorem ObjOk.stay (x : ObjOk P w H h a o) (k : ∀ b u, (b = a ∨ H b = some (.own a)) → h.get? b = some u → h'.get? b = some u)
    (ho : ∀ b, H b = some (.own a) → H' b = some (.own a)) (ht : ∀ b xs, H b = some (.tup xs) → H' b = some (.tup xs)) (hz : ∀ b o u, H b = some (.frz o u) → H' b = some (.frz o u)) : ObjOk P w H' h' a o := by
  induction o with
  | lst xs => obtain ⟨z, its, n, r, e⟩ := x; exact ⟨z, its, n, r, k _ _ (.inl rfl) e⟩
  | tup xs => obtain ⟨z, its, r, ob, e, c⟩ := x; exact ⟨z, its, r, ob, k _ _ (.inl rfl) e, c⟩
  | dK kvs => obtain ⟨z, y, vs, r, ob, es, ep, e, c⟩ := x; exact ⟨z, y, vs, r, ob, es, ep, k _ _ (.inl rfl) e, c⟩
  | dT kvs =>
    obtain ⟨z, y, xs, r, ob, es, ep, e, c⟩ := x
    exact ⟨z, y, xs, Paired.mapP r fun p q z => ⟨z.1, ht _ _ z.2.1, z.2.2⟩, ob, es, ep, k _ _ (.inl rfl) e, c⟩
  | set S n => obtain ⟨ob, es, ep, t, e, c⟩ := x; exact ⟨ob, es, ep, t, k _ _ (.inl rfl) e, c⟩
  | ins C dx fs =>
    obtain ⟨d, z, ne, e, mA, ⟨od, es, ep, e2, c⟩, r⟩ := x
    exact ⟨ho _ d, z, ne, k _ _ (.inl rfl) e, mA, ⟨od, es, ep, k _ _ (.inr d) e2, c⟩, r⟩
  | own y => obtain ⟨ob, e⟩ := x; exact ⟨ob, k _ _ (.inl rfl) e⟩
  | xd fs => obtain ⟨mA, ⟨od, es, ep, e, c⟩, r⟩ := x; exact ⟨mA, ⟨od, es, ep, k _ _ (.inl rfl) e, c⟩, r⟩
  | rng lo hi => obtain ⟨t, u, v, e⟩ := x; exact ⟨t, u, v, k _ _ (.inl rfl) e⟩
  | frz ob u ih => obtain ⟨e, q⟩ := x; exact ⟨k _ _ (.inl rfl) e, ih q⟩
  | tbl ps =>
    obtain ⟨ts, e, t3, z⟩ := x
    refine ⟨ts, k a _ (.inl rfl) e, t3, fun pos cv hc => ?_⟩
    obtain ⟨c, oc, vs, q, t, t', e1, e2, r⟩ := z pos cv hc
    exact ⟨c, oc, vs, q, t, t', e1, hz _ _ _ e2, r⟩
  | met f y =>
    have e : h.get? a = some (PySem.W.methodObj (.ref f) (.ref y)) := x
    show h'.get? a = some (PySem.W.methodObj (.ref f) (.ref y))
    exact k a _ (.inl rfl) e
  | ext φ => obtain ⟨p, ⟨o, e⟩, st⟩ := x; exact ⟨st _ _ p fun o q => k _ _ (.inl rfl) q, ⟨o, k _ _ (.inl rfl) e⟩, st⟩
theorem HOk.lt (x : HOk P w H h) (e : H a = some o) : a < h.objs.size := (x a o e).lt
theorem HOk.fresh (x : HOk P w H h) (e : h.objs.size ≤ a) : H a = none := by
  cases q : H a with
  | none => rfl
  | some u => exact absurd (Nat.lt_of_lt_of_le (x.lt q) e) (Nat.lt_irrefl _)

theorem HOk.kept (x : HOk P w H h) (k : ∀ b u, h.get? b = some u → h'.get? b = some u) : HOk P w H h' := fun a o e =>
  (x a o e).stay (fun b u _ q => k b u q) (fun _ q => q) (fun _ _ q => q) fun _ _ _ q => q

theorem HOk.laid (x : HOk P w H h) (k : ∀ b u, h.get? b = some u → h'.get? b = some u) (hp : h.objs.size ≤ a) (new : ObjOk P w (upd H a o) h' a o) : HOk P w (upd H a o) h' := fun b u e => by
  have hn := x.fresh hp
  by_cases hb : b = a
  · subst hb; rw [upd_same] at e; cases e; exact new
  · rw [upd_ne hb] at e
    exact (x b u e).stay (fun c v _ q => k c v q) (fun c q => by rw [upd_ne (ne_of_none q hn)]; exact q) (fun c xs q => by rw [upd_ne (ne_of_none q hn)]; exact q) fun c o u q => by rw [upd_ne (ne_of_none q hn)]; exact q
end


def Rd (H : Hp) (a : Addr) (u : HO) : Prop := H a = some u ∨ ∃ o, H a = some (.frz o u)
theorem Rd.of {H : Hp} {a : Addr} {u : HO} (h : H a = some u) : Rd H a u := .inl h
theorem Rd.ok {P : Program} {w : World} {H : Hp} {h : Heap} {a : Addr} {u : HO} (r : Rd H a u) (x : HOk P w H h) : ObjOk P w H h a u := by
  rcases r with r | ⟨o, r⟩
  · exact x a u r
  · obtain ⟨_, q⟩ := x a _ r
    exact q

def Mut : Option HO → Prop
  | some (.lst _) => True
  | some (.dK _) => True
  | some (.dT _) => True
  | some (.set _ _) => True
  | some (.ins _ _ _) => True
  | some (.ext _) => True
  | _ => False
section
variable {P : Program} {w : World} {H : Hp} {h h' : Heap} {x e : Addr} {o' : HO}

theorem HOk.write (ok : HOk P w H h) (mu : Mut (H x)) (he : e = x ∨ H e = some (.own x)) (k : ∀ b u, b ≠ e → h.get? b = some u → h'.get? b = some u) (heo : ∃ u, h'.get? e = some u)
    (new : ObjOk P w (upd H x o') h' x o') : HOk P w (upd H x o') h' := fun b u q => by
  have nown : ∀ c y, H c = some (.own y) → c ≠ x := fun c y r z => by subst z; rw [r] at mu; exact mu
  have ntup : ∀ c xs, H c = some (.tup xs) → c ≠ x := fun c xs r z => by subst z; rw [r] at mu; exact mu
  have nfrz : ∀ c o u, H c = some (.frz o u) → c ≠ x := fun c o u r z => by subst z; rw [r] at mu; exact mu
  by_cases hb : b = x
  · subst hb; rw [upd_same] at q; cases q; exact new
  · rw [upd_ne hb] at q
    by_cases hbe : b = e
    · have q' : H b = some (.own x) := by
        rcases he with z | z
        · exact absurd (hbe.trans z) hb
        · rw [hbe]; exact z
      rw [q] at q'; cases q'
      obtain ⟨v, hv⟩ := heo
      exact ⟨v, by rw [hbe]; exact hv⟩
    · refine (ok b u q).stay (fun c v hc r => k c v ?_ r) (fun c r => by rw [upd_ne (nown c b r)]; exact r) (fun c xs r => by rw [upd_ne (ntup c xs r)]; exact r) fun c o u r => by rw [upd_ne (nfrz c o u r)]; exact r
      rcases hc with rfl | hc
      · exact hbe
      · rintro rfl
        rcases he with z | z
        · exact nown c b hc z
        · rw [hc] at z; cases z; exact hb rfl
end


structure Un (fs ex : List Addr) (H H' : Hp) (h h' : Heap) : Prop where
  keep : ∀ b o, h.get? b = some o → H b = none → b ∉ fs → b ∉ ex → h'.get? b = some o
  slot : ∀ b o, h.get? b = some o → H b = none → b ∈ fs → b ∉ ex → ∃ sl, h'.get? b = some { o with slots := sl }
  free : ∀ b o, h.get? b = some o → H b = none → b ∉ ex → H' b = none
  there : ∀ b o, h.get? b = some o → b ∉ ex → ∃ o', h'.get? b = some o'
  tups : ∀ b xs, H b = some (.tup xs) → H' b = some (.tup xs)
  frzs : ∀ b o u, H b = some (.frz o u) → H' b = some (.frz o u)
  tbls : ∀ b ps, H b = some (.tbl ps) → ∃ more, H' b = some (.tbl (ps ++ more))
section
variable {fs fs' ex ex' : List Addr} {H H1 H2 : Hp} {h h1 h2 h' : Heap} {a x e : Addr} {o : HO}
theorem Un.any (u : Un fs ex H H1 h h1) {b : Addr} {ob : Obj} (q : h.get? b = some ob) (n : H b = none) (hx : b ∉ ex) : ∃ sl, h1.get? b = some { ob with slots := sl } := by
  by_cases hb : b ∈ fs
  · exact u.slot b ob q n hb hx
  · exact ⟨ob.slots, u.keep b ob q n hb hx⟩
theorem Un.trans (a : Un fs ex H H1 h h1) (b : Un fs ex H1 H2 h1 h2) : Un fs ex H H2 h h2 where
  keep := fun c ob q n hc hx => b.keep c ob (a.keep c ob q n hc hx) (a.free c ob q n hx) hc hx
  slot := fun c ob q n hc hx => by
    obtain ⟨sl, e1⟩ := a.slot c ob q n hc hx
    obtain ⟨sl', e2⟩ := b.slot c _ e1 (a.free c ob q n hx) hc hx
    exact ⟨sl', e2⟩
  free := fun c ob q n hx => by
    obtain ⟨o', e1⟩ := a.there c ob q hx
    exact b.free c o' e1 (a.free c ob q n hx) hx
  there := fun c ob q hx => by
    obtain ⟨o', e1⟩ := a.there c ob q hx
    exact b.there c o' e1 hx
  tups := fun c xs q => b.tups c xs (a.tups c xs q)
  frzs := fun c ob xs q => b.frzs c ob xs (a.frzs c ob xs q)
  tbls := fun c ps q => by
    obtain ⟨m1, e1⟩ := a.tbls c ps q
    obtain ⟨m2, e2⟩ := b.tbls c _ e1
    exact ⟨m1 ++ m2, by rw [e2, Array.append_assoc]⟩
theorem Un.kept (k : ∀ b u, h.get? b = some u → h'.get? b = some u) : Un fs ex H H h h' :=
  ⟨fun b ob q _ _ _ => k b ob q, fun b ob q _ _ _ => ⟨ob.slots, k b ob q⟩, fun _ _ _ n _ => n, fun b ob q _ => ⟨ob, k b ob q⟩, fun _ _ q => q, fun _ _ _ q => q, fun _ ps q => ⟨#[], by rw [q]; simp⟩⟩
theorem Un.refl : Un fs ex H H h h := Un.kept fun _ _ q => q
theorem Un.laid (k : ∀ b u, h.get? b = some u → h'.get? b = some u) (hp : h.objs.size ≤ a) (hn : H a = none) : Un fs ex H (upd H a o) h h' where
  keep := fun b u q _ _ _ => k b u q
  slot := fun b u q _ _ _ => ⟨u.slots, k b u q⟩
  free := fun b u q n _ => by rw [upd_ne (Nat.ne_of_lt (Nat.lt_of_lt_of_le (Heap.lt_size q) hp))]; exact n
  there := fun b u q _ => ⟨u, k b u q⟩
  tups := fun b xs q => by rw [upd_ne (ne_of_none q hn)]; exact q
  frzs := fun b u xs q => by rw [upd_ne (ne_of_none q hn)]; exact q
  tbls := fun b ps q => ⟨#[], by rw [upd_ne (ne_of_none q hn), q]; simp⟩
theorem Un.write (mu : Mut (H x)) (he : e = x ∨ H e = some (.own x)) (k : ∀ b u, b ≠ e → h.get? b = some u → h'.get? b = some u) (heo : ∃ u, h'.get? e = some u) : Un fs ex H (upd H x o) h h' := by
  have hx : ∀ b, H b = none → b ≠ x := fun b n z => by subst z; rw [n] at mu; exact mu
  have hb : ∀ b, H b = none → b ≠ e := fun b n z => by
    subst z
    rcases he with r | r
    · exact hx b n r
    · rw [n] at r; cases r
  have hm : ∀ b u, H b = some u → ¬ Mut (some u) → b ≠ x := fun b u q nm z => by subst z; rw [q] at mu; exact nm mu
  refine ⟨fun b u q n _ _ => k b u (hb b n) q, fun b u q n _ _ => ⟨u.slots, k b u (hb b n) q⟩, fun b u q n _ => by rw [upd_ne (hx b n)]; exact n, fun b u q _ => ?_,
    fun b xs q => by rw [upd_ne (hm b _ q fun z => z)]; exact q, fun b u xs q => by rw [upd_ne (hm b _ q fun z => z)]; exact q, fun b ps q => ⟨#[], by rw [upd_ne (hm b _ q fun z => z), q]; simp⟩⟩
  by_cases hbe : b = e
  · subst hbe; exact heo
  · exact ⟨u, k b u hbe q⟩
theorem Un.mono (u : Un fs ex H H1 h h1) (hs : ∀ b ∈ fs, b ∈ fs') (hx : ∀ b ∈ ex, b ∈ ex') : Un fs' ex' H H1 h h1 :=
  ⟨fun b ob q n hb he => u.keep b ob q n (fun z => hb (hs b z)) fun z => he (hx b z), fun _ _ q n _ he => u.any q n fun z => he (hx _ z), fun b ob q n he => u.free b ob q n fun z => he (hx b z), fun b ob q he => u.there b ob q fun z => he (hx b z), u.tups, u.frzs, u.tbls⟩
end


def trk (h : Heap) (H : Hp) : List Addr := (List.range h.objs.size).filter fun a => (H a).isSome
def hidT (h : Heap) (H : Hp) : Heap := PySem.W.hideAll h (trk h H)
theorem hidT_size (h : Heap) (H : Hp) : (hidT h H).objs.size = h.objs.size := PySem.W.hideAll_size _ _
theorem hidT_get {h : Heap} {H : Hp} {b : Addr} {o : Obj} (e : h.get? b = some o) (n : H b = none) : (hidT h H).get? b = some o :=
  PySem.W.hideAll_get _ e fun hm => by
    have q : (H b).isSome = true := (List.mem_filter.mp hm).2
    rw [n] at q; simp at q
theorem of_hidT {h : Heap} {H : Hp} {b : Addr} {o : Obj} (e : (hidT h H).get? b = some o) : h.get? b = some o ∧ H b = none := by
  have e' : h.get? b = some o := PySem.W.of_hideAll (trk h H) e
  refine ⟨e', ?_⟩
  cases q : H b with
  | none => rfl
  | some x =>
    have hm : b ∈ trk h H := List.mem_filter.mpr ⟨List.mem_range.mpr (Heap.lt_size e'), by simp [q]⟩
    have z : (hidT h H).get? b = none := PySem.W.hideAll_none (trk h H) hm
    rw [z] at e; cases e


def allNews (g h : Heap) (L : Addr) : List (Addr × Obj) := (List.range h.objs.size).filterMap fun a => if a = L ∨ (g.get? a).isSome = true then none else (h.get? a).map fun o => (a, o)
def rest (g h : Heap) (L d : Addr) : List (Addr × Obj) := (allNews g h L).filter fun p => decide (p.1 ≠ d)
end L2

namespace L2
open PySem PySem.Spec PyProof.Rows


structure Mod (K : PySem.W.Frag) (mg : Str → Option Value) (base : Heap) : Prop where
  kin : K.In base
  glob : base.Ns mainGlobals mg
  blt : ∃ mb, base.Ns builtinsNs mb ∧ ∀ x : Str, x ≠ "__name__" → mb x = bootBuiltins x
  nolimit : base.NoLimit


structure Cx where
  prog : Program
  w : World
  K : PySem.W.Frag
  mg : Str → Option Value
  base : Heap
  A : Around
  N : List Str
  s₀ : Shared
  H₀ : Hp
  env : Env
  outer : List Env
  stack : List Env
  ex : List Addr
  fn : Str → Bool
  calm : Bool
  pn : List (Addr × Obj)
  xe : Value → Shared → Prop

def frs (l : List Env) : List Addr := l.filterMap (·.frame)
abbrev Cx.fs (X : Cx) : List Addr := frs X.outer

def Vis (sc : Scope) (x : Str) : Prop := sc.names.lookup x = some .local ∨ sc.names.lookup x = some .cell ∨ sc.names.lookup x = some .free
def Loc (sc : Scope) (x : Str) : Prop := sc.names.lookup x = some .local ∨ sc.names.lookup x = some .cell
def Look (env : Env) (h : Heap) (m : Str → Option Value) (x : Str) (u : Value) : Prop :=
  (env.kindOf x = some .local ∧ m x = some u) ∨ ((env.kindOf x = some .cell ∨ env.kindOf x = some .free) ∧ ∃ c, env.cells.lookup x = some c ∧ h.IsCell c (some u))

structure Cx.Ok (X : Cx) : Prop where
  mod : Mod X.K X.mg X.base
  kind : X.env.scope.kind = .function
  glob : X.env.globals = mainGlobals
  blt : X.env.builtins = builtinsNs
  above : X.s₀.heap.objs.size ≤ X.env.locals
  inj : ∀ x y c, X.env.cells.lookup x = some c → X.env.cells.lookup y = some c → x = y
  has : ∀ x, (X.env.kindOf x = some .cell ∨ X.env.kindOf x = some .free) → ∃ c, X.env.cells.lookup x = some c
  cab : ∀ x c, X.fn x = true → X.env.cells.lookup x = some c → X.s₀.heap.objs.size ≤ c
  hd : X.calm = true → X.A.handled = none
  frames : X.A.frames = some X.stack
  stk : X.stack = X.outer ∨ (X.stack = X.env :: X.outer ∧ X.env.frame = some X.env.locals)
  exf : ∀ b ∈ X.ex, b ≠ X.env.locals ∧ ∀ x c, X.env.cells.lookup x = some c → c ≠ b
  bs : ∀ b o, X.base.get? b = some o → X.s₀.heap.get? b = some o ∧ X.H₀ b = none
  bsz : X.base.objs.size ≤ X.s₀.heap.objs.size
  noex : ∀ b o, X.base.get? b = some o → b ∉ X.ex
  exfs : ∀ b ∈ X.ex, b ∉ X.fs
  funs : X.s₀.heap.FunFrames X.base X.outer
  frf : ∀ b ∈ X.fs, X.H₀ b = none

structure Inv (X : Cx) (pins : List (Addr × Obj)) (σ : List (Option V)) (H : Hp) (s : Shared) : Prop where
  ok : X.Ok
  os : s.os = X.s₀.os
  bare : AllBare s.gens
  base : Un X.fs X.ex X.H₀ H X.s₀.heap s.heap
  loc : ∃ m, s.heap.Ns X.env.locals m ∧ ∀ (i : Nat) (x : Str) (v : V), X.N[i]? = some x → σ[i]? = some (some v) → Vis X.env.scope x → ∃ u, RelV v u ∧ Look X.env s.heap m x u
  cell : ∀ x c, X.env.cells.lookup x = some c → ∃ v, s.heap.IsCell c v
  free : H X.env.locals = none
  freeC : ∀ x c, X.env.cells.lookup x = some c → H c = none
  pin : ∀ p ∈ X.pn ++ pins, s.heap.get? p.1 = some p.2 ∧ H p.1 = none ∧ p.1 ≠ X.env.locals ∧ p.1 ∉ X.fs ∧ ∀ v, p.2.data ≠ .cell v
  hok : HOk X.prog X.w H s.heap
  len : σ.length = X.N.length

section
variable {X : Cx} {pins : List (Addr × Obj)} {σ : List (Option V)} {H H' : Hp} {s : Shared} {h' : Heap}

theorem Cx.Ok.nofr (ok : X.Ok) {b : Addr} {o : Obj} (e : X.base.get? b = some o) : b ∉ X.fs := fun hb => by
  have := (ok.funs.mem hb).1
  rw [e] at this; cases this
theorem Inv.bs (I : Inv X pins σ H s) : ∀ b o, X.base.get? b = some o → s.heap.get? b = some o ∧ H b = none := fun b o e =>
  ⟨I.base.keep b o (I.ok.bs b o e).1 (I.ok.bs b o e).2 (I.ok.nofr e) (I.ok.noex b o e), I.base.free b o (I.ok.bs b o e).1 (I.ok.bs b o e).2 (I.ok.noex b o e)⟩
theorem Inv.bk (I : Inv X pins σ H s) : ∀ b o, X.base.get? b = some o → s.heap.get? b = some o := fun b o e => (I.bs b o e).1
theorem Inv.mod (I : Inv X pins σ H s) : Mod X.K X.mg X.base := I.ok.mod
theorem Inv.kIn (I : Inv X pins σ H s) : X.K.In s.heap := I.ok.mod.kin.keeps I.bk
theorem Inv.nolimit (I : Inv X pins σ H s) : s.heap.NoLimit := I.ok.mod.nolimit.keeps I.bk

theorem Inv.lt (I : Inv X pins σ H s) : X.env.locals < s.heap.objs.size := let ⟨_, hn, _⟩ := I.loc; hn.lt
theorem Inv.sz (I : Inv X pins σ H s) : X.s₀.heap.objs.size ≤ s.heap.objs.size := Nat.le_trans I.ok.above (Nat.le_of_lt I.lt)
theorem Inv.nofs (I : Inv X pins σ H s) {a : Addr} (h : s.heap.objs.size ≤ a) : a ∉ X.fs := fun hb => by
  obtain ⟨_, o, ho, _⟩ := I.ok.funs.mem hb
  exact absurd (Nat.lt_of_lt_of_le (Heap.lt_size ho) (Nat.le_trans I.sz h)) (Nat.lt_irrefl _)
theorem Inv.cne (I : Inv X pins σ H s) : ∀ x c, X.env.cells.lookup x = some c → c ≠ X.env.locals := fun x c e z => by
  obtain ⟨v, o, ho, hd⟩ := I.cell x c e
  obtain ⟨m, ⟨o', es, ep, ho', hd', _⟩, _⟩ := I.loc
  rw [z, ho'] at ho; cases ho; rw [hd'] at hd; cases hd
theorem Inv.funs (I : Inv X pins σ H s) : s.heap.FunFrames X.base X.outer := by
  have all : ∀ (l : List Env), (∀ b ∈ frs l, b ∈ X.fs) → X.s₀.heap.FunFrames X.base l → s.heap.FunFrames X.base l := by
    intro l
    induction l with
    | nil => intro _ _; trivial
    | cons env r ih =>
      intro hs hl
      obtain ⟨hk, ⟨L, o, hf, hn, ho, hd⟩, hr⟩ := hl
      have hL : L ∈ X.fs := hs L (by unfold frs; rw [List.filterMap_cons, hf]; exact List.mem_cons_self)
      obtain ⟨sl, e⟩ := I.base.slot L o ho (I.ok.frf L hL) hL fun z => I.ok.exfs L z hL
      exact ⟨hk, ⟨L, _, hf, hn, e, hd⟩, ih (fun b hb => hs b (by unfold frs; rw [List.filterMap_cons, hf]; exact List.mem_cons_of_mem _ hb)) hr⟩
  exact all X.outer (fun _ hb => hb) I.ok.funs


theorem Inv.stack (I : Inv X pins σ H s) : s.heap.FunFrames X.base X.stack := by
  rcases I.ok.stk with e | ⟨e, hf⟩
  · rw [e]; exact I.funs
  · rw [e]
    obtain ⟨m, hn, _⟩ := I.loc
    refine .cons (by rw [I.ok.kind]; decide) hf hn ?_ I.funs
    exact Heap.get?_none_of_le (Nat.le_trans I.ok.bsz I.ok.above)
theorem Inv.stkSub (I : Inv X pins σ H s) : ∀ b ∈ frs X.stack, b ∈ X.env.locals :: X.fs := fun b hb => by
  rcases I.ok.stk with e | ⟨e, hf⟩
  · rw [e] at hb; exact List.mem_cons_of_mem _ hb
  · rw [e] at hb
    unfold frs at hb
    rw [List.filterMap_cons, hf] at hb
    exact hb
theorem Inv.stkFree (I : Inv X pins σ H s) : ∀ b ∈ frs X.stack, H b = none := fun b hb => by
  rcases List.mem_cons.mp (I.stkSub b hb) with e | hb
  · rw [e]; exact I.free
  · obtain ⟨_, o, ho, _⟩ := I.ok.funs.mem hb
    exact I.base.free b o ho (I.ok.frf b hb) fun z => I.ok.exfs b z hb


theorem Inv.step {g' : Array GenState} {t' : Nat} {d' : Drawn} {ch : List Addr} (I : Inv X pins σ H s)
    (hch : ∀ b ∈ ch, (b ∈ X.ex ∨ X.s₀.heap.objs.size ≤ b) ∧ b ≠ X.env.locals ∧ (∀ x c, X.env.cells.lookup x = some c → c ≠ b) ∧ ∀ p ∈ X.pn ++ pins, p.1 ≠ b)
    (keep : ∀ b o, b ≠ X.env.locals → b ∉ X.fs → b ∉ ch → s.heap.get? b = some o → H b = none → h'.get? b = some o)
    (slot : ∀ b o, b ≠ X.env.locals → b ∈ X.fs → b ∉ ch → s.heap.get? b = some o → H b = none → ∃ sl, h'.get? b = some { o with slots := sl }) (free : ∀ b o, b ∉ ch → s.heap.get? b = some o → H b = none → H' b = none)
    (there : ∀ b o, b ∉ ch → s.heap.get? b = some o → ∃ o', h'.get? b = some o')
    (tups : ∀ b xs, H b = some (.tup xs) → H' b = some (.tup xs)) (frzs : ∀ b o u, H b = some (.frz o u) → H' b = some (.frz o u)) (tbls : ∀ b ps, H b = some (.tbl ps) → ∃ more, H' b = some (.tbl (ps ++ more)))
    (ns : ∀ m, s.heap.Ns X.env.locals m → h'.Ns X.env.locals m) (hok : HOk X.prog X.w H' h') (hg : AllBare g') :
    Inv X pins σ H' { s with heap := h', gens := g', drawn := d', toks := t' } := by
  have neL : ∀ b o, X.s₀.heap.get? b = some o → b ≠ X.env.locals := fun b o e => Nat.ne_of_lt (Nat.lt_of_lt_of_le (Heap.lt_size e) I.ok.above)
  have neC : ∀ b o, X.s₀.heap.get? b = some o → b ∉ X.ex → b ∉ ch := fun b o e hx hb => by
    rcases (hch b hb).1 with z | z
    · exact hx z
    · exact absurd (Nat.lt_of_lt_of_le (Heap.lt_size e) z) (Nat.lt_irrefl _)
  have cellK : ∀ x c, X.env.cells.lookup x = some c → ∀ v, s.heap.IsCell c v → h'.IsCell c v := fun x c e v ⟨o, ho, hd⟩ => by
    have nch : c ∉ ch := fun z => (hch c z).2.2.1 x c e rfl
    by_cases hc : c ∈ X.fs
    · obtain ⟨sl, q⟩ := slot c o (I.cne x c e) hc nch ho (I.freeC x c e)
      exact ⟨_, q, hd⟩
    · exact ⟨o, keep c o (I.cne x c e) hc nch ho (I.freeC x c e), hd⟩
  refine ⟨I.ok, I.os, hg, ⟨fun b o e n hb hx => ?_, fun b o e n hb hx => ?_, fun b o e n hx => ?_, fun b o e hx => ?_, fun b xs e => tups b xs (I.base.tups b xs e), fun b o xs e => frzs b o xs (I.base.frzs b o xs e), fun b ps e => ?_⟩, ?_, fun x c e => ?_, ?_, fun x c e => ?_, fun p hp => ?_, hok, I.len⟩
  · exact keep b o (neL b o e) hb (neC b o e hx) (I.base.keep b o e n hb hx) (I.base.free b o e n hx)
  · obtain ⟨sl, e1⟩ := I.base.slot b o e n hb hx
    obtain ⟨sl', e2⟩ := slot b _ (neL b o e) hb (neC b o e hx) e1 (I.base.free b o e n hx)
    exact ⟨sl', e2⟩
  · obtain ⟨o', e1⟩ := I.base.there b o e hx
    exact free b o' (neC b o e hx) e1 (I.base.free b o e n hx)
  · obtain ⟨o', e1⟩ := I.base.there b o e hx
    exact there b o' (neC b o e hx) e1
  · obtain ⟨m1, e1⟩ := I.base.tbls b ps e
    obtain ⟨m2, e2⟩ := tbls b _ e1
    exact ⟨m1 ++ m2, by rw [e2, Array.append_assoc]⟩
  · obtain ⟨m, hn, hl⟩ := I.loc
    refine ⟨m, ns m hn, fun i x v e1 e2 e3 => ?_⟩
    obtain ⟨u, r, l⟩ := hl i x v e1 e2 e3
    refine ⟨u, r, ?_⟩
    rcases l with l | ⟨k, c, e, z⟩
    · exact .inl l
    · exact .inr ⟨k, c, e, cellK x c e _ z⟩
  · obtain ⟨v, z⟩ := I.cell x c e
    exact ⟨v, cellK x c e v z⟩
  · obtain ⟨m, ⟨o, _, _, ho, _⟩, _⟩ := I.loc
    exact free _ o (fun z => (hch _ z).2.1 rfl) ho I.free
  · obtain ⟨v, o, ho, hd⟩ := I.cell x c e
    exact free c o (fun z => (hch c z).2.2.1 x c e rfl) ho (I.freeC x c e)
  · obtain ⟨e, n, ne, nf, d⟩ := I.pin p hp
    have nch : p.1 ∉ ch := fun z => (hch p.1 z).2.2.2 p hp rfl
    exact ⟨keep p.1 p.2 ne nf nch e n, free p.1 p.2 nch e n, ne, nf, d⟩

theorem Inv.un {t' : Nat} (I : Inv X pins σ H s) (u : Un X.fs [] H H' s.heap h') (hok : HOk X.prog X.w H' h') : Inv X pins σ H' { s with heap := h', toks := t' } := by
  obtain ⟨m, ⟨o, es, ep, ho, r⟩, _⟩ := id I.loc
  obtain ⟨sl, hL⟩ := u.any ho I.free (by simp)
  exact I.step (g' := s.gens) (d' := s.drawn) (ch := []) (fun _ z => nomatch z) (fun b o _ hb _ e n => u.keep b o e n hb (by simp)) (fun b o _ hb _ e n => u.slot b o e n hb (by simp)) (fun b o _ e n => u.free b o e n (by simp)) (fun b o _ e => u.there b o e (by simp)) u.tups u.frzs u.tbls (fun m' hm => by
    obtain ⟨o', es', ep', ho', r'⟩ := hm
    rw [ho] at ho'; cases ho'
    exact ⟨_, es', ep', hL, r'⟩) hok I.bare

theorem Inv.call {g' : Array GenState} {t' : Nat} {d' : Drawn} {ch : List Addr} (I : Inv X pins σ H s) (u : Un (frs X.stack) ch H H' s.heap h') (hok : HOk X.prog X.w H' h') (hg : AllBare g')
    (hch : ∀ b ∈ ch, (b ∈ X.ex ∨ X.s₀.heap.objs.size ≤ b) ∧ b ≠ X.env.locals ∧ (∀ x c, X.env.cells.lookup x = some c → c ≠ b) ∧ ∀ p ∈ X.pn ++ pins, p.1 ≠ b) :
    Inv X pins σ H' { s with heap := h', gens := g', drawn := d', toks := t' } := by
  obtain ⟨m, ⟨o, es, ep, ho, r⟩, _⟩ := id I.loc
  obtain ⟨sl, hL⟩ := u.any ho I.free fun z => (hch _ z).2.1 rfl
  exact I.step (ch := ch) hch (fun b o hL hb hc e n => u.keep b o e n (fun z => (List.mem_cons.mp (I.stkSub b z)).elim hL hb) hc) (fun b o _ _ hc e n => u.any e n hc) (fun b o hc e n => u.free b o e n hc) (fun b o hc e => u.there b o e hc) u.tups u.frzs u.tbls (fun m' hm => by
    obtain ⟨o', es', ep', ho', r'⟩ := hm
    rw [ho] at ho'; cases ho'
    exact ⟨_, es', ep', hL, r'⟩) hok hg

theorem Inv.turned {t' : Nat} {it : Addr} (I : Inv X pins σ H s) (k : ∀ b o, b ≠ it → s.heap.get? b = some o → h'.get? b = some o) (hn : H it = none) (hL : it ≠ X.env.locals)
    (h1 : it ∈ X.ex ∨ X.s₀.heap.objs.size ≤ it) (h2 : ∀ x c, X.env.cells.lookup x = some c → c ≠ it) (h3 : ∀ p ∈ X.pn ++ pins, p.1 ≠ it) : Inv X pins σ H { s with heap := h', toks := t' } := by
  have nit : ∀ b u, H b = some u → b ≠ it := fun b u e z => by rw [z, hn] at e; cases e
  refine I.step (g' := s.gens) (d' := s.drawn) (ch := [it]) (fun b hb => ?_) (fun b o _ _ hc e _ => k b o (fun z => hc (by simp [z])) e) (fun b o _ _ hc e _ => ⟨o.slots, k b o (fun z => hc (by simp [z])) e⟩) (fun _ _ _ _ n => n)
    (fun b o hc e => ⟨o, k b o (fun z => hc (by simp [z])) e⟩) (fun _ _ e => e) (fun _ _ _ e => e) (fun b ps e => ⟨#[], by rw [e]; simp⟩) (fun m hm => ?_) (fun b u e => ?_) I.bare
  · have e : b = it := by simpa using hb
    subst e
    exact ⟨h1, hL, h2, h3⟩
  · obtain ⟨o, es, ep, ho, r⟩ := hm
    exact ⟨o, es, ep, k _ o (Ne.symm hL) ho, r⟩
  · refine (I.hok b u e).stay (fun c v hc q => k c v ?_ q) (fun _ q => q) (fun _ _ q => q) fun _ _ _ q => q
    rcases hc with z | z
    · rw [z]; exact nit b u e
    · exact nit c _ z
theorem Inv.tok (I : Inv X pins σ H s) (t : Nat) : Inv X pins σ H { s with toks := t } := I.un (h' := s.heap) (t' := t) Un.refl I.hok

theorem Inv.kept {t' : Nat} (I : Inv X pins σ H s) (k : ∀ b u, s.heap.get? b = some u → h'.get? b = some u) : Inv X pins σ H { s with heap := h', toks := t' } := I.un (Un.kept k) (I.hok.kept k)

theorem Inv.laid {a : Addr} {o : HO} {t' : Nat} (I : Inv X pins σ H s) (k : ∀ b u, s.heap.get? b = some u → h'.get? b = some u) (hp : s.heap.objs.size ≤ a) (new : ObjOk X.prog X.w (upd H a o) h' a o) :
    Inv X pins σ (upd H a o) { s with heap := h', toks := t' } := I.un (Un.laid k hp (I.hok.fresh hp)) (I.hok.laid k hp new)

theorem Inv.write {x e : Addr} {o : HO} {t' : Nat} (I : Inv X pins σ H s) (mu : Mut (H x)) (he : e = x ∨ H e = some (.own x)) (k : ∀ b u, b ≠ e → s.heap.get? b = some u → h'.get? b = some u) (heo : ∃ u, h'.get? e = some u)
    (new : ObjOk X.prog X.w (upd H x o) h' x o) : Inv X pins σ (upd H x o) { s with heap := h', toks := t' } := I.un (Un.write mu he k heo) (I.hok.write mu he k heo new)

theorem Inv.weak {σ' : List (Option V)} (I : Inv X pins σ H s) (hl : σ'.length = σ.length) (w : ∀ (i : Nat) v, σ'[i]? = some (some v) → σ[i]? = some (some v)) : Inv X pins σ' H s :=
  ⟨I.ok, I.os, I.bare, I.base, let ⟨m, hn, hl'⟩ := I.loc; ⟨m, hn, fun i x v e1 e2 e3 => hl' i x v e1 (w i v e2) e3⟩, I.cell, I.free, I.freeC, I.pin, I.hok, hl.trans I.len⟩
theorem Inv.pins_of {pins' : List (Addr × Obj)} (I : Inv X pins σ H s) (h : ∀ p ∈ pins', s.heap.get? p.1 = some p.2 ∧ H p.1 = none ∧ p.1 ≠ X.env.locals ∧ p.1 ∉ X.fs ∧ ∀ v, p.2.data ≠ .cell v) : Inv X pins' σ H s :=
  ⟨I.ok, I.os, I.bare, I.base, I.loc, I.cell, I.free, I.freeC, fun p hp => (List.mem_append.mp hp).elim (fun z => I.pin p (List.mem_append_left _ z)) (h p), I.hok, I.len⟩

theorem nodup_ix {N : List Str} (hN : N.Nodup) {i j : Nat} {x : Str} (a : N[i]? = some x) (b : N[j]? = some x) : i = j := by
  obtain ⟨h1, e1⟩ := List.getElem?_eq_some_iff.mp a
  obtain ⟨h2, e2⟩ := List.getElem?_eq_some_iff.mp b
  exact (List.getElem_inj hN).mp (e1.trans e2.symm)


theorem store_ok2 {M : Model} {A : Around} {E : Value → Shared → Prop} {i : Nat} {x : Str} {v : V} {u : Value} {Q : Unit → Shared → Prop} (I : Inv X pins σ H s) (hN : X.N.Nodup) (hi : X.N[i]? = some x) (hx : Loc X.env.scope x) (r : RelV v u)
    (h : ∀ s', Inv X pins (σ.set i (some v)) H s' → (∃ a, Heap.SameBut a s.heap s'.heap ∧ (a = X.env.locals ∨ X.env.cells.lookup x = some a)) → Q () s') (hf : X.fn x = true ∨ X.env.scope.names.lookup x = some .local := by first | exact .inl rfl | exact .inr rfl | assumption) : wpAny M A (storeName X.env x u) Q E s := by
  obtain ⟨m, hn, hl⟩ := id I.loc
  have hcls : (X.env.scope.kind == .class || (X.env.scope.kind == .module && X.env.locals != X.env.globals)) = false := by rw [I.ok.kind]; rfl
  have hiσ : i < σ.length := by rw [I.len]; exact (List.getElem?_eq_some_iff.mp hi).1
  have cne := I.cne
  have tracked : ∀ {a : Addr} {h' : Heap}, (∃ o, s.heap.get? a = some o ∧ H a = none) → Heap.SameBut a s.heap h' → HOk X.prog X.w H h' := fun {a h'} ha hs b ob e => by
    obtain ⟨_, _, hfree⟩ := ha
    refine (I.hok b ob e).stay (fun c w' hc q => (hs.2 c ?_).trans q) (fun _ q => q) (fun _ _ q => q) fun _ _ _ q => q
    rintro rfl
    rcases hc with rfl | hc
    · rw [hfree] at e; cases e
    · rw [hfree] at hc; cases hc
  rcases hx with hk | hk
  · refine wpAny_storeName_local hk hn (fun h' hn' hs => ?_) hcls
    obtain ⟨oL, _, _, hoL, _⟩ := id hn
    refine h _ ⟨I.ok, I.os, I.bare, ⟨fun b o e n hb hx => ?_, fun b o e n hb hx => ?_, I.base.free, fun b o e hx => ?_, I.base.tups, I.base.frzs, I.base.tbls⟩, ⟨_, hn', fun j y v' e1 e2 e3 => ?_⟩, fun y c e => ?_, I.free, I.freeC, fun p hp => ?_, tracked ⟨oL, hoL, I.free⟩ hs, by simpa using I.len⟩ ⟨_, hs, .inl rfl⟩
    · exact (hs.2 b (Nat.ne_of_lt (Nat.lt_of_lt_of_le (Heap.lt_size e) I.ok.above))).trans (I.base.keep b o e n hb hx)
    · obtain ⟨sl, e1⟩ := I.base.slot b o e n hb hx
      exact ⟨sl, (hs.2 b (Nat.ne_of_lt (Nat.lt_of_lt_of_le (Heap.lt_size e) I.ok.above))).trans e1⟩
    · obtain ⟨o', e1⟩ := I.base.there b o e hx
      exact ⟨o', (hs.2 b (Nat.ne_of_lt (Nat.lt_of_lt_of_le (Heap.lt_size e) I.ok.above))).trans e1⟩
    · by_cases hj : j = i
      · subst hj
        rw [hi] at e1; cases e1
        rw [List.getElem?_set_self hiσ] at e2
        cases e2
        exact ⟨u, r, .inl ⟨hk, by simp⟩⟩
      · rw [List.getElem?_set_ne (Ne.symm hj)] at e2
        obtain ⟨u', r', q⟩ := hl j y v' e1 e2 e3
        refine ⟨u', r', ?_⟩
        rcases q with ⟨k, e⟩ | ⟨k, c, e, z⟩
        · refine .inl ⟨k, ?_⟩
          have : y ≠ x := fun e => hj (nodup_ix hN e1 (e ▸ hi))
          simp [this, e]
        · exact .inr ⟨k, c, e, z.sameBut hs (cne y c e)⟩
    · obtain ⟨w', z⟩ := I.cell y c e
      exact ⟨w', z.sameBut hs (cne y c e)⟩
    · obtain ⟨e, n, ne, nf, d⟩ := I.pin p hp
      exact ⟨(hs.2 p.1 ne).trans e, n, ne, nf, d⟩
  · have hfn : X.fn x = true := by
      rcases hf with z | z
      · exact z
      · rw [z] at hk; cases hk
    obtain ⟨c, hc⟩ := I.ok.has x (.inl hk)
    obtain ⟨w', z⟩ := I.cell x c hc
    refine wpAny_storeName_cell I.ok.kind hk hc z (fun h' hc' hs => ?_)
    obtain ⟨oc, hoc, hocd⟩ := id z
    refine h { s with heap := h' } ⟨I.ok, I.os, I.bare, ⟨fun b o e n hb hx => ?_, fun b o e n hb hx => ?_, I.base.free, fun b o e hx => ?_, I.base.tups, I.base.frzs, I.base.tbls⟩, ⟨m, hn.sameBut hs (Ne.symm (cne x c hc)), fun j y v' e1 e2 e3 => ?_⟩, fun y c' e => ?_, I.free, I.freeC, fun p hp => ?_, tracked ⟨oc, hoc, I.freeC x c hc⟩ hs, by simpa using I.len⟩ ⟨c, hs, .inr hc⟩
    · exact (hs.2 b (Nat.ne_of_lt (Nat.lt_of_lt_of_le (Heap.lt_size e) (I.ok.cab x c hfn hc)))).trans (I.base.keep b o e n hb hx)
    · obtain ⟨sl, e1⟩ := I.base.slot b o e n hb hx
      exact ⟨sl, (hs.2 b (Nat.ne_of_lt (Nat.lt_of_lt_of_le (Heap.lt_size e) (I.ok.cab x c hfn hc)))).trans e1⟩
    · obtain ⟨o', e1⟩ := I.base.there b o e hx
      exact ⟨o', (hs.2 b (Nat.ne_of_lt (Nat.lt_of_lt_of_le (Heap.lt_size e) (I.ok.cab x c hfn hc)))).trans e1⟩
    · by_cases hj : j = i
      · subst hj
        rw [hi] at e1; cases e1
        rw [List.getElem?_set_self hiσ] at e2
        cases e2
        exact ⟨u, r, .inr ⟨.inl hk, c, hc, hc'⟩⟩
      · rw [List.getElem?_set_ne (Ne.symm hj)] at e2
        obtain ⟨u', r', q⟩ := hl j y v' e1 e2 e3
        refine ⟨u', r', ?_⟩
        rcases q with q | ⟨k, c', e, z'⟩
        · exact .inl q
        · refine .inr ⟨k, c', e, z'.sameBut hs ?_⟩
          rintro rfl
          exact hj (nodup_ix hN e1 (I.ok.inj _ _ _ e hc ▸ hi))
    · by_cases hcc : c' = c
      · subst hcc; exact ⟨_, hc'⟩
      · obtain ⟨w2, z2⟩ := I.cell y c' e
        exact ⟨w2, z2.sameBut hs hcc⟩
    · obtain ⟨e, n, ne, nf, d⟩ := I.pin p hp
      refine ⟨(hs.2 p.1 ?_).trans e, n, ne, nf, d⟩
      intro q
      rw [q, hoc] at e
      have q' : oc = p.2 := Option.some.inj e
      exact d w' (by rw [← q']; exact hocd)
theorem store_ok {M : Model} {A : Around} {E : Value → Shared → Prop} {i : Nat} {x : Str} {v : V} {u : Value} {Q : Unit → Shared → Prop} (I : Inv X pins σ H s) (hN : X.N.Nodup) (hi : X.N[i]? = some x) (hx : Loc X.env.scope x) (r : RelV v u)
    (h : ∀ s', Inv X pins (σ.set i (some v)) H s' → Q () s') (hf : X.fn x = true ∨ X.env.scope.names.lookup x = some .local := by first | exact .inl rfl | exact .inr rfl | assumption) : wpAny M A (storeName X.env x u) Q E s :=
  store_ok2 I hN hi hx r (fun s' I' _ => h s' I') hf

theorem Inv.call' {s' : Shared} {ch : List Addr} (I : Inv X pins σ H s) (ho : s'.os = s.os) (u : Un (frs X.stack) ch H H' s.heap s'.heap) (hok : HOk X.prog X.w H' s'.heap) (hg : AllBare s'.gens)
    (hch : ∀ b ∈ ch, (b ∈ X.ex ∨ X.s₀.heap.objs.size ≤ b) ∧ b ≠ X.env.locals ∧ (∀ x c, X.env.cells.lookup x = some c → c ≠ b) ∧ ∀ p ∈ X.pn ++ pins, p.1 ≠ b) : Inv X pins σ H' s' := by
  obtain ⟨h', g', d', t', o'⟩ := s'
  have e : o' = s.os := ho
  subst e
  exact I.call (g' := g') (t' := t') (d' := d') u hok hg hch
end



abbrev XK := Value → Option Addr → Hp → Prop
abbrev St := List (Option V)
abbrev VK := V → Hp → Prop

abbrev TE := St → Hp → VK → Prop
abbrev TT := St → Hp → (Bool → Hp → Prop) → Prop
abbrev TA := St → Hp → (List V → Hp → Prop) → Prop

structure Ends where
  nx : St → Hp → Prop
  rt : VK
  bk : St → Hp → Prop := fun _ _ => False
  ct : St → Hp → Prop := fun _ _ => False
abbrev TS := Ends → St → Hp → Prop

def EP (X : Cx) (pins : List (Addr × Obj)) (σ : St) (Q : VK) (u : Value) (s' : Shared) : Prop := ∃ v H', Inv X pins σ H' s' ∧ RelV v u ∧ Q v H'
def TP (X : Cx) (pins : List (Addr × Obj)) (σ : St) (Q : Bool → Hp → Prop) (b : Bool) (s' : Shared) : Prop := ∃ H', Inv X pins σ H' s' ∧ Q b H'
def AP (X : Cx) (pins : List (Addr × Obj)) (σ : St) (Q : List V → Hp → Prop) (us : List Value) (s' : Shared) : Prop := ∃ vs H', Inv X pins σ H' s' ∧ Vals vs us ∧ Q vs H'
def SP (X : Cx) (pins : List (Addr × Obj)) (D : Ends) (f : Flow) (s' : Shared) : Prop :=
  match f with
  | .next => ∃ σ' H', Inv X pins σ' H' s' ∧ D.nx σ' H'
  | .brk => ∃ σ' H', Inv X pins σ' H' s' ∧ D.bk σ' H'
  | .cont => ∃ σ' H', Inv X pins σ' H' s' ∧ D.ct σ' H'
  | .ret u => ∃ v σ' H', Inv X pins σ' H' s' ∧ RelV v u ∧ D.rt v H'

def PE (X : Cx) (e : Expr) (t : TE) : Prop :=
  ∀ (pins : List (Addr × Obj)) (s : Shared) (σ : St) (H : Hp) (Q : VK), Inv X pins σ H s → t σ H Q → wpAny (model X.prog X.w) X.A (eval e X.env) (EP X pins σ Q) X.xe s
def PT (X : Cx) (e : Expr) (t : TT) : Prop :=
  ∀ (pins : List (Addr × Obj)) (s : Shared) (σ : St) (H : Hp) (Q : Bool → Hp → Prop), Inv X pins σ H s → t σ H Q → wpAny (model X.prog X.w) X.A (isTrue e X.env (eval e X.env)) (TP X pins σ Q) X.xe s

def PW (X : Cx) (e : Expr) (t : TT) : Prop :=
  ∀ (whole : Sem Value) (pins : List (Addr × Obj)) (s : Shared) (σ : St) (H : Hp) (Q : Bool → Hp → Prop), Inv X pins σ H s → t σ H Q → wpAny (model X.prog X.w) X.A (isTrue e X.env whole) (TP X pins σ Q) X.xe s
theorem PW.pt {X : Cx} {e : Expr} {t : TT} (h : PW X e t) : PT X e t := h _

def PA (X : Cx) (es : List Expr) (t : TA) : Prop :=
  ∀ (pos : Pos) (pins : List (Addr × Obj)) (s : Shared) (σ : St) (H : Hp) (Q : List V → Hp → Prop), Inv X pins σ H s → t σ H Q → wpAny (model X.prog X.w) X.A (spliced (backTo pos (starEach es X.env))) (AP X pins σ Q) X.xe s
def PS (X : Cx) (st : Stmt) (t : TS) : Prop :=
  ∀ (pins : List (Addr × Obj)) (s : Shared) (σ : St) (H : Hp) (D : Ends), Inv X pins σ H s → t D σ H → wpAny (model X.prog X.w) X.A (exec st X.env) (SP X pins D) X.xe s
def PSs (X : Cx) (st : List Stmt) (t : TS) : Prop :=
  ∀ (pins : List (Addr × Obj)) (s : Shared) (σ : St) (H : Hp) (D : Ends), Inv X pins σ H s → t D σ H → wpAny (model X.prog X.w) X.A (execs st X.env) (SP X pins D) X.xe s

theorem thn {α : Type} {t : Sem α} {Q Q' : α → Shared → Prop} {M : Model} {A : Around} {E : Value → Shared → Prop} {s : Shared} (h : wpAny M A t Q E s) (hQ : ∀ a s, Q a s → Q' a s) : wpAny M A t Q' E s := wpAny_mono h hQ fun _ _ x => x
end L2

namespace L2
open PySem PySem.Spec PyProof.Rows
section
variable {X : Cx}


def tVar (i : Nat) : TE := fun σ H Q => ∃ v, σ[i]? = some (some v) ∧ Q v H
def tC (v : V) : TE := fun _ H Q => Q v H
theorem pe_var {i : Nat} {x : Str} {pos : Pos} (hN : X.N[i]? = some x) (hv : Vis X.env.scope x) (hd : (x == ("__debug__" : Str)) = false := by decide) (hcd : (x == ("__classdict__" : Str)) = false := by decide) : PE X (.Name x pos) (tVar i) := by
  intro pins s σ H Q I h
  obtain ⟨v, e, h⟩ := h
  obtain ⟨m, hn, hl⟩ := I.loc
  obtain ⟨u, r, l⟩ := hl i x v hN e hv
  have fin : EP X pins σ Q u s := ⟨v, H, I, r, h⟩
  rcases l with ⟨hk, hm⟩ | ⟨hk, c, hc, hcell⟩
  · exact wpAny_Name (wpAny_loadName_local I.ok.kind hk hn hm fin) hd
  · rcases hk with hk | hk
    · exact wpAny_Name (wpAny_loadName_cell I.ok.kind hk hc hcell fin) hd
    · exact wpAny_Name (wpAny_loadName_free I.ok.kind hk hc hcell fin hcd) hd
theorem pe_int {i j pos} : PE X (.Constant (.int i) j pos) (tC (.int i)) := fun _ _ _ H _ I h => wpAny_Constant_int ⟨.int i, H, I.tok _, ⟨_, rfl⟩, h⟩
theorem pe_bl {b j pos} : PE X (.Constant (.bool b) j pos) (tC (.bl b)) := fun _ _ _ H _ I h => Constant_bool ⟨.bl b, H, I, rfl, h⟩
theorem pe_non {j pos} : PE X (.Constant .none j pos) (tC .non) := fun _ _ _ H _ I h => Constant_none ⟨.non, H, I, rfl, h⟩
def Gl (X : Cx) (x : Str) : Prop := X.env.kindOf x = some .globalImplicit
theorem ld_glob {E : Value → Shared → Prop} {pins : List (Addr × Obj)} {s : Shared} {σ : St} {H : Hp} {x : Str} {u : Value} {pos : Pos} {Q : Value → Shared → Prop} (I : Inv X pins σ H s) (hg : Gl X x) (hm : X.mg x = some u) (h : Q u s)
    (hd : (x == ("__debug__" : Str)) = false := by decide) : wpAny (model X.prog X.w) X.A (eval (.Name x pos) X.env) Q E s :=
  Calls.Name_function_global I.ok.kind hg (Calls.loadGlobal_global (by rw [I.ok.glob]; exact I.mod.glob.keeps I.bk) hm h) hd
theorem ld_blt {E : Value → Shared → Prop} {pins : List (Addr × Obj)} {s : Shared} {σ : St} {H : Hp} {x : Str} {u : Value} {pos : Pos} {Q : Value → Shared → Prop} (I : Inv X pins σ H s) (hg : Gl X x) (hm : X.mg x = none) (hv : bootBuiltins x = some u) (h : Q u s)
    (hn : x ≠ "__name__" := by decide) (hd : (x == ("__debug__" : Str)) = false := by decide) : wpAny (model X.prog X.w) X.A (eval (.Name x pos) X.env) Q E s := by
  obtain ⟨mb, h1, h2⟩ := I.mod.blt
  exact Calls.Name_function_global I.ok.kind hg (Calls.loadGlobal_builtin (by rw [I.ok.glob]; exact I.mod.glob.keeps I.bk) hm (by rw [I.ok.blt]; exact h1.keeps I.bk) ((h2 x hn).trans hv) h) hd

theorem pe_glob {x : Str} {v : V} {u : Value} {pos : Pos} (hg : Gl X x) (hm : X.mg x = some u) (r : RelV v u) (hd : (x == ("__debug__" : Str)) = false := by decide) : PE X (.Name x pos) (tC v) :=
  fun _ _ _ H _ I h => ld_glob I hg hm ⟨v, H, I, r, h⟩ hd
theorem pe_bltn {x : Str} {v : V} {u : Value} {pos : Pos} (hg : Gl X x) (hm : X.mg x = none) (hv : bootBuiltins x = some u) (r : RelV v u) (hn : x ≠ "__name__" := by decide) (hd : (x == ("__debug__" : Str)) = false := by decide) : PE X (.Name x pos) (tC v) :=
  fun _ _ _ H _ I h => ld_blt I hg hm hv ⟨v, H, I, r, h⟩ hn hd



variable {a b : Expr} {ta tb : TE} {pos : Pos}
def tB (t : TE) : TT := fun σ H Q => t σ H fun x H1 => ∃ c, x = .bl c ∧ Q c H1
theorem pt_val {e : Expr} {t : TE} (h : PE X e t) (he : ∀ whole, isTrue e X.env whole = (do let v ← whole; standAt e.pos; holding [v] (truthy v)) := by intro _; rfl) : PT X e (tB t) := by
  intro pins s σ H Q I hw
  refine isTrue_plain (thn (h pins s σ H _ I hw) fun v s1 ⟨x, H1, I1, r1, q1⟩ => ?_) (he _)
  obtain ⟨d, rfl, q⟩ := q1
  cases r1
  exact wpAny_truthy_bool ⟨H1, I1, q⟩


variable {tA tB' : TT} {rest : List Expr}
def tAnd (t u : TT) : TT := fun σ H Q => t σ H fun c H1 => if c = true then u σ H1 Q else Q false H1
def tOr (t u : TT) : TT := fun σ H Q => t σ H fun c H1 => if c = true then Q true H1 else u σ H1 Q
def tNot (t : TT) : TT := fun σ H Q => t σ H fun c H1 => Q (!c) H1
theorem pw_and1 (ha : PT X a tA) : PW X (.BoolOp .And [a] pos) tA := by
  intro wh pins s σ H Q I h
  refine isTrue_and (thn (ha pins s σ H Q I h) fun c s1 e => ?_)
  cases c with
  | true => exact isTrue_and_nil e
  | false => exact e
theorem pw_or1 (ha : PT X a tA) : PW X (.BoolOp .Or [a] pos) tA := by
  intro wh pins s σ H Q I h
  refine isTrue_or (thn (ha pins s σ H Q I h) fun c s1 e => ?_)
  cases c with
  | false => exact isTrue_or_nil e
  | true => exact e
theorem pw_and (ha : PT X a tA) (hb : PW X (.BoolOp .And (b :: rest) pos) tB') : PW X (.BoolOp .And (a :: b :: rest) pos) (tAnd tA tB') := by
  intro wh pins s σ H Q I h
  refine isTrue_and (thn (ha pins s σ H _ I h) fun c s1 ⟨H1, I1, q1⟩ => ?_)
  cases c with
  | true => exact hb wh pins s1 σ H1 Q I1 q1
  | false => exact ⟨H1, I1, q1⟩
theorem pw_or (ha : PT X a tA) (hb : PW X (.BoolOp .Or (b :: rest) pos) tB') : PW X (.BoolOp .Or (a :: b :: rest) pos) (tOr tA tB') := by
  intro wh pins s σ H Q I h
  refine isTrue_or (thn (ha pins s σ H _ I h) fun c s1 ⟨H1, I1, q1⟩ => ?_)
  cases c with
  | true => exact ⟨H1, I1, q1⟩
  | false => exact hb wh pins s1 σ H1 Q I1 q1
theorem pt_not (ha : PT X a tA) : PT X (.UnaryOp .Not a pos) (tNot tA) := by
  intro pins s σ H Q I h
  exact isTrue_not (ha pins s σ H (fun c H1 => Q (!c) H1) I h)

def tAndV (ta tb : TE) : TE := fun σ H Q => ta σ H fun x H1 => ∃ c, x = .bl c ∧ if c = true then tb σ H1 Q else Q (.bl false) H1
def tOrV (ta tb : TE) : TE := fun σ H Q => ta σ H fun x H1 => ∃ c, x = .bl c ∧ if c = true then Q (.bl true) H1 else tb σ H1 Q
def tNotV (ta : TE) : TE := fun σ H Q => ta σ H fun x H1 => ∃ c, x = .bl c ∧ Q (.bl (!c)) H1
theorem pe_one {op} {t : TE} (h : PE X a t) : PE X (.BoolOp op [a] pos) t := fun pins s σ H Q I hw => BoolOp_one (h pins s σ H Q I hw)
theorem pe_and (ha : PE X a ta) (hb : PE X (.BoolOp .And (b :: rest) pos) tb) : PE X (.BoolOp .And (a :: b :: rest) pos) (tAndV ta tb) := by
  intro pins s σ H Q I h
  refine BoolOp_and (thn (ha pins s σ H _ I h) fun v s1 ⟨x, H1, I1, r1, q1⟩ => ?_)
  obtain ⟨c, rfl, q1⟩ := q1
  cases r1
  refine wpAny_truthy_bool ?_
  cases c with
  | true => exact hb pins s1 σ H1 Q I1 q1
  | false => exact ⟨.bl false, H1, I1, rfl, q1⟩
def tIf (t : TT) (ta tb : TE) : TE := fun σ H Q => t σ H fun c H1 => if c = true then ta σ H1 Q else tb σ H1 Q
end
end L2

namespace L2
open PySem PySem.Spec PyProof.Rows


def SqL (K : PySem.W.Frag) (H : Hp) (a : Addr) (xs : List V) : Prop :=
  Rd H a (.lst xs) ∨
    ∃ (o : Obj) (its : Array Value) (n : Nat), K.lookup a = some o ∧ o.cls = .type "list" ∧ o.dict = none ∧ o.data = .seq its n ∧ its.size ≤ sizeLine ∧ Vals xs its.toList
def SqT (K : PySem.W.Frag) (H : Hp) (a : Addr) (xs : List V) : Prop :=
  Rd H a (.tup xs) ∨
    ∃ (o : Obj) (its : Array Value) (n : Nat), K.lookup a = some o ∧ o.cls = .type "tuple" ∧ o.data = .seq its n ∧ its.size ≤ sizeLine ∧ Vals xs its.toList
def absV : Value → Option V
  | .none => some .non
  | .bool b => some (.bl b)
  | .int i _ => some (.int i)
  | .str x _ => some (.str x)
  | .bytes b _ => some (.byt b)
  | .float b _ => some (.flt b)
  | .ref a => some (.ref a)
  | .type n => some (.ty n)
  | _ => none
theorem RelV.abs {x : V} {u : Value} (r : RelV x u) : absV u = some x := by
  cases x with
  | non => cases r; rfl
  | bl _ => cases r; rfl
  | int _ => obtain ⟨t, rfl⟩ := r; rfl
  | str _ => obtain ⟨t, rfl⟩ := r; rfl
  | byt _ => obtain ⟨t, rfl⟩ := r; rfl
  | flt _ => obtain ⟨t, rfl⟩ := r; rfl
  | ref _ => cases r; rfl
  | ty _ => cases r; rfl
theorem RelV.inj {x y : V} {u : Value} (r : RelV x u) (q : RelV y u) : x = y := Option.some.inj (r.abs.symm.trans q.abs)
theorem Vals.inj : ∀ {xs ys : List V} {us : List Value}, Vals xs us → Vals ys us → xs = ys
  | _, _, _, .nil, .nil => rfl
  | _, _, _, .cons r t, .cons r' t' => by rw [r.inj r', Vals.inj t t']
section
variable {X : Cx} {pins : List (Addr × Obj)} {σ : St} {H : Hp} {s : Shared} {a : Addr} {xs ys : List V}
theorem SqL.of {K : PySem.W.Frag} (h : H a = some (.lst xs)) : SqL K H a xs := .inl (.inl h)
theorem SqT.of {K : PySem.W.Frag} (h : H a = some (.tup xs)) : SqT K H a xs := .inl (.inl h)
theorem Inv.list (I : Inv X pins σ H s) (h : SqL X.K H a xs) : ∃ its : List Value, Vals xs its ∧ PlainL s.heap a its.toArray ∧ xs.length ≤ sizeLine := by
  rcases h with h | ⟨o, its, n, hk, hc, hd, hs, hz, r⟩
  · obtain ⟨z, its, n, r, e⟩ := h.ok I.hok
    exact ⟨its, r, ⟨_, n, e, rfl, rfl, rfl⟩, z⟩
  · refine ⟨its.toList, r, ⟨o, n, I.kIn a o hk, hc, hd, by simpa using hs⟩, ?_⟩
    have e := r.length
    simp only [Array.length_toList] at e
    omega
theorem Inv.tuple (I : Inv X pins σ H s) (h : SqT X.K H a xs) : ∃ its : List Value, Vals xs its ∧ IsTup s.heap a its.toArray ∧ xs.length ≤ sizeLine := by
  rcases h with h | ⟨o, its, n, hk, hc, hs, hz, r⟩
  · obtain ⟨z, its, r, p⟩ := h.ok I.hok
    exact ⟨its, r, p, z⟩
  · refine ⟨its.toList, r, ⟨o, I.kIn a o hk, hc, n, by simpa using hs⟩, ?_⟩
    have e := r.length
    simp only [Array.length_toList] at e
    omega
theorem Inv.list_inj (I : Inv X pins σ H s) (h : SqL X.K H a xs) (h' : SqL X.K H a ys) : xs = ys := by
  obtain ⟨its, r, ⟨o, n, e, _, _, d⟩, _⟩ := I.list h
  obtain ⟨its', r', ⟨o', n', e', _, _, d'⟩, _⟩ := I.list h'
  rw [e] at e'; cases e'
  rw [d] at d'
  injection d' with d1 _
  have : its = its' := by simpa using congrArg Array.toList d1
  subst this
  exact r.inj r'
theorem Inv.tuple_inj (I : Inv X pins σ H s) (h : SqT X.K H a xs) (h' : SqT X.K H a ys) : xs = ys := by
  obtain ⟨its, r, ⟨o, e, _, n, d⟩, _⟩ := I.tuple h
  obtain ⟨its', r', ⟨o', e', _, n', d'⟩, _⟩ := I.tuple h'
  rw [e] at e'; cases e'
  rw [d] at d'
  injection d' with d1 _
  have : its = its' := by simpa using congrArg Array.toList d1
  subst this
  exact r.inj r'
end


abbrev Cx.wish (X : Cx) (E : Value → Shared → Prop) : Cx := { X with xe := E }

abbrev Cx.nox (X : Cx) : Cx := X.wish fun _ _ => False
theorem Cx.Ok.wish {X : Cx} (ok : X.Ok) (E : Value → Shared → Prop) : (X.wish E).Ok :=
  ⟨ok.mod, ok.kind, ok.glob, ok.blt, ok.above, ok.inj, ok.has, ok.cab, ok.hd, ok.frames, ok.stk, ok.exf, ok.bs, ok.bsz, ok.noex, ok.exfs, ok.funs, ok.frf⟩
theorem Cx.Ok.unwish {X : Cx} {E : Value → Shared → Prop} (ok : (X.wish E).Ok) : X.Ok :=
  ⟨ok.mod, ok.kind, ok.glob, ok.blt, ok.above, ok.inj, ok.has, ok.cab, ok.hd, ok.frames, ok.stk, ok.exf, ok.bs, ok.bsz, ok.noex, ok.exfs, ok.funs, ok.frf⟩
section
variable {X : Cx} {pins : List (Addr × Obj)} {σ : St} {H : Hp} {s : Shared} {E : Value → Shared → Prop}
theorem Inv.wish (I : Inv X pins σ H s) (E : Value → Shared → Prop) : Inv (X.wish E) pins σ H s := ⟨I.ok.wish E, I.os, I.bare, I.base, I.loc, I.cell, I.free, I.freeC, I.pin, I.hok, I.len⟩
theorem Inv.unwish (I : Inv (X.wish E) pins σ H s) : Inv X pins σ H s := ⟨I.ok.unwish, I.os, I.bare, I.base, I.loc, I.cell, I.free, I.freeC, I.pin, I.hok, I.len⟩
theorem SP.unwish {D : Ends} {f : Flow} {s' : Shared} (h : SP (X.wish E) pins D f s') : SP X pins D f s' := by
  cases f with
  | next => obtain ⟨σ', H', I, q⟩ := h; exact ⟨σ', H', I.unwish, q⟩
  | brk => obtain ⟨σ', H', I, q⟩ := h; exact ⟨σ', H', I.unwish, q⟩
  | cont => obtain ⟨σ', H', I, q⟩ := h; exact ⟨σ', H', I.unwish, q⟩
  | ret u => obtain ⟨v, σ', H', I, r, q⟩ := h; exact ⟨v, σ', H', I.unwish, r, q⟩
theorem PE.nox {e : Expr} {t : TE} (h : PE X.nox e t) : PE X e t := fun pins s σ H Q I hw =>
  wpAny_mono (h pins s σ H Q (I.wish _) hw) (fun _ _ ⟨v, H', I', r, q⟩ => ⟨v, H', I'.unwish, r, q⟩) fun _ _ z => False.elim z
theorem PT.nox {e : Expr} {t : TT} (h : PT X.nox e t) : PT X e t := fun pins s σ H Q I hw =>
  wpAny_mono (h pins s σ H Q (I.wish _) hw) (fun _ _ ⟨H', I', q⟩ => ⟨H', I'.unwish, q⟩) fun _ _ z => False.elim z
theorem PSs.nox {st : List Stmt} {t : TS} (h : PSs X.nox st t) : PSs X st t := fun pins s σ H D I hw =>
  wpAny_mono (h pins s σ H D (I.wish _) hw) (fun _ _ q => q.unwish) fun _ _ z => False.elim z
end


section
variable {X : Cx} {st : Stmt} {rest : List Stmt} {t u : TS} {e : Expr} {te : TE} {pos : Pos}
def tNext : TS := fun D σ H => D.nx σ H
def tSeq (t u : TS) : TS := fun D σ H => t { D with nx := u D } σ H
theorem pss_nil : PSs X [] tNext := fun _ _ σ H _ I h => wpAny_execs_nil ⟨σ, H, I, h⟩
theorem pss_cons (h1 : PS X st t) (h2 : PSs X rest u) : PSs X (st :: rest) (tSeq t u) := by
  intro pins s σ H D I h
  refine wpAny_execs_cons (thn (h1 pins s σ H { D with nx := u D } I h) fun f s1 q => ?_)
  cases f with
  | next =>
    obtain ⟨σ', H', I', q⟩ := q
    exact h2 pins s1 σ' H' D I' q
  | ret v => exact q
  | brk => exact q
  | cont => exact q
theorem pss_one (h1 : PS X st t) : PSs X [st] t := by
  intro pins s σ H D I h
  refine wpAny_execs_cons (thn (h1 pins s σ H D I h) fun f s1 q => ?_)
  cases f with
  | next => exact wpAny_execs_nil q
  | ret v => exact q
  | brk => exact q
  | cont => exact q
theorem Inv.quiet {pins : List (Addr × Obj)} {σ : St} {H : Hp} {s : Shared} (I : Inv X pins σ H s) : interactive X.env = false := by simp [interactive, I.ok.kind]

def tDrop (te : TE) : TS := fun D σ H => te σ H fun _ H1 => D.nx σ H1
theorem ps_expr (he : PE X e te) (hs : swapsWith e none pos.line X.env = pure false := by rfl) : PS X (.Expr e pos) (tDrop te) := by
  intro pins s σ H D I h
  exact wpAny_Expr_any (thn (he pins s σ H _ I h) fun v s1 ⟨x, H1, I1, r1, q1⟩ => ⟨σ, H1, I1, q1⟩) I.quiet hs
def tRet (te : TE) : TS := fun D σ H => te σ H D.rt
theorem ps_ret (he : PE X e te) : PS X (.Return (some e) pos) (tRet te) := by
  intro pins s σ H D I h
  exact wpAny_Return_some (thn (he pins s σ H _ I h) fun v s1 ⟨x, H1, I1, r1, q1⟩ => ⟨x, σ, H1, I1, r1, q1⟩)
def tIfS (c : TT) (t u : TS) : TS := fun D σ H => c σ H fun b H1 => if b = true then t D σ H1 else u D σ H1
theorem ps_if {c : Expr} {a b : List Stmt} {tc : TT} (hc : PT X c tc) (ha : PSs X a t) (hb : PSs X b u) : PS X (.If c a b pos) (tIfS tc t u) := by
  intro pins s σ H D I h
  refine wpAny_If (thn (hc pins s σ H _ I h) fun d s1 ⟨H1, I1, q1⟩ => ?_)
  cases d with
  | true => exact ha pins s1 σ H1 D I1 q1
  | false => exact hb pins s1 σ H1 D I1 q1

end


abbrev TG := V → St → Hp → (St → Hp → Prop) → Prop
abbrev TGs := List V → St → Hp → (St → Hp → Prop) → Prop
def PG (X : Cx) (target : Expr) (t : TG) : Prop :=
  ∀ (pins : List (Addr × Obj)) (s : Shared) (σ : St) (H : Hp) (v : V) (u : Value) (Q : St → Hp → Prop), Inv X pins σ H s → RelV v u → t v σ H Q →
    wpAny (model X.prog X.w) X.A (assign target X.env u) (fun _ s' => ∃ σ' H', Inv X pins σ' H' s' ∧ Q σ' H') X.xe s

def PGs (X : Cx) (ts : List Expr) (t : TGs) : Prop :=
  ∀ (pins : List (Addr × Obj)) (s : Shared) (σ : St) (H : Hp) (vs : List V) (us : List Value) (Q : St → Hp → Prop), Inv X pins σ H s → Vals vs us → t vs σ H Q →
    wpAny (model X.prog X.w) X.A (assignInOrder ((assignEach ts X.env).map (·.2)) us) (fun _ s' => ∃ σ' H', Inv X pins σ' H' s' ∧ Q σ' H') X.xe s

abbrev TSet := V → V → V → Hp → (Hp → Prop) → Prop
def PSet (X : Cx) (t : TSet) : Prop :=
  ∀ (pins : List (Addr × Obj)) (s : Shared) (σ : St) (H : Hp) (o i v : V) (ov iv u : Value) (Q : Hp → Prop), Inv X pins σ H s → RelV o ov → RelV i iv → RelV v u → t o i v H Q →
    wpAny (model X.prog X.w) X.A (setItem ov iv u) (fun _ s' => ∃ H', Inv X pins σ H' s' ∧ Q H') X.xe s

abbrev TIp := V → V → Hp → VK → Prop
def PIp (X : Cx) (op : Operator) (t : TIp) : Prop :=
  ∀ (pins : List (Addr × Obj)) (s : Shared) (σ : St) (H : Hp) (x y : V) (v u : Value) (Q : VK), Inv X pins σ H s → RelV x v → RelV y u → t x y H Q →
    wpAny (model X.prog X.w) X.A (inplaceOp op v u) (EP X pins σ Q) X.xe s
section
variable {X : Cx} {pos : Pos}
def gName (i : Nat) : TG := fun v σ H Q => Q (σ.set i (some v)) H
theorem pg_name {i : Nat} {x : Str} (hN : X.N.Nodup) (hi : X.N[i]? = some x) (hx : Loc X.env.scope x) (hf : X.fn x = true ∨ X.env.scope.names.lookup x = some .local := by first | exact .inl rfl | exact .inr rfl | assumption) : PG X (.Name x pos) (gName i) := by
  intro pins s σ H v u Q I r h
  exact wpAny_assign_Name (store_ok I hN hi hx r (fun s' I' => ⟨_, H, I', h⟩) hf)
def gNil : TGs := fun vs σ H Q => vs = [] ∧ Q σ H
def gCons (t : TG) (u : TGs) : TGs := fun vs σ H Q => ∃ v r, vs = v :: r ∧ t v σ H fun σ' H' => u r σ' H' Q
theorem pgs_nil : PGs X [] gNil := by
  intro pins s σ H vs us Q I r h
  obtain ⟨e, h⟩ := h
  subst e
  cases r
  exact assignInOrder_nil ⟨σ, H, I, h⟩
theorem pgs_cons {e : Expr} {es : List Expr} {t : TG} {u : TGs} (h1 : PG X e t) (h2 : PGs X es u)
    (hs : (assignEach (e :: es) X.env).map (·.2) = assign e X.env :: (assignEach es X.env).map (·.2) := by rfl) : PGs X (e :: es) (gCons t u) := by
  intro pins s σ H vs us Q I r h
  obtain ⟨v, vr, e1, h⟩ := h
  subst e1
  cases r with
  | cons r rr =>
    rw [hs]
    refine assignInOrder_cons (thn (h1 pins s σ H _ _ _ I r h) fun _ s1 ⟨σ1, H1, I1, q1⟩ => ?_)
    exact h2 pins s1 σ1 H1 _ _ Q I1 rr q1

def gTup (K : PySem.W.Frag) (n : Nat) (t : TGs) : TG := fun v σ H Q => ∃ a xs, v = .ref a ∧ SqT K H a xs ∧ xs.length = n ∧ t xs σ H Q
theorem pg_tup {es : List Expr} {k : Nat} {t : TGs} {n : Nat} (hc : X.calm = true) (h : PGs X es t)
    (hn : (assignEach es X.env).length = n := by rfl) (hst : (assignEach es X.env).findIdx? (·.1) = none := by rfl) : PG X (.Tuple es k pos) (gTup X.K n t) := by
  intro pins s σ H v u Q I r hw
  obtain ⟨a, xs, e1, hq, hl, hw⟩ := hw
  subst e1
  cases r
  obtain ⟨its, rv, ht, hz⟩ := I.tuple hq
  refine assign_Tuple_tuple (I.ok.hd hc) ht (by simp [hn, ← hl, rv.length]) hst fun h' hx => ?_
  have I1 : Inv X pins σ H { s with heap := h' } := I.kept (t' := s.toks) fun b o e => hx b o (Nat.ne_of_lt (Heap.lt_size e)) e
  exact h pins _ σ H xs _ Q I1 (by simpa using rv) hw

def gSub (to ti : TE) (t : TSet) : TG := fun v σ H Q => to σ H fun o H1 => ti σ H1 fun i H2 => t o i v H2 fun H3 => Q σ H3
theorem pg_sub {o i : Expr} {to ti : TE} {t : TSet} (ho : PE X o to) (hi : PE X i ti) (hs : PSet X t)
    (ha : ∀ v, assign (.Subscript o i pos) X.env v = (do
      let ov ← holding [v] (eval o X.env)
      let iv ← holding [v, ov] (eval i X.env)
      standAt pos
      holding [v, ov, iv] (setItem ov iv v)
      release [v, ov, iv] []) := by intro _; rfl) : PG X (.Subscript o i pos) (gSub to ti t) := by
  intro pins s σ H v u Q I r h
  rw [ha]
  refine wpAny_bind (wpAny_holding (thn (ho pins s σ H _ I h) fun ov s1 ⟨x, H1, I1, r1, q1⟩ => ?_))
  refine wpAny_bind (wpAny_holding (thn (hi pins s1 σ H1 _ I1 q1) fun iv s2 ⟨y, H2, I2, r2, q2⟩ => ?_))
  refine wpAny_bind (wpAny_standAt (wpAny_bind (wpAny_holding (thn (hs pins s2 σ H2 x y v ov iv u _ I2 r1 r2 r q2) fun _ s3 ⟨H3, I3, q3⟩ => ?_))))
  exact wpAny_release ⟨σ, H3, I3, q3⟩

def tAsg (te : TE) (g : TG) : TS := fun D σ H => te σ H fun x H1 => g x σ H1 D.nx
theorem ps_asg {tg e : Expr} {te : TE} {g : TG} (he : PE X e te) (hg : PG X tg g) (hs : swapsWithSole [tg] e pos.line X.env = pure false := by rfl) (hw : swappedStores [tg] e X.env = pure none := by rfl)
    (h1 : (assignEach [tg] X.env).map (·.2) = [assign tg X.env] := by rfl) : PS X (.Assign [tg] e pos) (tAsg te g) := by
  intro pins s σ H D I h
  refine wpAny_Assign_stores (thn (he pins s σ H _ I h) fun v s1 ⟨x, H1, I1, r1, q1⟩ => ?_) hs hw
  rw [h1]
  exact thn (hg pins s1 σ H1 x v _ I1 r1 q1) fun _ s2 q => q

theorem ps_set {i : Nat} {x : Str} {e : Expr} {te : TE} {pos' : Pos} (hN : X.N.Nodup) (hi : X.N[i]? = some x) (hx : Loc X.env.scope x) (he : PE X e te) (hs : swapsWith e (some (.Name x pos')) pos.line X.env = pure false := by rfl) (hf : X.fn x = true ∨ X.env.scope.names.lookup x = some .local := by first | exact .inl rfl | exact .inr rfl | assumption) :
    PS X (.Assign [.Name x pos'] e pos) (tAsg te (gName i)) := by
  intro pins s σ H D I h
  refine wpAny_Assign_Name (thn (he pins s σ H _ I h) fun v s1 ⟨y, H1, I1, r1, q1⟩ => ?_) hs
  exact store_ok I1 hN hi hx r1 (fun s2 I2 => ⟨_, H1, I2, q1⟩) hf

def tPar (i j : Nat) (ta : TA) : TS := fun D σ H => ta σ H fun vs H1 => ∃ v w, vs = [v, w] ∧ D.nx ((σ.set i (some v)).set j (some w)) H1
def tAug (i : Nat) (te : TE) (ti : TIp) : TS := fun D σ H => ∃ x, σ[i]? = some (some x) ∧ te σ H fun y H1 => ti x y H1 fun z H2 => D.nx (σ.set i (some z)) H2
theorem ps_aug {i : Nat} {x : Str} {e : Expr} {te : TE} {op : Operator} {ti : TIp} {pos' : Pos} (hN : X.N.Nodup) (hi : X.N[i]? = some x) (hx : Loc X.env.scope x) (he : PE X e te) (ho : PIp X op ti) (hf : X.fn x = true ∨ X.env.scope.names.lookup x = some .local := by first | exact .inl rfl | exact .inr rfl | assumption) :
    PS X (.AugAssign (.Name x pos') op e pos) (tAug i te ti) := by
  intro pins s σ H D I h
  obtain ⟨v, e1, h⟩ := h
  obtain ⟨m, hn, hl⟩ := I.loc
  have vis : Vis X.env.scope x := by rcases hx with k | k; exact .inl k; exact .inr (.inl k)
  obtain ⟨u, r, l⟩ := hl i x v hi e1 vis
  refine wpAny_AugAssign_Name ?_
  have go : wpAny (model X.prog X.w) X.A (eval e X.env) (fun w s₂ => wpAny (model X.prog X.w) X.A (inplaceOp op u w) (fun r s₃ => wpAny (model X.prog X.w) X.A (storeName X.env x r) (fun _ => SP X pins D .next) X.xe s₃) X.xe s₂) X.xe s := by
    refine thn (he pins s σ H _ I h) fun w s1 ⟨y, H1, I1, r1, q1⟩ => ?_
    refine thn (ho pins s1 σ H1 v y u w _ I1 r r1 q1) fun z s2 ⟨zv, H2, I2, r2, q2⟩ => ?_
    exact store_ok I2 hN hi hx r2 (fun s3 I3 => ⟨_, H2, I3, q2⟩) hf
  rcases l with ⟨hk, hm⟩ | ⟨hk, c, hc, hcell⟩
  · exact wpAny_loadName_local I.ok.kind hk hn hm go
  · rcases hk with hk | hk
    · exact wpAny_loadName_cell I.ok.kind hk hc hcell go
    · rcases hx with k | k
      · have : X.env.scope.names.lookup x = some .free := hk
        rw [k] at this; cases this
      · have : X.env.scope.names.lookup x = some .free := hk
        rw [k] at this; cases this

def tAugS (to ti te : TE) (tget : V → V → Hp → VK → Prop) (tip : TIp) (tset : TSet) : TS := fun D σ H => to σ H fun o H1 => ti σ H1 fun i H2 => tget o i H2 fun x H3 => te σ H3 fun y H4 => tip x y H4 fun z H5 => tset o i z H5 fun H6 => D.nx σ H6

def ipI (f : Int → Int → Int) : TIp := fun x y H Q => ∃ i j, x = .int i ∧ y = .int j ∧ Q (.int (f i j)) H
theorem ip_sub : PIp X .Sub (ipI fun i j => i - j) := by
  intro pins s σ H x y v u Q I r1 r2 h
  obtain ⟨i, j, e1, e2, q⟩ := h
  subst e1; subst e2
  obtain ⟨t, rfl⟩ := r1
  obtain ⟨t', rfl⟩ := r2
  exact isub_int ⟨.int _, H, I.tok _, ⟨_, rfl⟩, q⟩
end


section
variable {X : Cx} {pos : Pos}

def tWhile (c : TT) (tb : TS) : TS := fun D σ H => ∃ W : Nat → St → Hp → Prop, (∃ m, W m σ H) ∧ ∀ m σ H, W m σ H →
  c σ H fun b H1 => if b = true then ∃ N : St → Hp → Prop, (∀ σ' H', N σ' H' → ∃ m', m' < m ∧ W m' σ' H') ∧ tb { D with nx := N, ct := N, bk := D.nx } σ H1 else D.nx σ H1
theorem ps_while {c : Expr} {body : List Stmt} {tc : TT} {tb : TS} (hp : PassesOwn (model X.prog X.w) X.A X.env X.xe) (hc : PT X c tc) (hb : PSs X body tb) : PS X (.While c body [] pos) (tWhile tc tb) := by
  intro pins s σ H D I h
  obtain ⟨W, ⟨m0, w0⟩, turn⟩ := h
  refine wpAny_While (codeAny_whileLoop (fun n s' => ∃ σ' H', Inv X pins σ' H' s' ∧ W n σ' H') ?_ m0 ⟨σ, H, I, w0⟩)
  rintro n s1 ⟨σ1, H1, I1, w1⟩
  refine wpAny_passesOwn hp (thn (hc pins s1 σ1 H1 _ I1 (turn n σ1 H1 w1)) fun b s2 ⟨H2, I2, q2⟩ => ?_)
  cases b with
  | true =>
    obtain ⟨N, hN, q2⟩ := q2
    rw [if_pos rfl]
    refine wpAny_passesOwn hp (thn (hb pins s2 σ1 H2 _ I2 q2) fun f s3 q3 => ?_)
    cases f with
    | next =>
      obtain ⟨σ3, H3, I3, n3⟩ := q3
      obtain ⟨m', hm, w3⟩ := hN σ3 H3 n3
      exact ⟨m', hm, σ3, H3, I3, w3⟩
    | cont =>
      obtain ⟨σ3, H3, I3, n3⟩ := q3
      obtain ⟨m', hm, w3⟩ := hN σ3 H3 n3
      exact ⟨m', hm, σ3, H3, I3, w3⟩
    | brk => exact q3
    | ret v => exact q3
  | false =>
    rw [if_neg Bool.false_ne_true]
    exact wpAny_execs_nil ⟨σ1, H2, I2, q2⟩
end



structure It where
  go : Nat → Hp → Prop
  yld : Nat → Hp → V → Hp → Prop
  stop : Nat → Hp → Prop

def FpOk (X : Cx) (pins : List (Addr × Obj)) (H : Hp) (b : Addr) : Prop :=
  H b = none ∧ b ≠ X.env.locals ∧ b ∉ X.fs ∧ (b ∈ X.ex ∨ X.s₀.heap.objs.size ≤ b) ∧ (∀ x c, X.env.cells.lookup x = some c → c ≠ b) ∧ ∀ p ∈ X.pn ++ pins, p.1 ≠ b
theorem Inv.fpOk {X : Cx} {pins : List (Addr × Obj)} {σ : St} {H H' : Hp} {s : Shared} {b : Addr} (I : Inv X pins σ H s) (hb : s.heap.objs.size ≤ b) (hn : H' b = none) : FpOk X pins H' b := by
  refine ⟨hn, Nat.ne_of_gt (Nat.lt_of_lt_of_le I.lt hb), I.nofs hb, .inr (Nat.le_trans I.sz hb), fun x c e z => ?_, fun p hp z => ?_⟩
  · obtain ⟨v, q⟩ := I.cell x c e
    exact absurd (Nat.lt_of_lt_of_le q.lt (by rw [z]; exact hb)) (Nat.lt_irrefl _)
  · exact absurd (Nat.lt_of_lt_of_le (Heap.lt_size (I.pin p hp).1) (by rw [z]; exact hb)) (Nat.lt_irrefl _)
structure Turn (P : Program) (w : World) (K : PySem.W.Frag) (tg : Expr) (J : It) (fp : List Addr) (it : Addr) (tn : Nat → Heap → Prop) : Prop where
  mem : it ∈ fp
  obj : ∀ i h, tn i h → ∀ b ∈ fp, ∃ o, h.get? b = some o ∧ ∀ v, o.data ≠ .cell v
  keep : ∀ i h h', tn i h → (∀ b ∈ fp, ∀ o, h.get? b = some o → h'.get? b = some o) → tn i h'
  item : ∀ (X : Cx), X.prog = P → X.w = w → X.K = K → X.calm = true → ∀ (i : Nat) (pins : List (Addr × Obj)) (s : Shared) (σ : St) (H : Hp) (E : Value → Shared → Prop), Inv X pins σ H s → (∀ b ∈ fp, FpOk X pins H b) → tn i s.heap → J.go i H →
    wpAny (model P w) X.A (pyNext (.ref it)) (fun r s1 => ∃ u, r = some u ∧
      wpAny (model P w) X.A (letOwnedTupleGo tg (.ref it) u) (fun _ s2 => ∃ x H', Inv X pins σ H' s2 ∧ RelV x u ∧ J.yld i H x H' ∧ tn (i + 1) s2.heap ∧ ∀ b ∈ fp, H' b = none) E s1) E s
  done : ∀ (X : Cx), X.prog = P → X.w = w → X.K = K → X.calm = true → ∀ (i : Nat) (pins : List (Addr × Obj)) (s : Shared) (σ : St) (H : Hp) (E : Value → Shared → Prop), Inv X pins σ H s → (∀ b ∈ fp, FpOk X pins H b) → tn i s.heap → J.stop i H →
    wpAny (model P w) X.A (pyNext (.ref it)) (fun r s1 => r = none ∧ Inv X pins σ H s1) E s
  self : ∀ (A : Around) (i : Nat) (s : Shared) (Q : Value → Shared → Prop) (E : Value → Shared → Prop), tn i s.heap → Q (.ref it) s → wpAny (model P w) A (pyIter (.ref it)) Q E s
abbrev TI := St → Hp → (It → Hp → Prop) → Prop

def PIE (X : Cx) (pins : List (Addr × Obj)) (σ : St) (tg : Expr) (R : It → Hp → Prop) (itv : Value) (s2 : Shared) : Prop :=
  ∃ (it : Addr) (fp : List Addr) (tn : Nat → Heap → Prop) (J : It) (H' : Hp), itv = .ref it ∧ Inv X pins σ H' s2 ∧ Turn X.prog X.w X.K tg J fp it tn ∧ tn 0 s2.heap ∧ (∀ b ∈ fp, FpOk X pins H' b) ∧ R J H'
def PI (X : Cx) (tg iter : Expr) (wi : TI) : Prop :=
  ∀ (pins : List (Addr × Obj)) (s : Shared) (σ : St) (H : Hp) (R : It → Hp → Prop), Inv X pins σ H s → wi σ H R →
    wpAny (model X.prog X.w) X.A (eval iter X.env) (fun v s1 => wpAny (model X.prog X.w) X.A (pyIter v) (PIE X pins σ tg R) X.xe s1) X.xe s


theorem go_of {M : Model} {A : Around} {E : Value → Shared → Prop} {s : Shared} {tg : Expr} {it : Addr} {u : Value} {o : Obj} {n : String} {vs : Array Value} {Q : Unit → Shared → Prop} (ho : s.heap.get? it = some o) (hc : o.cls = .type n) (hd : o.data = .fields vs)
    (hn : ["enumerate", "zip", "dict_itemiterator", "dict_reverseitemiterator", "odict_iterator", "itertools.zip_longest", "itertools.pairwise"].contains n = false) (hQ : Q () s) : wpAny M A (letOwnedTupleGo tg (.ref it) u) Q E s := by
  unfold letOwnedTupleGo
  cases tg <;> first
    | exact wpAny_pure hQ
    | (cases u <;> first
        | exact wpAny_pure hQ
        | (refine wpAny_bind (wpAny_load ho ?_)
           rw [hc, hd]
           show wpAny M A (if (["enumerate", "zip", "dict_itemiterator", "dict_reverseitemiterator", "odict_iterator", "itertools.zip_longest", "itertools.pairwise"].contains n && vs[0]? == some (rawInt _)) = true then _ else _) Q E s
           rw [if_neg (by intro h; rw [hn, Bool.false_and] at h; cases h)]
           exact wpAny_pure hQ))


def Itl (K : PySem.W.Frag) (a : Addr) : It :=
  ⟨fun i H => ∃ xs x, SqL K H a xs ∧ xs[i]? = some x, fun i H x H' => H' = H ∧ ∀ xs, SqL K H a xs → xs[i]? = some x, fun i H => ∃ xs, SqL K H a xs ∧ xs.length ≤ i⟩
def Itt (K : PySem.W.Frag) (a : Addr) : It :=
  ⟨fun i H => ∃ xs x, SqT K H a xs ∧ xs[i]? = some x, fun i H x H' => H' = H ∧ ∀ xs, SqT K H a xs → xs[i]? = some x, fun i H => ∃ xs, SqT K H a xs ∧ xs.length ≤ i⟩

def Itr (lo : Int) (n : Nat) : It := ⟨fun i _ => i < n, fun i H x H' => H' = H ∧ x = .int (lo + i), fun i _ => n ≤ i⟩
theorem turn_list {P : Program} {w : World} {K : PySem.W.Frag} {tg : Expr} (a it : Addr) : Turn P w K tg (Itl K a) [it] it (fun i h => h.IsListIter it a i) where
  mem := by simp
  obj := fun i h st b hb => by
    have e : b = it := by simpa using hb
    subst e
    obtain ⟨o, e, c, d⟩ := st
    exact ⟨o, e, fun v z => by rw [d] at z; cases z⟩
  keep := fun i h h' st k => st.at fun o e => k it (by simp) o e
  item := by
    intro X hP hw hK hc i pins s σ H E I hf st hg
    subst hP hw hK
    obtain ⟨xs, x, hq, hx⟩ := hg
    obtain ⟨its, rv, p, hz⟩ := I.list hq
    obtain ⟨u, hu, ru⟩ := rv.get hx
    obtain ⟨f0, f1, f2, f3, f4, f5⟩ := hf it (by simp)
    refine wpAny_pyNext_list_item st p.isList (x := u) (by simpa using hu) fun h' st' sb => ?_
    have I1 : Inv X pins σ H { s with heap := h' } := I.turned (t' := s.toks) (fun b o hb e => (sb.2 b hb).trans e) f0 f1 f3 f4 f5
    obtain ⟨o, e, c, d⟩ := id st'
    exact ⟨u, rfl, go_of (s := { s with heap := h' }) e c d (by decide) ⟨x, H, I1, ru, ⟨rfl, fun ys hy => by rw [I.list_inj hy hq]; exact hx⟩, st', fun b hb => (hf b hb).1⟩⟩
  done := by
    intro X hP hw hK hc i pins s σ H E I hf st hg
    subst hP hw hK
    obtain ⟨xs, hq, hx⟩ := hg
    obtain ⟨its, rv, p, hz⟩ := I.list hq
    obtain ⟨f0, f1, f2, f3, f4, f5⟩ := hf it (by simp)
    have hl := rv.length
    exact wpAny_pyNext_list_end (I.ok.hd hc) st p.isList (by simp; omega) fun h' eb => ⟨rfl, I.turned (t' := s.toks) (fun b o hb e => eb b o hb e) f0 f1 f3 f4 f5⟩
  self := fun _ _ _ _ _ st h => wpAny_pyIter_listiter st h
theorem turn_tuple {P : Program} {w : World} {K : PySem.W.Frag} {tg : Expr} (a it : Addr) : Turn P w K tg (Itt K a) [it] it (fun i h => h.IsTupleIter it a i) where
  mem := by simp
  obj := fun i h st b hb => by
    have e : b = it := by simpa using hb
    subst e
    obtain ⟨o, e, c, d⟩ := st
    exact ⟨o, e, fun v z => by rw [d] at z; cases z⟩
  keep := fun i h h' st k => st.at fun o e => k it (by simp) o e
  item := by
    intro X hP hw hK hc i pins s σ H E I hf st hg
    subst hP hw hK
    obtain ⟨xs, x, hq, hx⟩ := hg
    obtain ⟨its, rv, p, hz⟩ := I.tuple hq
    obtain ⟨u, hu, ru⟩ := rv.get hx
    obtain ⟨f0, f1, f2, f3, f4, f5⟩ := hf it (by simp)
    refine wpAny_pyNext_tuple_item st (show s.heap.IsTuple a its.toArray from p) (x := u) (by simpa using hu) fun h' st' sb => ?_
    have I1 : Inv X pins σ H { s with heap := h' } := I.turned (t' := s.toks) (fun b o hb e => (sb.2 b hb).trans e) f0 f1 f3 f4 f5
    obtain ⟨o, e, c, d⟩ := id st'
    exact ⟨u, rfl, go_of (s := { s with heap := h' }) e c d (by decide) ⟨x, H, I1, ru, ⟨rfl, fun ys hy => by rw [I.tuple_inj hy hq]; exact hx⟩, st', fun b hb => (hf b hb).1⟩⟩
  done := by
    intro X hP hw hK hc i pins s σ H E I hf st hg
    subst hP hw hK
    obtain ⟨xs, hq, hx⟩ := hg
    obtain ⟨its, rv, p, hz⟩ := I.tuple hq
    obtain ⟨f0, f1, f2, f3, f4, f5⟩ := hf it (by simp)
    have hl := rv.length
    exact wpAny_pyNext_tuple_end (I.ok.hd hc) st (show s.heap.IsTuple a its.toArray from p) (by simp; omega) fun h' eb => ⟨rfl, I.turned (t' := s.toks) (fun b o hb e => eb b o hb e) f0 f1 f3 f4 f5⟩
  self := fun _ _ _ _ _ st h => wpAny_pyIter_tupleiter st h
theorem turn_range {P : Program} {w : World} {K : PySem.W.Frag} {tg : Expr} (it : Addr) (lo : Int) (n : Nat) : Turn P w K tg (Itr lo n) [it] it (fun i h => IsRangeIter h it (lo + (i : Nat) * 1) ((n : Int) - (i : Nat)) 1) where
  mem := by simp
  obj := fun i h st b hb => by
    have e : b = it := by simpa using hb
    subst e
    exact ⟨_, st, fun v z => by
      have z' : Data.fields _ = Data.cell v := z
      cases z'⟩
  keep := fun i h h' st k => k it (by simp) _ st
  item := by
    intro X hP hw hK hc i pins s σ H E I hf st hg
    subst hP hw hK
    obtain ⟨f0, f1, f2, f3, f4, f5⟩ := hf it (by simp)
    have W := Walks.range (prog := X.prog) (w := X.w) (I.ok.hd hc) it lo 1 n
    refine W.item i s _ _ hg st fun v h' tk hv st' kk => ?_
    obtain ⟨t, rfl⟩ := hv
    have I1 : Inv X pins σ H { s with heap := h', toks := tk } := I.turned (fun b o hb e => kk b o (by simpa using hb) e) f0 f1 f3 f4 f5
    refine ⟨_, rfl, go_of (s := { s with heap := h', toks := tk }) (n := "range_iterator") st' rfl rfl (by decide) ⟨.int (lo + i), H, I1, ⟨t, ?_⟩, ⟨rfl, rfl⟩, st', fun b hb => (hf b hb).1⟩⟩
    rw [Int.mul_one]
  done := by
    intro X hP hw hK hc i pins s σ H E I hf st hg
    subst hP hw hK
    obtain ⟨f0, f1, f2, f3, f4, f5⟩ := hf it (by simp)
    exact wpAny_pyNext_range_end (I.ok.hd hc) st (by have : n ≤ i := hg; omega) fun h' eb => ⟨rfl, I.turned (t' := s.toks) (fun b o hb e => eb b o hb e) f0 f1 f3 f4 f5⟩
  self := fun _ _ _ _ _ st h => wpAny_pyIter_rangeiter st h
end L2

namespace L2
open PySem PySem.Spec PyProof.Rows
section
variable {X : Cx} {tg : Expr}
def iList (K : PySem.W.Frag) (tl : TE) : TI := fun σ H R => tl σ H fun x H1 => ∃ a, x = .ref a ∧ (∃ xs, SqL K H1 a xs) ∧ R (Itl K a) H1
def iTup (K : PySem.W.Frag) (tl : TE) : TI := fun σ H R => tl σ H fun x H1 => ∃ a, x = .ref a ∧ (∃ xs, SqT K H1 a xs) ∧ R (Itt K a) H1
theorem pi_list {l : Expr} {tl : TE} (hl : PE X l tl) : PI X tg l (iList X.K tl) := by
  intro pins s σ H R I h
  refine thn (hl pins s σ H _ I h) fun v s1 ⟨x, H1, I1, r1, q1⟩ => ?_
  obtain ⟨a, e, ⟨xs, hq⟩, q⟩ := q1
  subst e
  cases r1
  obtain ⟨its, rv, p, hz⟩ := I1.list hq
  refine wpAny_pyIter_list p.isList ?_
  refine ⟨s1.heap.objs.size, [s1.heap.objs.size], _, _, H1, rfl, I1.kept (t' := s1.toks) fun b o e => Heap.get?_push_of_some _ e, turn_list a _, ⟨_, Heap.get?_push_size _ rfl, rfl, rfl⟩, fun b hb => ?_, q⟩
  have e : b = s1.heap.objs.size := by simpa using hb
  subst e
  exact I1.fpOk (Nat.le_refl _) (I1.hok.fresh (Nat.le_refl _))
theorem pi_tup {l : Expr} {tl : TE} (hl : PE X l tl) : PI X tg l (iTup X.K tl) := by
  intro pins s σ H R I h
  refine thn (hl pins s σ H _ I h) fun v s1 ⟨x, H1, I1, r1, q1⟩ => ?_
  obtain ⟨a, e, ⟨xs, hq⟩, q⟩ := q1
  subst e
  cases r1
  obtain ⟨its, rv, p, hz⟩ := I1.tuple hq
  refine wpAny_pyIter_tuple (show s1.heap.IsTuple a its.toArray from p) ?_
  refine ⟨s1.heap.objs.size, [s1.heap.objs.size], _, _, H1, rfl, I1.kept (t' := s1.toks) fun b o e => Heap.get?_push_of_some _ e, turn_tuple a _, ⟨_, Heap.get?_push_size _ rfl, rfl, rfl⟩, fun b hb => ?_, q⟩
  have e : b = s1.heap.objs.size := by simpa using hb
  subst e
  exact I1.fpOk (Nat.le_refl _) (I1.hok.fresh (Nat.le_refl _))

theorem range_it {pins : List (Addr × Obj)} {σ : St} {H : Hp} {s : Shared} {R : It → Hp → Prop} {E : Value → Shared → Prop} {lo hi : Int} {t u v : Tok} {tk : Nat} (I : Inv X pins σ H s) (h1 : -(2 ^ 62) ≤ lo) (h2 : lo < 2 ^ 62) (h3 : -(2 ^ 62) ≤ hi) (h4 : hi < 2 ^ 62)
    (q : R (Itr lo (hi - lo).toNat) H) : wpAny (model X.prog X.w) X.A (pyIter (.ref s.heap.objs.size)) (PIE X pins σ tg R) E { s with heap := s.heap.push { cls := .type "range", data := .fields #[.int lo t, .int hi u, .int 1 v] }, toks := tk } := by
  refine wpAny_pyIter_range (IsRange.new ..) (small_one h1 h2 h3 h4) ?_
  have I1 : Inv X pins σ H { s with heap := s.heap.push { cls := .type "range", data := .fields #[.int lo t, .int hi u, .int 1 v] }, toks := tk } := I.kept fun b o e => Heap.get?_push_of_some _ e
  refine ⟨(s.heap.push { cls := .type "range", data := .fields #[.int lo t, .int hi u, .int 1 v] }).objs.size, [(s.heap.push { cls := .type "range", data := .fields #[.int lo t, .int hi u, .int 1 v] }).objs.size], _, _, H, rfl,
    I1.kept (t' := tk) fun b o e => Heap.get?_push_of_some _ e, turn_range _ lo (hi - lo).toNat, ?_, fun b hb => ?_, q⟩
  · have e1 : lo + ((0 : Nat) : Int) * 1 = lo := by simp
    have e2 : (((hi - lo).toNat : Nat) : Int) - ((0 : Nat) : Int) = Builtin.Range.rangeSize lo hi 1 := by rw [rangeSize_one]; split <;> omega
    show IsRangeIter _ _ (lo + ((0 : Nat) : Int) * 1) ((((hi - lo).toNat : Nat) : Int) - ((0 : Nat) : Int)) 1
    rw [e1, e2]
    exact Heap.get?_push_size _ rfl
  · have e : b = (s.heap.push { cls := .type "range", data := .fields #[.int lo t, .int hi u, .int 1 v] }).objs.size := by simpa using hb
    subst e
    exact I1.fpOk (Nat.le_refl _) (I1.hok.fresh (Nat.le_refl _))
def iRng1 (ta : TA) : TI := fun σ H R => ta σ H fun vs H1 => ∃ j : Int, vs = [.int j] ∧ -(2 ^ 62) ≤ j ∧ j < 2 ^ 62 ∧ R (Itr 0 j.toNat) H1
def iRng2 (ta : TA) : TI := fun σ H R => ta σ H fun vs H1 => ∃ i j : Int, vs = [.int i, .int j] ∧ (-(2 ^ 62) ≤ i ∧ i < 2 ^ 62 ∧ -(2 ^ 62) ≤ j ∧ j < 2 ^ 62) ∧ R (Itr i (j - i).toNat) H1
theorem pi_range1 {a : Expr} {ta : TA} {p pos : Pos} (hg : Gl X "range") (hm : X.mg "range" = none) (ha : PA X [a] ta) (hs : starEach [a] X.env = [(false, eval a X.env)] := by rfl) : PI X tg (.Call (.Name "range" p) [a] [] pos) (iRng1 ta) := by
  intro pins s σ H R I h
  refine Call_ (ld_blt I hg hm boot_range (PyProof.Rows.callWith_type1 (thn (ha pos pins s σ H _ I h) fun us s1 ⟨vs, H1, I1, r1, q1⟩ => ?_) hs rfl))
  obtain ⟨j, e, q1, q2, q⟩ := q1
  subst e
  cases r1 with
  | cons r rr =>
    cases rr
    obtain ⟨t, rfl⟩ := r
    exact call_range_1 (range_it I1 (by omega) (by omega) q1 q2 (by simpa using q))
theorem pi_range2 {a b : Expr} {ta : TA} {p pos : Pos} (hg : Gl X "range") (hm : X.mg "range" = none) (ha : PA X [a, b] ta) (hs : starEach [a, b] X.env = [(false, eval a X.env), (false, eval b X.env)] := by rfl) (hs2 : starEach [b] X.env = [(false, eval b X.env)] := by rfl) :
    PI X tg (.Call (.Name "range" p) [a, b] [] pos) (iRng2 ta) := by
  intro pins s σ H R I h
  refine Call_ (ld_blt I hg hm boot_range (PyProof.Rows.callWith_type1 (thn (ha pos pins s σ H _ I h) fun us s1 ⟨vs, H1, I1, r1, q1⟩ => ?_) (by rw [hs, hs2]) (by rw [hs2]; rfl)))
  obtain ⟨i, j, e, ⟨q1, q2, q3, q4⟩, q⟩ := q1
  subst e
  cases r1 with
  | cons r rr =>
    cases rr with
    | cons r' rr =>
      cases rr
      obtain ⟨t, rfl⟩ := r
      obtain ⟨t', rfl⟩ := r'
      exact call_range_2 (range_it I1 q1 q2 q3 q4 q)



def tFor (wi : TI) (g : TG) (tb : TS) : TS := fun D σ H => wi σ H fun J H1 => ∃ W : Nat → Nat → St → Hp → Prop, (∃ m, W 0 m σ H1) ∧ ∀ i m σ H, W i m σ H →
  (J.stop i H ∧ D.nx σ H) ∨ (J.go i H ∧ ∃ N : St → Hp → Prop, (∀ σ' H', N σ' H' → ∃ m', m' < m ∧ W (i + 1) m' σ' H') ∧ ∀ x H', J.yld i H x H' → g x σ H' fun σ2 H2 => tb { D with nx := N, ct := N, bk := D.nx } σ2 H2)

def pinsAt (fp : List Addr) (h : Heap) : List (Addr × Obj) := fp.filterMap fun b => (h.get? b).map fun o => (b, o)
theorem mem_pinsAt {fp : List Addr} {h : Heap} {b : Addr} {o : Obj} (hb : b ∈ fp) (e : h.get? b = some o) : (b, o) ∈ pinsAt fp h := List.mem_filterMap.mpr ⟨b, hb, by rw [e]; rfl⟩
theorem of_pinsAt {fp : List Addr} {h : Heap} {p : Addr × Obj} (hp : p ∈ pinsAt fp h) : p.1 ∈ fp ∧ h.get? p.1 = some p.2 := by
  obtain ⟨b, hb, e⟩ := List.mem_filterMap.mp hp
  cases q : h.get? b with
  | none => rw [q] at e; cases e
  | some o =>
    rw [q] at e
    have e' : (b, o) = p := Option.some.inj e
    subst e'
    exact ⟨hb, q⟩
theorem Inv.pinned {pins : List (Addr × Obj)} {σ : St} {H : Hp} {s : Shared} {fp : List Addr} (I : Inv X pins σ H s) (hf : ∀ b ∈ fp, FpOk X pins H b) (ho : ∀ b ∈ fp, ∃ o, s.heap.get? b = some o ∧ ∀ v, o.data ≠ .cell v) : Inv X (pins ++ pinsAt fp s.heap) σ H s :=
  I.pins_of fun p hp => (List.mem_append.mp hp).elim (fun z => I.pin p (List.mem_append_right _ z)) fun z => by
    obtain ⟨hb, e⟩ := of_pinsAt z
    obtain ⟨f0, f1, f2, _⟩ := hf p.1 hb
    obtain ⟨o, e', d⟩ := ho p.1 hb
    rw [e] at e'; cases e'
    exact ⟨e, f0, f1, f2, d⟩
theorem Inv.unpinned {pins pl : List (Addr × Obj)} {σ : St} {H : Hp} {s : Shared} (I : Inv X (pins ++ pl) σ H s) : Inv X pins σ H s := I.pins_of fun p hp => I.pin p (List.mem_append_right _ (List.mem_append_left _ hp))
theorem ps_for {iter : Expr} {body : List Stmt} {wi : TI} {g : TG} {tb : TS} {pos : Pos} (hp : PassesOwn (model X.prog X.w) X.A X.env X.xe) (hc : X.calm = true) (hi : PI X tg iter wi) (hg : PG X tg g) (hb : PSs X body tb)
    (hs : ∀ x, foldedSetIterable iter X.env x = pure x := by intro _; rfl) : PS X (.For tg iter body [] pos) (tFor wi g tb) := by
  intro pins s σ H D I h
  refine wpAny_For (thn (hi pins s σ H _ I h) fun v s1 h1 => thn h1 fun itv s2 h2 => ?_) hs
  obtain ⟨it, fp, tn, J, H2, e, I2, T, st2, f2, W, ⟨m0, w0⟩, turn⟩ := h2
  subst e
  -- what stays true of the iterator's objects through the loop
  have stat : ∀ {H' : Hp}, (∀ b ∈ fp, H' b = none) → ∀ b ∈ fp, FpOk X pins H' b := fun hn b hb => ⟨hn b hb, (f2 b hb).2⟩
  refine codeAny_forLoop_any (fun n s' => ∃ i σ' H', Inv X pins σ' H' s' ∧ tn i s'.heap ∧ (∀ b ∈ fp, H' b = none) ∧ W i n σ' H') ?_ m0 ⟨0, σ, H2, I2, st2, fun b hb => (f2 b hb).1, w0⟩
  rintro n s3 ⟨i, σ3, H3, I3, st3, fr3, w3⟩
  rcases turn i n σ3 H3 w3 with ⟨stop, qn⟩ | ⟨go, N, hN, step⟩
  · refine wpAny_passesOwn hp (thn (T.done X rfl rfl rfl hc i pins s3 σ3 H3 X.xe I3 (stat fr3) st3 stop) fun r s4 ⟨hr, I4⟩ => ?_)
    subst hr
    exact wpAny_execs_nil ⟨σ3, H3, I4, qn⟩
  · refine wpAny_passesOwn hp (thn (T.item X rfl rfl rfl hc i pins s3 σ3 H3 X.xe I3 (stat fr3) st3 go) fun r s4 ⟨u, hr, h4⟩ => ?_)
    subst hr
    refine wpAny_passesOwn hp (thn h4 fun _ s5 ⟨x, H5, I5, r5, y5, st5, fr5⟩ => ?_)
    have I5' := I5.pinned (stat fr5) (T.obj _ _ st5)
    refine wpAny_passesOwn hp (thn (hg _ s5 σ3 H5 x u _ I5' r5 (step x H5 y5)) fun _ s6 ⟨σ6, H6, I6, q6⟩ => ?_)
    refine wpAny_passesOwn hp (thn (hb _ s6 σ6 H6 _ I6 q6) fun f s7 q7 => ?_)
    have again : ∀ {σ7 : St} {H7 : Hp}, Inv X (pins ++ pinsAt fp s5.heap) σ7 H7 s7 → N σ7 H7 → ∃ m, m < n ∧ ∃ i σ' H', Inv X pins σ' H' s7 ∧ tn i s7.heap ∧ (∀ b ∈ fp, H' b = none) ∧ W i m σ' H' := fun {σ7 H7} I7 n7 => by
      obtain ⟨m', hm, w7⟩ := hN σ7 H7 n7
      refine ⟨m', hm, i + 1, σ7, H7, I7.unpinned, T.keep _ _ _ st5 fun b hb o e => (I7.pin (b, o) (List.mem_append_right _ (List.mem_append_right _ (mem_pinsAt hb e)))).1, fun b hb => ?_, w7⟩
      obtain ⟨o, e, d⟩ := T.obj _ _ st5 b hb
      exact (I7.pin (b, o) (List.mem_append_right _ (List.mem_append_right _ (mem_pinsAt hb e)))).2.1
    cases f with
    | next => obtain ⟨σ7, H7, I7, n7⟩ := q7; exact again I7 n7
    | cont => obtain ⟨σ7, H7, I7, n7⟩ := q7; exact again I7 n7
    | brk => obtain ⟨σ7, H7, I7, q7⟩ := q7; exact ⟨σ7, H7, I7.unpinned, q7⟩
    | ret v => obtain ⟨x7, σ7, H7, I7, r7, q7⟩ := q7; exact ⟨x7, σ7, H7, I7.unpinned, r7, q7⟩
end



theorem for_list {K : PySem.W.Frag} {a : Addr} {xs : List V} {g : TG} {tb : TS} {D : Ends} {σ : St} {H : Hp} (Pv : Nat → St → Hp → Prop) (h0 : Pv 0 σ H) (hl : ∀ i σ H, i ≤ xs.length → Pv i σ H → SqL K H a xs)
    (hs : ∀ i x σ H, xs[i]? = some x → Pv i σ H → g x σ H fun σ2 H2 => tb { D with nx := Pv (i + 1), ct := Pv (i + 1), bk := D.nx } σ2 H2) (hd : ∀ σ H, Pv xs.length σ H → D.nx σ H) :
    ∃ W : Nat → Nat → St → Hp → Prop, (∃ m, W 0 m σ H) ∧ ∀ i m σ H, W i m σ H →
      ((Itl K a).stop i H ∧ D.nx σ H) ∨ ((Itl K a).go i H ∧ ∃ N : St → Hp → Prop, (∀ σ' H', N σ' H' → ∃ m', m' < m ∧ W (i + 1) m' σ' H') ∧ ∀ x H', (Itl K a).yld i H x H' → g x σ H' fun σ2 H2 => tb { D with nx := N, ct := N, bk := D.nx } σ2 H2) := by
  refine ⟨fun i m σ H => m = xs.length - i ∧ i ≤ xs.length ∧ Pv i σ H, ⟨xs.length, by simp, Nat.zero_le _, h0⟩, ?_⟩
  rintro i m σ H ⟨rfl, hi, p⟩
  have q := hl i σ H hi p
  by_cases hlt : i < xs.length
  · refine .inr ⟨⟨xs, xs[i], q, by simp [hlt]⟩, Pv (i + 1), fun σ' H' p' => ⟨xs.length - (i + 1), by omega, rfl, hlt, p'⟩, fun x H' y => ?_⟩
    obtain ⟨e, y⟩ := y
    subst e
    exact hs i x σ _ (y xs q) p
  · have e : i = xs.length := by omega
    subst e
    exact .inl ⟨⟨xs, q, Nat.le_refl _⟩, hd σ H p⟩
theorem for_range {lo : Int} {n : Nat} {g : TG} {tb : TS} {D : Ends} {σ : St} {H : Hp} (Pv : Nat → St → Hp → Prop) (h0 : Pv 0 σ H)
    (hs : ∀ i σ H, i < n → Pv i σ H → g (.int (lo + i)) σ H fun σ2 H2 => tb { D with nx := Pv (i + 1), ct := Pv (i + 1), bk := D.nx } σ2 H2) (hd : ∀ σ H, Pv n σ H → D.nx σ H) :
    ∃ W : Nat → Nat → St → Hp → Prop, (∃ m, W 0 m σ H) ∧ ∀ i m σ H, W i m σ H →
      ((Itr lo n).stop i H ∧ D.nx σ H) ∨ ((Itr lo n).go i H ∧ ∃ N : St → Hp → Prop, (∀ σ' H', N σ' H' → ∃ m', m' < m ∧ W (i + 1) m' σ' H') ∧ ∀ x H', (Itr lo n).yld i H x H' → g x σ H' fun σ2 H2 => tb { D with nx := N, ct := N, bk := D.nx } σ2 H2) := by
  refine ⟨fun i m σ H => m = n - i ∧ i ≤ n ∧ Pv i σ H, ⟨n, by simp, Nat.zero_le _, h0⟩, ?_⟩
  rintro i m σ H ⟨rfl, hi, p⟩
  by_cases hlt : i < n
  · refine .inr ⟨hlt, Pv (i + 1), fun σ' H' p' => ⟨n - (i + 1), by omega, rfl, hlt, p'⟩, fun x H' y => ?_⟩
    obtain ⟨e, y⟩ := y
    subst e y
    exact hs i σ _ hlt p
  · have e : i = n := by omega
    subst e
    exact .inl ⟨Nat.le_refl _, hd σ H p⟩

end L2

namespace L2
open PySem PySem.Spec PyProof.Rows

abbrev R2 := V → V → Hp → VK → Prop

def OpR (X : Cx) (f : Value → Value → Sem Value) (r : R2) : Prop :=
  ∀ (pins : List (Addr × Obj)) (s : Shared) (σ : St) (H : Hp) (x y : V) (v u : Value) (Q : VK), Inv X pins σ H s → RelV x v → RelV y u → r x y H Q →
    wpAny (model X.prog X.w) X.A (f v u) (EP X pins σ Q) X.xe s

def UnR (X : Cx) (f : Value → Sem Value) (r : V → Hp → VK → Prop) : Prop :=
  ∀ (pins : List (Addr × Obj)) (s : Shared) (σ : St) (H : Hp) (x : V) (v : Value) (Q : VK), Inv X pins σ H s → RelV x v → r x H Q →
    wpAny (model X.prog X.w) X.A (f v) (EP X pins σ Q) X.xe s

def CallR (X : Cx) (f : Value) (r : List V → Hp → VK → Prop) : Prop :=
  ∀ (pins : List (Addr × Obj)) (s : Shared) (σ : St) (H : Hp) (xs : List V) (us : List Value) (Q : VK), Inv X pins σ H s → Vals xs us → r xs H Q →
    wpAny (model X.prog X.w) X.A (call f us) (EP X pins σ Q) X.xe s

def tOp (r : R2) (ta tb : TE) : TE := fun σ H Q => ta σ H fun x H1 => tb σ H1 fun y H2 => r x y H2 Q
def tUn (r : V → Hp → VK → Prop) (ta : TE) : TE := fun σ H Q => ta σ H fun x H1 => r x H1 Q

def rI (C : Int → Int → Prop) (g : Int → Int → V) : R2 := fun x y H Q => ∃ i j, x = .int i ∧ y = .int j ∧ C i j ∧ Q (g i j) H
def rI0 (g : Int → Int → V) : R2 := fun x y H Q => ∃ i j, x = .int i ∧ y = .int j ∧ Q (g i j) H
def rU (g : Int → V) : V → Hp → VK → Prop := fun x H Q => ∃ i, x = .int i ∧ Q (g i) H

section
variable {X : Cx} {a b c : Expr} {ta tb tc : TE} {pos : Pos}

theorem binT (ha : PE X a ta) (hb : PE X b tb) {pins : List (Addr × Obj)} {s : Shared} {σ : St} {H : Hp} {R : V → V → Hp → Prop} (I : Inv X pins σ H s)
    (h : ta σ H fun x H1 => tb σ H1 fun y H2 => R x y H2) {Q : Value → Shared → Prop} {f : Value → Value → Sem Value}
    (hf : ∀ v u s2 x y H2, Inv X pins σ H2 s2 → RelV x v → RelV y u → R x y H2 → wpAny (model X.prog X.w) X.A (f v u) Q X.xe s2) :
    wpAny (model X.prog X.w) X.A (eval a X.env) (fun v s₁ => wpAny (model X.prog X.w) X.A (eval b X.env) (fun u s₂ => wpAny (model X.prog X.w) X.A (f v u) Q X.xe s₂) X.xe s₁) X.xe s := by
  refine thn (ha pins s σ H _ I h) fun v s1 ⟨x, H1, I1, r1, q1⟩ => ?_
  refine thn (hb pins s1 σ H1 _ I1 q1) fun u s2 ⟨y, H2, I2, r2, q2⟩ => ?_
  exact hf v u s2 x y H2 I2 r1 r2 q2

theorem pe_op {op : Operator} {r : R2} (ho : OpR X (binaryOp op) r) (ha : PE X a ta) (hb : PE X b tb) : PE X (.BinOp a op b pos) (tOp r ta tb) := by
  intro pins s σ H Q I h
  exact wpAny_BinOp (binT ha hb I h fun v u s2 x y H2 I2 rx ry q => ho pins s2 σ H2 x y v u Q I2 rx ry q)
theorem pe_un {op : UnaryOp} {r : V → Hp → VK → Prop} (ho : UnR X (unaryOp op) r) (ha : PE X a ta) : PE X (.UnaryOp op a pos) (tUn r ta) := by
  intro pins s σ H Q I h
  exact UnaryOp_ (thn (ha pins s σ H _ I h) fun v s1 ⟨x, H1, I1, r1, q1⟩ => ho pins s1 σ H1 x v Q I1 r1 q1)

theorem opI {f : Value → Value → Sem Value} {C : Int → Int → Prop} {g : Int → Int → Int}
    (rule : ∀ (i j : Int) (t u : Tok) (s : Shared) (Q : Value → Shared → Prop) (E : Value → Shared → Prop), C i j → Q (.int (g i j) s.toks) { s with toks := s.toks + 1 } → wpAny (model X.prog X.w) X.A (f (.int i t) (.int j u)) Q E s) :
    OpR X f (rI C fun i j => .int (g i j)) := by
  intro pins s σ H x y v u Q I rx ry h
  obtain ⟨i, j, rfl, rfl, hc, q⟩ := h
  obtain ⟨t, rfl⟩ := rx
  obtain ⟨t', rfl⟩ := ry
  exact rule i j t t' s _ _ hc ⟨.int (g i j), H, I.tok _, ⟨_, rfl⟩, q⟩
theorem opI0 {f : Value → Value → Sem Value} {g : Int → Int → Int}
    (rule : ∀ (i j : Int) (t u : Tok) (s : Shared) (Q : Value → Shared → Prop) (E : Value → Shared → Prop), Q (.int (g i j) s.toks) { s with toks := s.toks + 1 } → wpAny (model X.prog X.w) X.A (f (.int i t) (.int j u)) Q E s) :
    OpR X f (rI0 fun i j => .int (g i j)) := by
  intro pins s σ H x y v u Q I rx ry h
  obtain ⟨i, j, rfl, rfl, q⟩ := h
  obtain ⟨t, rfl⟩ := rx
  obtain ⟨t', rfl⟩ := ry
  exact rule i j t t' s _ _ ⟨.int (g i j), H, I.tok _, ⟨_, rfl⟩, q⟩
theorem opB0 {f : Value → Value → Sem Value} {g : Int → Int → Bool}
    (rule : ∀ (i j : Int) (t u : Tok) (s : Shared) (Q : Value → Shared → Prop) (E : Value → Shared → Prop), Q (.bool (g i j)) s → wpAny (model X.prog X.w) X.A (f (.int i t) (.int j u)) Q E s) :
    OpR X f (rI0 fun i j => .bl (g i j)) := by
  intro pins s σ H x y v u Q I rx ry h
  obtain ⟨i, j, rfl, rfl, q⟩ := h
  obtain ⟨t, rfl⟩ := rx
  obtain ⟨t', rfl⟩ := ry
  exact rule i j t t' s _ _ ⟨.bl (g i j), H, I, rfl, q⟩

def CPow (i j : Int) : Prop := 0 ≤ j ∧ j ≤ 1000000 ∧ i.natAbs < 2 ^ 64
def CMul (i j : Int) : Prop := (-(2 ^ 64) < i ∧ i < 2 ^ 64) ∨ (-(2 ^ 64) < j ∧ j < 2 ^ 64)
theorem CMul.ok {i j : Int} (h : CMul i j) : IntMulOk i j := by
  rcases h with ⟨h1, h2⟩ | ⟨h1, h2⟩
  · exact .of_left (intBits_le_64 h1 h2)
  · exact .of_right (intBits_le_64 h1 h2)
theorem op_add : OpR X (binaryOp .Add) (rI0 fun i j => .int (i + j)) := opI0 fun _ _ _ _ _ _ _ q => add_int q
theorem op_sub : OpR X (binaryOp .Sub) (rI0 fun i j => .int (i - j)) := opI0 fun _ _ _ _ _ _ _ q => sub_int q
theorem op_mod : OpR X (binaryOp .Mod) (rI (fun _ j => 0 < j) fun i j => .int (i % j)) := opI fun i j _ _ _ _ _ hc q => by
  have h1 : (0 : Int) < j := hc
  exact mod_int' (by omega) (by rw [Int.fmod_eq_emod_of_nonneg i (by omega)]; exact q)
theorem op_pow : OpR X (binaryOp .Pow) (rI CPow fun i j => .int (i ^ j.toNat)) := opI fun _ _ _ _ _ _ _ hc q => pow_int_small hc.1 hc.2.1 hc.2.2 q
theorem unI {f : Value → Sem Value} {g : Int → Int}
    (rule : ∀ (i : Int) (t : Tok) (s : Shared) (Q : Value → Shared → Prop) (E : Value → Shared → Prop), Q (.int (g i) s.toks) { s with toks := s.toks + 1 } → wpAny (model X.prog X.w) X.A (f (.int i t)) Q E s) :
    UnR X f (rU fun i => .int (g i)) := by
  intro pins s σ H x v Q I rx h
  obtain ⟨i, rfl, q⟩ := h
  obtain ⟨t, rfl⟩ := rx
  exact rule i t s _ _ ⟨.int (g i), H, I.tok _, ⟨_, rfl⟩, q⟩
theorem un_neg : UnR X (unaryOp .USub) (rU fun i => .int (-i)) := unI fun _ _ _ _ _ q => neg_int q
end



def scal : V → V → Bool
  | .non, .non => true | .non, .int _ => true | .int _, .non => true | .non, .bl _ => true | .bl _, .non => true | .non, .str _ => true | .str _, .non => true
  | .int _, .int _ => true | .bl _, .bl _ => true | .str _, .str _ => true | .byt _, .byt _ => true
  | .int _, .str _ => true | .str _, .int _ => true | .bl _, .str _ => true | .str _, .bl _ => true
  | _, _ => false
def rEq : R2 := fun x y H Q => scal x y = true ∧ Q (.bl (decide (x = y))) H
def rNe : R2 := fun x y H Q => scal x y = true ∧ Q (.bl (!decide (x = y))) H

theorem dec_int {i j : Int} : decide (V.int i = V.int j) = (i == j) := by
  rw [Bool.eq_iff_iff]
  simp
theorem dec_bl {i j : Bool} : decide (V.bl i = V.bl j) = (i == j) := by
  rw [Bool.eq_iff_iff]
  simp
theorem dec_str {i j : Str} : decide (V.str i = V.str j) = (i == j) := by
  rw [Bool.eq_iff_iff]
  simp
theorem dec_byt {i j : Array UInt8} : decide (V.byt i = V.byt j) = (i.toList == j.toList) := by
  rw [Bool.eq_iff_iff]
  cases i
  cases j
  simp

section
variable {X : Cx} {a b c : Expr} {ta tb tc : TE} {pos : Pos}
theorem fin_bl {pins : List (Addr × Obj)} {σ : St} {H : Hp} {s : Shared} {Q : VK} {k k' : Bool} (I : Inv X pins σ H s) (q : Q (.bl k) H) (e : k = k') : EP X pins σ Q (.bool k') s := by
  subst e
  exact ⟨.bl k, H, I, rfl, q⟩
theorem op_eq : OpR X (compareOp .Eq) rEq := by
  intro pins s σ H x y v u Q I rx ry h
  obtain ⟨hs, q⟩ := h
  cases x with
  | non =>
    cases rx
    cases y with
    | non => cases ry; exact PySem.EqNone.eq_none_none (fin_bl I q (by simp))
    | bl j => cases ry; exact PySem.EqNone.eq_none_bool (fin_bl I q (by simp))
    | int j => obtain ⟨t', rfl⟩ := ry; exact PySem.EqNone.eq_none_int (fin_bl I q (by simp))
    | str j => obtain ⟨t', rfl⟩ := ry; exact PySem.EqNone.eq_none_str (fin_bl I q (by simp))
    | _ => exact absurd (show false = true from hs) Bool.false_ne_true
  | bl i =>
    cases rx
    cases y with
    | non => cases ry; exact PySem.EqNone.eq_bool_none (fin_bl I q (by simp))
    | bl j => cases ry; exact eq_bool (fin_bl I q dec_bl)
    | str j => obtain ⟨t', rfl⟩ := ry; exact PySem.EqMixed.eq_bool_str (fin_bl I q (by simp))
    | _ => exact absurd (show false = true from hs) Bool.false_ne_true
  | int i =>
    obtain ⟨t, rfl⟩ := rx
    cases y with
    | non => cases ry; exact PySem.EqNone.eq_int_none (fin_bl I q (by simp))
    | int j => obtain ⟨t', rfl⟩ := ry; exact eq_int (fin_bl I q dec_int)
    | str j => obtain ⟨t', rfl⟩ := ry; exact PySem.EqMixed.eq_int_str (fin_bl I q (by simp))
    | _ => exact absurd (show false = true from hs) Bool.false_ne_true
  | str i =>
    obtain ⟨t, rfl⟩ := rx
    cases y with
    | non => cases ry; exact PySem.EqNone.eq_str_none (fin_bl I q (by simp))
    | bl j => cases ry; exact PySem.EqMixed.eq_str_bool (fin_bl I q (by simp))
    | int j => obtain ⟨t', rfl⟩ := ry; exact PySem.EqMixed.eq_str_int (fin_bl I q (by simp))
    | str j => obtain ⟨t', rfl⟩ := ry; exact eq_str (fin_bl I q dec_str)
    | _ => exact absurd (show false = true from hs) Bool.false_ne_true
  | byt i =>
    obtain ⟨t, rfl⟩ := rx
    cases y with
    | byt j => obtain ⟨t', rfl⟩ := ry; exact PySem.W.eq_bytes (fin_bl I q dec_byt)
    | _ => exact absurd (show false = true from hs) Bool.false_ne_true
  | _ => cases y <;> exact absurd (show false = true from hs) Bool.false_ne_true
theorem op_ne : OpR X (compareOp .NotEq) rNe := by
  intro pins s σ H x y v u Q I rx ry h
  obtain ⟨hs, q⟩ := h
  cases x with
  | non =>
    cases rx
    cases y with
    | non => cases ry; exact PySem.EqNone.ne_none_none (fin_bl I q (by simp))
    | bl j => cases ry; exact PySem.EqNone.ne_none_bool (fin_bl I q (by simp))
    | int j => obtain ⟨t', rfl⟩ := ry; exact PySem.EqNone.ne_none_int (fin_bl I q (by simp))
    | str j => obtain ⟨t', rfl⟩ := ry; exact PySem.EqNone.ne_none_str (fin_bl I q (by simp))
    | _ => exact absurd (show false = true from hs) Bool.false_ne_true
  | bl i =>
    cases rx
    cases y with
    | non => cases ry; exact PySem.EqNone.ne_bool_none (fin_bl I q (by simp))
    | bl j => cases ry; exact ne_bool (fin_bl I q (congrArg not dec_bl))
    | str j => obtain ⟨t', rfl⟩ := ry; exact PySem.EqMixed.ne_bool_str (fin_bl I q (by simp))
    | _ => exact absurd (show false = true from hs) Bool.false_ne_true
  | int i =>
    obtain ⟨t, rfl⟩ := rx
    cases y with
    | non => cases ry; exact PySem.EqNone.ne_int_none (fin_bl I q (by simp))
    | int j => obtain ⟨t', rfl⟩ := ry; exact ne_int (fin_bl I q (congrArg not dec_int))
    | str j => obtain ⟨t', rfl⟩ := ry; exact PySem.EqMixed.ne_int_str (fin_bl I q (by simp))
    | _ => exact absurd (show false = true from hs) Bool.false_ne_true
  | str i =>
    obtain ⟨t, rfl⟩ := rx
    cases y with
    | non => cases ry; exact PySem.EqNone.ne_str_none (fin_bl I q (by simp))
    | bl j => cases ry; exact PySem.EqMixed.ne_str_bool (fin_bl I q (by simp))
    | int j => obtain ⟨t', rfl⟩ := ry; exact PySem.EqMixed.ne_str_int (fin_bl I q (by simp))
    | str j => obtain ⟨t', rfl⟩ := ry; exact ne_str (fin_bl I q (congrArg not dec_str))
    | _ => exact absurd (show false = true from hs) Bool.false_ne_true
  | byt i =>
    obtain ⟨t, rfl⟩ := rx
    cases y with
    | byt j => obtain ⟨t', rfl⟩ := ry; exact PySem.W.ne_bytes (fin_bl I q (congrArg not dec_byt))
    | _ => exact absurd (show false = true from hs) Bool.false_ne_true
  | _ => cases y <;> exact absurd (show false = true from hs) Bool.false_ne_true

theorem op_lt : OpR X (compareOp .Lt) (rI0 fun i j => .bl (decide (i < j))) := opB0 fun _ _ _ _ _ _ _ q => lt_int q
theorem op_le : OpR X (compareOp .LtE) (rI0 fun i j => .bl (decide (i ≤ j))) := opB0 fun _ _ _ _ _ _ _ q => le_int q
theorem op_gt : OpR X (compareOp .Gt) (rI0 fun i j => .bl (decide (j < i))) := opB0 fun _ _ _ _ _ _ _ q => gt_int q
theorem op_ge : OpR X (compareOp .GtE) (rI0 fun i j => .bl (decide (j ≤ i))) := opB0 fun _ _ _ _ _ _ _ q => ge_int q
theorem op_isN : OpR X (compareOp .Is) (fun x y H Q => y = .non ∧ Q (.bl (decide (x = .non))) H) := by
  intro pins s σ H x y v u Q I rx ry h
  obtain ⟨rfl, q⟩ := h
  cases ry
  refine is_none_gen (fin_bl I q ?_)
  cases x <;> first
    | (cases rx; rfl)
    | (obtain ⟨t, rfl⟩ := rx; rfl)
theorem op_notN : OpR X (compareOp .IsNot) (fun x y H Q => y = .non ∧ Q (.bl (!decide (x = .non))) H) := by
  intro pins s σ H x y v u Q I rx ry h
  obtain ⟨rfl, q⟩ := h
  cases ry
  refine isnot_none_gen (fin_bl I q ?_)
  cases x <;> first
    | (cases rx; rfl)
    | (obtain ⟨t, rfl⟩ := rx; rfl)

theorem OpR.or {f : Value → Value → Sem Value} {r r' : R2} (h : OpR X f r) (h' : OpR X f r') : OpR X f (fun x y H Q => r x y H Q ∨ r' x y H Q) := by
  intro pins s σ H x y v u Q I rx ry q
  rcases q with q | q
  · exact h pins s σ H x y v u Q I rx ry q
  · exact h' pins s σ H x y v u Q I rx ry q

theorem nomark (b : Expr) {op : CmpOp} (h : op ≠ .In := by decide) (h2 : op ≠ .NotIn := by decide) : behindInMarks op b = false := by
  have e1 : (op == CmpOp.In) = false := by cases op <;> first | rfl | exact absurd rfl h
  have e2 : (op == CmpOp.NotIn) = false := by cases op <;> first | rfl | exact absurd rfl h2
  cases b <;> simp [behindInMarks, e1, e2]

theorem pe_cmpR {op : CmpOp} {r : R2} (ho : OpR X (compareOp op) r) (ha : PE X a ta) (hb : PE X b tb) (hm : behindInMarks op b = false) : PE X (.Compare a [op] [b] pos) (tOp r ta tb) := by
  intro pins s σ H Q I h
  exact wpAny_Compare1 (binT ha hb I h fun v u s2 x y H2 I2 rx ry q => ho pins s2 σ H2 x y v u Q I2 rx ry q) hm

def tTest (t : TE) : TT := fun σ H Q => t σ H fun x H' => ∃ k, x = .bl k ∧ Q k H'
theorem pt_cmpR {op : CmpOp} {r : R2} (ho : OpR X (compareOp op) r) (ha : PE X a ta) (hb : PE X b tb) (hm : behindInMarks op b = false) : PT X (.Compare a [op] [b] pos) (tTest (tOp r ta tb)) := by
  intro pins s σ H Q I h
  refine wpAny_isTrue_Compare1 (thn (ha pins s σ H _ I h) fun v s1 ⟨x, H1, I1, r1, q1⟩ => thn (hb pins s1 σ H1 _ I1 q1) fun u s2 ⟨y, H2, I2, r2, q2⟩ =>
    thn (ho pins s2 σ H2 x y v u _ I2 r1 r2 q2) fun c s3 ⟨z, H3, I3, r3, k, e, q3⟩ => ?_) hm
  subst e
  cases r3
  exact wpAny_truthy_bool ⟨H3, I3, q3⟩

def tChain (r r' : R2) (ta tb tc : TE) : TE := fun σ H Q => ta σ H fun x H1 => tb σ H1 fun y H2 => r x y H2 fun z H3 => ∃ k, z = .bl k ∧
  (if k = true then tc σ H3 fun w' H4 => r' y w' H4 Q else Q (.bl false) H3)
theorem pe_chain {op op' : CmpOp} {r r' : R2} (ho : OpR X (compareOp op) r) (ho' : OpR X (compareOp op') r') (ha : PE X a ta) (hb : PE X b tb) (hc : PE X c tc)
    (hm : lastMarks [op, op'] [b, c] = false := by with_unfolding_all rfl) : PE X (.Compare a [op, op'] [b, c] pos) (tChain r r' ta tb tc) := by
  intro pins s σ H Q I h
  refine Compare_chain (thn (ha pins s σ H _ I h) fun v s1 ⟨x, H1, I1, r1, q1⟩ => chain_link (thn (hb pins s1 σ H1 _ I1 q1) fun u s2 ⟨y, H2, I2, r2, q2⟩ =>
    thn (ho pins s2 σ H2 x y v u _ I2 r1 r2 q2) fun d s3 ⟨z, H3, I3, r3, k, e, q3⟩ => ?_)) hm
  subst e
  cases r3
  refine wpAny_truthy_bool ?_
  cases k with
  | false => exact ite_ff ⟨.bl false, H3, I3, rfl, q3⟩
  | true => exact ite_tt (chain_last (thn (hc pins s3 σ H3 _ I3 q3) fun w' s4 ⟨z', H4, I4, r4, q4⟩ => ho' pins s4 σ H4 y z' u w' Q I4 r2 r4 q4))
theorem pt_chain {op op' : CmpOp} {r r' : R2} (ho : OpR X (compareOp op) r) (ho' : OpR X (compareOp op') r') (ha : PE X a ta) (hb : PE X b tb) (hc : PE X c tc)
    (hm : lastMarks [op, op'] [b, c] = false := by with_unfolding_all rfl) : PT X (.Compare a [op, op'] [b, c] pos) (tTest (tChain r r' ta tb tc)) := by
  intro pins s σ H Q I h
  refine isTrue_chain (thn (ha pins s σ H _ I h) fun v s1 ⟨x, H1, I1, r1, q1⟩ => test_link (thn (hb pins s1 σ H1 _ I1 q1) fun u s2 ⟨y, H2, I2, r2, q2⟩ =>
    thn (ho pins s2 σ H2 x y v u _ I2 r1 r2 q2) fun d s3 ⟨z, H3, I3, r3, k, e, q3⟩ => ?_)) hm
  subst e
  cases r3
  refine wpAny_truthy_bool ?_
  cases k with
  | false =>
    obtain ⟨k', e', q'⟩ := q3
    cases e'
    exact ite_ff ⟨H3, I3, q'⟩
  | true =>
    refine ite_tt (test_last (thn (hc pins s3 σ H3 _ I3 q3) fun w' s4 ⟨z', H4, I4, r4, q4⟩ => thn (ho' pins s4 σ H4 y z' u w' _ I4 r2 r4 q4) fun d' s5 ⟨z2, H5, I5, r5, k2, e2, q5⟩ => ?_))
    subst e2
    cases r5
    exact wpAny_truthy_bool ⟨H5, I5, q5⟩



theorem line63 : (sizeLine : Nat) < 2 ^ 63 := by rw [sizeLine_eq]; decide
theorem vals1 {x : V} {us : List Value} (r : Vals [x] us) : ∃ u, us = [u] ∧ RelV x u := by
  cases r with
  | cons r1 r2 => cases r2; exact ⟨_, rfl, r1⟩
theorem vals2 {x y : V} {us : List Value} (r : Vals [x, y] us) : ∃ u w', us = [u, w'] ∧ RelV x u ∧ RelV y w' := by
  cases r with
  | cons r1 r2 =>
    cases r2 with
    | cons r3 r4 => cases r4; exact ⟨_, _, rfl, r1, r3⟩
theorem call_abs : CallR X (.builtin "abs") (fun xs H Q => ∃ i, xs = [.int i] ∧ Q (.int (if i < 0 then -i else i)) H) := by
  intro pins s σ H xs us Q I r h
  obtain ⟨i, rfl, q⟩ := h
  obtain ⟨u, rfl, t, rfl⟩ := vals1 r
  exact call_abs_int fun u tk => ⟨.int (if i < 0 then -i else i), H, I.tok _, ⟨_, rfl⟩, q⟩
theorem call_max2 (hc : X.calm = true) : CallR X (.builtin "max") (fun xs H Q => ∃ i j, xs = [.int i, .int j] ∧ Q (.int (if j > i then j else i)) H) := by
  intro pins s σ H xs us Q I r h
  obtain ⟨i, j, rfl, q⟩ := h
  obtain ⟨u, w', rfl, ⟨t, rfl⟩, ⟨t', rfl⟩⟩ := vals2 r
  refine max_two_ints (I.ok.hd hc) fun h' tk k => ⟨_, H, I.kept k, ?_, q⟩
  by_cases hj : j > i
  · rw [if_pos hj, if_pos hj]; exact ⟨_, rfl⟩
  · rw [if_neg hj, if_neg hj]; exact ⟨_, rfl⟩
theorem call_min2 (hc : X.calm = true) : CallR X (.builtin "min") (fun xs H Q => ∃ i j, xs = [.int i, .int j] ∧ Q (.int (if j < i then j else i)) H) := by
  intro pins s σ H xs us Q I r h
  obtain ⟨i, j, rfl, q⟩ := h
  obtain ⟨u, w', rfl, ⟨t, rfl⟩, ⟨t', rfl⟩⟩ := vals2 r
  refine min_two_ints (I.ok.hd hc) fun h' tk k => ⟨_, H, I.kept k, ?_, q⟩
  by_cases hj : j < i
  · rw [if_pos hj, if_pos hj]; exact ⟨_, rfl⟩
  · rw [if_neg hj, if_neg hj]; exact ⟨_, rfl⟩
theorem call_int1 : CallR X (.type "int") (fun xs H Q => (∃ i, xs = [.int i] ∧ Q (.int i) H) ∨ ∃ k, xs = [.bl k] ∧ Q (.int (if k then 1 else 0)) H) := by
  intro pins s σ H xs us Q I r h
  rcases h with ⟨i, rfl, q⟩ | ⟨k, rfl, q⟩
  · obtain ⟨u, rfl, t, rfl⟩ := vals1 r
    exact call_int_int ⟨.int i, H, I, ⟨_, rfl⟩, q⟩
  · obtain ⟨u, rfl, r1⟩ := vals1 r
    cases r1
    exact call_int_bool ⟨.int (if k then 1 else 0), H, I.tok _, ⟨_, rfl⟩, q⟩
end
end L2

namespace L2
open PySem PySem.Spec PyProof.Rows


structure ObjM (h : Heap) (x dx C : Addr) (mA : Str → Option Value) : Prop where
  obj : h.get? x = some (PySem.W.instObj C dx)
  ns : h.Ns1 dx mA
  ne : dx ≠ x

theorem lookIn_ns {h : Heap} {dx : Addr} {mA : Str → Option Value} (n : h.Ns1 dx mA) : ∃ od, h.get? dx = some od ∧ ∀ name, PySem.W.lookIn name od = some (mA name) := by
  obtain ⟨o, es, ep, ho, hd, hk, _, hm⟩ := n
  refine ⟨o, ho, fun name => ?_⟩
  have e := hm name
  unfold nsFind findBy at e
  rw [← Array.find?_toList] at e
  unfold PySem.W.lookIn
  rw [hd]
  dsimp only
  split
  · rename_i y q
    rw [q] at e
    exact congrArg some e
  · rename_i q
    rw [q] at e
    have a : es.toList.any (·.refKey) = false := by
      rw [List.any_eq_false]
      intro y hy
      obtain ⟨z, t, hkey⟩ := hk y (Array.mem_toList_iff.mp hy)
      simp [DictEntry.refKey, hkey]
    have a' : ¬ es.toList.any (·.refKey) = true := by rw [a]; exact Bool.false_ne_true
    rw [if_neg a']
    exact congrArg some e

theorem ObjM.look {h : Heap} {x dx C : Addr} {mA : Str → Option Value} (I : ObjM h x dx C mA) : ∃ od, PySem.W.InstAt h x (PySem.W.instObj C dx) C (some od) ∧ ∀ name, PySem.W.lookIn name od = some (mA name) :=
  let ⟨od, ho, hl⟩ := lookIn_ns I.ns
  ⟨od, ⟨I.obj, rfl, rfl, ho⟩, hl⟩

section
variable {prog : Program} {w : World} {A : Around} {E : Value → Shared → Prop} {s : Shared} {K : PySem.W.Frag} {x dx C f : Addr} {mA : Str → Option Value} {name : Str} {v : Value}

end


def putF (f : Str) (v : V) : List (Str × V) → List (Str × V)
  | [] => [(f, v)]
  | (g, x) :: r => if g = f then (g, v) :: r else (g, x) :: putF f v r
section
variable {P : Program} {w : World} {H H' : Hp} {h h' : Heap} {a C dx : Addr} {fs fs' : List (Str × V)}
theorem ins_get (hok : HOk P w H h) (e : H a = some (.ins C dx fs)) : ∃ mA, ObjM h a dx C mA ∧ (∀ f, RelO (fs.lookup f) (mA f)) ∧ PySem.Within mA (fs.map (·.1)) ∧ fs.length ≤ 1000 ∧ H dx = some (.own a) := by
  obtain ⟨d, z, ne, ob, mA, n, r, q⟩ := (show ObjOk P w H h a (.ins C dx fs) from hok a _ e)
  exact ⟨mA, ⟨ob, n, ne⟩, r, q, z, d⟩
end


structure Cls (K : PySem.W.Frag) (C : Addr) : Prop where
  pg : PySem.W.plainGet K C Str.empty = true
  hd : PySem.W.hasDictIn K C = true
  po : PySem.W.plainOver K C = true
  sa : PySem.W.findIn K (.ref C) "__setattr__" = some (some (.builtin "object.__setattr__"))
theorem Cls.get {K : PySem.W.Frag} {C : Addr} (c : Cls K C) (f : Str) : PySem.W.plainGet K C f = true := c.pg

structure Con (K : PySem.W.Frag) (C : Addr) (f : Str) (v : V) (u : Value) : Prop where
  at_ : PySem.W.findIn K (.ref C) f = some (some u)
  rel : RelV v u
  get : PySem.W.specialIn K u "__get__" = some none
  cp : PySem.W.copiedNames.contains f = false

structure Meth (K : PySem.W.Frag) (C : Addr) (m : Str) (f : Addr) : Prop where
  at_ : PySem.W.findIn K (.ref C) m = some (some (.ref f))
  fn : PySem.W.isFn K (.ref f) = true
  kp : PySem.W.keepIn K (.ref f) = true

section
variable {X : Cx} {pins : List (Addr × Obj)} {σ : St} {H : Hp} {s : Shared} {a C dx : Addr} {fs : List (Str × V)} {f : Str} {v : V} {A : Around} {E : Value → Shared → Prop}

theorem Inv.made (I : Inv X pins σ H s) : Inv X pins σ (upd (upd H s.heap.objs.size (.own (s.heap.objs.size + 1))) (s.heap.objs.size + 1) (.ins C s.heap.objs.size []))
    { s with heap := (s.heap.push PySem.W.emptyDict).push (PySem.W.instObj C s.heap.objs.size) } := by
  have e1 : (s.heap.push PySem.W.emptyDict).get? s.heap.objs.size = some PySem.W.emptyDict := Heap.get?_push_size s.heap rfl
  have e2 : ((s.heap.push PySem.W.emptyDict).push (PySem.W.instObj C s.heap.objs.size)).get? (s.heap.objs.size + 1) = some (PySem.W.instObj C s.heap.objs.size) := by
    have := Heap.get?_push_size (s.heap.push PySem.W.emptyDict) (o := PySem.W.instObj C s.heap.objs.size) rfl
    rwa [Heap.size_push] at this
  have e3 : (s.heap.push PySem.W.emptyDict).Ns s.heap.objs.size (fun _ => none) := ⟨PySem.W.emptyDict, #[], _, e1, rfl, (fun e he => absurd he (by simp)), fun _ => rfl⟩
  have I1 := I.laid (a := s.heap.objs.size) (o := .own (s.heap.objs.size + 1)) (h' := s.heap.push PySem.W.emptyDict) (t' := s.toks) (fun b u q => Heap.get?_push_of_some _ q) (Nat.le_refl _) ⟨_, e1⟩
  refine I1.laid (a := s.heap.objs.size + 1) (o := .ins C s.heap.objs.size []) (t' := s.toks) (fun b u q => Heap.get?_push_of_some _ q) (Nat.le_of_eq (Heap.size_push _ _)) ?_
  have ne : s.heap.objs.size ≠ s.heap.objs.size + 1 := Nat.ne_of_lt (Nat.lt_succ_self _)
  refine ⟨by rw [upd_ne ne, upd_same], Nat.zero_le _, ne, e2, fun _ => none, (Heap.Ns1.of_empty e3).at fun o q => Heap.get?_push_of_some _ q, fun _ => True.intro, fun y hy => absurd rfl hy⟩


end



section
variable {X : Cx} {o e value : Expr} {f : Str} {pos pos' tpos : Pos} {ta tv : TE}
end


section
variable {X : Cx} {pins : List (Addr × Obj)} {σ : St} {H : Hp} {s : Shared} {A : Around} {E : Value → Shared → Prop} {Q : Value → Shared → Prop} {c : Value} {b : Bool}

inductive TyOf (K : PySem.W.Frag) (H : Hp) : V → Value → Prop where
  | non : TyOf K H .non (.type "NoneType")
  | bl (x : Bool) : TyOf K H (.bl x) (.type "bool")
  | int (i : Int) : TyOf K H (.int i) (.type "int")
  | str (x : Str) : TyOf K H (.str x) (.type "str")
  | flt (x : UInt64) : TyOf K H (.flt x) (.type "float")
  | lst {a : Addr} {xs : List V} (e : H a = some (.lst xs)) : TyOf K H (.ref a) (.type "list")
  | frz {a : Addr} {o : Obj} {xs : List V} (e : H a = some (.frz o (.lst xs))) : TyOf K H (.ref a) (.type "list")
  | tup {a : Addr} {xs : List V} (e : H a = some (.tup xs)) : TyOf K H (.ref a) (.type "tuple")
  | dK {a : Addr} {kvs : List (Key × V)} (e : H a = some (.dK kvs)) : TyOf K H (.ref a) (.type "dict")
  | dT {a : Addr} {kvs : List (List Key × V)} (e : H a = some (.dT kvs)) : TyOf K H (.ref a) (.type "dict")
  | ins {a C dx : Addr} {fs : List (Str × V)} (e : H a = some (.ins C dx fs)) (cl : Cls K C) (ha : PySem.W.findIn K (.ref C) "__class__" = some (some (.builtin "object.__class__")))
      (hn : PySem.W.specialIn K (.builtin "object.__class__") "__get__" = some (some (.builtin "getset_descriptor.__get__"))) (htk : PySem.W.takesIn K (.builtin "object.__class__") = some true)
      (hm : PySem.W.mroIn K C (.type "object") = some true) : TyOf K H (.ref a) (.ref C)

theorem isinst_ok {x : V} {u t : Value} (I : Inv X pins σ H s) (rx : RelV x u) (ty : TyOf X.K H x t) (e : PySem.W.kitOne X.K t c = some b) (h : ∀ tk, Q (.bool b) { s with toks := tk }) :
    wpAny (model X.prog X.w) A (call (.builtin "isinstance") [u, c]) Q E s := by
  cases ty with
  | non => cases (show u = Value.none from rx); exact PySem.W.kia_one PySem.W.kitx_none I.kIn True.intro e (fun z => nomatch z) h
  | bl y => cases (show u = Value.bool y from rx); exact PySem.W.kia_one PySem.W.kitx_bool I.kIn True.intro e (fun z => nomatch z) h
  | int i => obtain ⟨t, q⟩ := (show ∃ t, u = Value.int i t from rx); cases q; exact PySem.W.kia_one PySem.W.kitx_int I.kIn True.intro e (fun z => nomatch z) h
  | str y => obtain ⟨t, q⟩ := (show ∃ t, u = Value.str y t from rx); cases q; exact PySem.W.kia_one PySem.W.kitx_str I.kIn True.intro e (fun z => nomatch z) h
  | flt y => obtain ⟨t, q⟩ := (show ∃ t, u = Value.float y t from rx); cases q; exact PySem.W.kia_one PySem.W.kitx_float I.kIn True.intro e (fun z => nomatch z) h
  | @lst a xs ea =>
    cases (show u = Value.ref a from rx)
    obtain ⟨_, _, n, _, h1⟩ := (show ObjOk X.prog X.w H s.heap a (.lst xs) from I.hok a _ ea)
    exact PySem.W.kia_one PySem.W.kitx_list I.kIn ⟨_, h1, rfl⟩ e (fun z => nomatch z) h
  | @frz a ob xs ea =>
    cases (show u = Value.ref a from rx)
    obtain ⟨_, _, _, n, _, h1⟩ := (show ObjOk X.prog X.w H s.heap a (.frz ob (.lst xs)) from I.hok a _ ea)
    exact PySem.W.kia_one PySem.W.kitx_list I.kIn ⟨_, h1, rfl⟩ e (fun z => nomatch z) h
  | @tup a xs ea =>
    cases (show u = Value.ref a from rx)
    obtain ⟨_, _, _, p⟩ := (show ObjOk X.prog X.w H s.heap a (.tup xs) from I.hok a _ ea)
    obtain ⟨o, h1, h2, _⟩ := p
    exact PySem.W.kia_one PySem.W.kitx_tuple I.kIn ⟨o, h1, h2⟩ e (fun z => nomatch z) h
  | @dK a kvs ea =>
    cases (show u = Value.ref a from rx)
    obtain ⟨_, _, vs, _, p⟩ := (show ObjOk X.prog X.w H s.heap a (.dK kvs) from I.hok a _ ea)
    obtain ⟨o, es, ep, h1, h2, _⟩ := p
    exact PySem.W.kia_one PySem.W.kitx_dict I.kIn ⟨o, h1, h2.1⟩ e (fun z => nomatch z) h
  | @dT a kvs ea =>
    cases (show u = Value.ref a from rx)
    obtain ⟨_, _, xs, _, o, es, ep, h1, h2, _⟩ := (show ObjOk X.prog X.w H s.heap a (.dT kvs) from I.hok a _ ea)
    exact PySem.W.kia_one PySem.W.kitx_dict I.kIn ⟨o, h1, h2.1⟩ e (fun z => nomatch z) h
  | @ins a C dx fs ea cl ha hn htk hm =>
    cases (show u = Value.ref a from rx)
    obtain ⟨mA, O, _⟩ := ins_get I.hok ea
    obtain ⟨od, J, _⟩ := O.look
    exact PySem.W.kia_one (PySem.W.kitx_own (cl.get _) cl.hd ha hn htk hm) I.kIn J e (fun z => nomatch z) h
end
end L2

namespace L2
open PySem PySem.Spec PyProof.Rows


structure Room (k : Nat) (A : Around) : Prop where
  hd : A.handled = none
  dp : A.depth + 3 * k + 5 < recursionLimit
  un : A.units + 16 * k + 200 < cLine
theorem Room.mono {j k : Nat} {A : Around} (r : Room k A) (h : j ≤ k) : Room j A := ⟨r.hd, by have := r.dp; omega, by have := r.un; omega⟩
theorem Room.deeper {k : Nat} {A : Around} (r : Room (k + 1) A) (env : Env) : Room k (A.deeper env) :=
  ⟨r.hd, by have := r.dp; show A.depth + 1 + 3 * k + 5 < _; omega, by have := r.un; show A.units + 3 + 16 * k + 200 < _; omega⟩
theorem Room.in1 {k : Nat} {A : Around} (r : Room (k + 1) A) : Room k A.in1 :=
  ⟨r.hd, by have := r.dp; show A.depth + 3 * k + 5 < _; omega, by have := r.un; show A.units + 1 + 16 * k + 200 < _; omega⟩
theorem Room.depth {k : Nat} {A : Around} (r : Room k A) : A.depth < recursionLimit := by have := r.dp; omega
theorem Room.units {k : Nat} {A : Around} (r : Room k A) : A.units + 64 < cLine := by have := r.un; omega
def tNil : TA := fun _ H Q => Q [] H
def tCons (ta : TE) (tr : TA) : TA := fun σ H Q => ta σ H fun x H1 => tr σ H1 fun xs H2 => Q (x :: xs) H2
section
variable {X : Cx} {e : Expr} {es : List Expr} {te : TE} {t : TA} {pos : Pos}
theorem pa_nil : PA X [] tNil := fun _ _ _ _ H Q I h => Calls.spliced_nil ⟨[], H, I, .nil, h⟩
theorem pa_cons (ha : PE X e te) (hr : PA X es t) (hs : starEach (e :: es) X.env = (false, eval e X.env) :: starEach es X.env := by rfl) : PA X (e :: es) (tCons te t) := by
  intro pos pins s σ H Q I h
  rw [hs]
  show wpAny _ _ (spliced ((false, eval e X.env) :: backTo pos (starEach es X.env))) _ _ s
  refine Calls.spliced_cons (thn (ha pins s σ H _ I h) fun u s1 ⟨x, H1, I1, r1, q1⟩ => ?_)
  exact thn (hr pos pins s1 σ H1 _ I1 q1) fun us s2 ⟨xs, H2, I2, r2, q2⟩ => ⟨x :: xs, H2, I2, .cons r1 r2, q2⟩


def tTup (t : TA) : TE := fun σ H Q => t σ H fun xs H1 => xs.length ≤ sizeLine ∧ ∀ p, H1 p = none → Q (.ref p) (upd H1 p (.tup xs))
def tLst (t : TA) : TE := fun σ H Q => t σ H fun xs H1 => xs.length ≤ sizeLine ∧ ∀ p, H1 p = none → Q (.ref p) (upd H1 p (.lst xs))
theorem pe_tup {x1} (h : PA X es t) : PE X (.Tuple es x1 pos) (tTup t) := by
  intro pins s σ H Q I hq
  refine wpAny_Tuple_spliced (thn (h pos pins s σ H _ I hq) fun us s1 ⟨xs, H1, I1, r, z, q⟩ => ⟨by rw [← r.length]; exact z, ?_⟩)
  have hf : H1 s1.heap.objs.size = none := I1.hok.fresh (Nat.le_refl _)
  refine ⟨.ref s1.heap.objs.size, upd H1 s1.heap.objs.size (.tup xs), I1.laid (t' := s1.toks) (fun b u e => Heap.get?_push_of_some _ e) (Nat.le_refl _) ?_, rfl, q _ hf⟩
  exact ⟨z, us, r, ⟨_, Heap.get?_push_size _ rfl, rfl, _, rfl⟩⟩
theorem pe_lst (h : PA X es t) : PE X (.List es pos) (tLst t) := by
  intro pins s σ H Q I hq
  refine wpAny_List_spliced (thn (h pos pins s σ H _ I hq) fun us s1 ⟨xs, H1, I1, r, z, q⟩ => ⟨by rw [← r.length]; exact z, ?_⟩)
  have hf : H1 s1.heap.objs.size = none := I1.hok.fresh (Nat.le_refl _)
  refine ⟨.ref s1.heap.objs.size, upd H1 s1.heap.objs.size (.lst xs), I1.laid (t' := s1.toks) (fun b u e => Heap.get?_push_of_some _ e) (Nat.le_refl _) ?_, rfl, q _ hf⟩
  exact ⟨z, us, 0, r, Heap.get?_push_size _ rfl⟩
end



abbrev Sp := List V → Hp → VK → XK → Prop

abbrev CXT := List Env → Hp → Shared → XK → Value → Shared → Prop


structure Env0 (P : Program) (w : World) (K : PySem.W.Frag) (mg : Str → Option Value) (base : Heap) (A : Around) (outer : List Env) (s : Shared) (H : Hp) : Prop where
  frames : A.frames = some outer
  mod : Mod K mg base
  bs : ∀ b o, base.get? b = some o → s.heap.get? b = some o ∧ H b = none
  bsz : base.objs.size ≤ s.heap.objs.size
  funs : s.heap.FunFrames base outer
  frf : ∀ b ∈ frs outer, H b = none
  hok : HOk P w H s.heap
  bare : AllBare s.gens

def CE (outer : List Env) (P : Program) (w : World) (H : Hp) (s : Shared) (Q : VK) (u : Value) (s' : Shared) : Prop :=
  ∃ v H', s'.os = s.os ∧ AllBare s'.gens ∧ Un (frs outer) [] H H' s.heap s'.heap ∧ HOk P w H' s'.heap ∧ RelV v u ∧ Q v H'
def CR (CX : CXT) (outer : List Env) (P : Program) (w : World) (H : Hp) (s : Shared) (Q : VK) (E : XK) (r : Result) (s' : Shared) : Prop :=
  match r with
  | .ok (.ret u) => CE outer P w H s Q u s'
  | .ok _ => False
  | .error e => CX outer H s E e s'
structure FnOk (P : Program) (w : World) (K : PySem.W.Frag) (mg : Str → Option Value) (base : Heap) (CX : CXT) (k : Nat) (f : Addr) (fd : FuncData) (ps : List Str) (sp : Sp) : Prop where
  len : ∀ vs H Q E, sp vs H Q E → vs.length = ps.length
  run : ∀ (A : Around) (outer : List Env) (s : Shared) (H : Hp) (args : Args) (us : List Value) (vs : List V) (Q : VK) (E : XK), Room k A → Env0 P w K mg base A outer s H → BindsTo s fd args (ps.zip us) → Vals vs us → sp vs H Q E →
    codeAny (model P w) A (.call (.ref f) args) (CR CX outer P w H s Q E) s
theorem FnOk.mono {P : Program} {w : World} {K : PySem.W.Frag} {mg : Str → Option Value} {base : Heap} {CX : CXT} {j k : Nat} {f : Addr} {fd : FuncData} {ps : List Str} {sp : Sp} (F : FnOk P w K mg base CX j f fd ps sp) (h : j ≤ k) :
    FnOk P w K mg base CX k f fd ps sp := ⟨F.len, fun A outer s H args us vs Q E hr => F.run A outer s H args us vs Q E (hr.mono h)⟩

theorem FnOk.imp {P : Program} {w : World} {K : PySem.W.Frag} {mg : Str → Option Value} {base : Heap} {CX : CXT} {k : Nat} {f : Addr} {fd : FuncData} {ps : List Str} {sp sp' : Sp} (F : FnOk P w K mg base CX k f fd ps sp)
    (h : ∀ vs H Q E, sp' vs H Q E → sp vs H Q E) : FnOk P w K mg base CX k f fd ps sp' :=
  ⟨fun vs H Q E q => F.len vs H Q E (h _ _ _ _ q), fun A outer s H args us vs Q E hr he hb hv hs => F.run A outer s H args us vs Q E hr he hb hv (h _ _ _ _ hs)⟩

theorem Env0.in1 {P : Program} {w : World} {K : PySem.W.Frag} {mg : Str → Option Value} {base : Heap} {A : Around} {outer : List Env} {s : Shared} {H : Hp} (e : Env0 P w K mg base A outer s H) :
    Env0 P w K mg base A.in1 outer s H := ⟨e.frames, e.mod, e.bs, e.bsz, e.funs, e.frf, e.hok, e.bare⟩

section
variable {X : Cx} {pins : List (Addr × Obj)} {σ : St} {H : Hp} {s s' : Shared}

theorem Inv.env0 (I : Inv X pins σ H s) : Env0 X.prog X.w X.K X.mg X.base X.A X.stack s H :=
  ⟨I.ok.frames, I.ok.mod, I.bs, Nat.le_trans I.ok.bsz I.sz, I.stack, I.stkFree, I.hok, I.bare⟩

theorem Inv.after {Q : VK} {u : Value} (I : Inv X pins σ H s) (h : CE X.stack X.prog X.w H s Q u s') : EP X pins σ Q u s' := by
  obtain ⟨v, H', os, bare, un, hok, r, q⟩ := h
  obtain ⟨hh, g, d, t, os'⟩ := s'
  obtain rfl : os' = s.os := os
  exact ⟨v, H', I.call (h' := hh) (g' := g) (d' := d) (t' := t) (ch := []) un hok bare (fun b z => absurd z (by simp)), r, q⟩
end



def tCall (sp : Sp) (dvs : List V) (E : XK) (t : TA) : TE := fun σ H Q => t σ H fun vs H1 => sp (vs ++ dvs) H1 Q E

def tMeth (C : Addr) (m : Str) (sp : Sp) (dvs : List V) (E : XK) (ta : TE) (t : TA) : TE := fun σ H Q => ta σ H fun x H1 => ∃ a dx fs, x = .ref a ∧ H1 a = some (.ins C dx fs) ∧ fs.lookup m = none ∧
  t σ H1 fun vs H2 => sp (x :: (vs ++ dvs)) H2 Q E

def tMake (C : Addr) (sp : Sp) (dvs : List V) (E : XK) (t : TA) : TE := fun σ H Q => t σ H fun vs H1 => ∀ x dx, H1 x = none → H1 dx = none → dx ≠ x →
  sp (.ref x :: (vs ++ dvs)) (upd (upd H1 dx (.own x)) x (.ins C dx [])) (fun v H2 => v = .non ∧ Q (.ref x) H2) E


def Binds (K : PySem.W.Frag) (fd : FuncData) (ps : List Str) (ds : List Value) : Prop :=
  ∀ (s : Shared) (us : List Value), K.In s.heap → (us ++ ds).length = ps.length → BindsTo s fd ⟨us, []⟩ (ps.zip (us ++ ds))

theorem Binds.all {K : PySem.W.Frag} {fd : FuncData} {ps : List Str} (h : ∀ us : List Value, us.length = ps.length → bindArgs fd ⟨us, []⟩ = pure (ps.zip us)) : Binds K fd ps [] := fun s us _ hl => by
  rw [List.append_nil] at hl ⊢
  exact .of_eq (h us hl)


def Passes (CX : CXT) (X : Cx) (E : XK) : Prop := ∀ (pins : List (Addr × Obj)) (σ : St) (H : Hp) (s : Shared) (e : Value) (s' : Shared), Inv X pins σ H s → CX X.stack H s E e s' → X.xe e s'

section
variable {X : Cx} {CX : CXT} {k : Nat} {f C : Addr} {fd : FuncData} {ps : List Str} {sp : Sp} {dvs : List V} {ds : List Value} {E : XK} {x m : Str} {p pos apos : Pos} {e o : Expr} {es : List Expr} {ta : TE} {t : TA}


theorem run_fn {pins : List (Addr × Obj)} {σ : St} {H : Hp} {s : Shared} {Q : VK} {us : List Value} {vs : List V} (F : FnOk X.prog X.w X.K X.mg X.base CX k f fd ps sp) (hr : Room k X.A) (hb : Binds X.K fd ps ds) (hd : Vals dvs ds) (hx : Passes CX X E)
    (I : Inv X pins σ H s) (r : Vals vs us) (h : sp (vs ++ dvs) H Q E) : wpAny (model X.prog X.w) X.A (call (.ref f) us) (EP X pins σ Q) X.xe s := by
  have r2 : Vals (vs ++ dvs) (us ++ ds) := r.append hd
  have hl : (us ++ ds).length = ps.length := by rw [← r2.length]; exact F.len _ _ _ _ h
  refine wpAny_call (codeAny_mono (F.run X.A X.stack s H ⟨us, []⟩ (us ++ ds) (vs ++ dvs) Q E hr I.env0 (hb s us I.kIn hl) r2 h) fun r s' hq => ?_)
  cases r with
  | error e => exact hx pins σ H s e s' I hq
  | ok fl =>
    cases fl with
    | ret u => exact I.after hq
    | next => exact False.elim hq
    | brk => exact False.elim hq
    | cont => exact False.elim hq

theorem pe_call (F : FnOk X.prog X.w X.K X.mg X.base CX k f fd ps sp) (hr : Room k X.A) (hg : Gl X x) (hm : X.mg x = some (.ref f)) (hk : PySem.W.keepIn X.K (.ref f) = true) (hb : Binds X.K fd ps ds) (hd : Vals dvs ds) (hx : Passes CX X E)
    (ha : PA X (e :: es) t) (hdb : (x == ("__debug__" : Str)) = false := by decide) (he : starEach (e :: es) X.env = (false, eval e X.env) :: starEach es X.env := by rfl) (hpl : (backTo pos (starEach es X.env)).any (·.1) = false := by rfl) :
    PE X (.Call (.Name x p) (e :: es) [] pos) (tCall sp dvs E t) := by
  intro pins s σ H Q I h
  refine wpAny_Call_Name_kw (ld_glob I hg hm ?_ hdb)
  refine PySem.W.callWith_K (h₀ := X.base) I.ok.mod.kin hk (thn (ha pos pins s σ H _ I h) fun us s1 ⟨vs, H1, I1, r, q⟩ => ⟨I1.kIn, ?_⟩) he hpl
  exact run_fn F hr hb hd hx I1 r q
structure Mk (K : PySem.W.Frag) (C f : Addr) : Prop where
  makes : PySem.W.makesIn K C = true
  init : PySem.W.findIn K (.ref C) "__init__" = some (some (.ref f))
  fn : PySem.W.isFn K (.ref f) = true
  kp : PySem.W.keepIn K (.ref C) = true

end



def PK (X : Cx) (kws : List Keyword) (t : TA) : Prop :=
  ∀ (pos : Pos) (pins : List (Addr × Obj)) (s : Shared) (σ : St) (H : Hp) (Q : List V → Hp → Prop), Inv X pins σ H s → t σ H Q → wpAny (model X.prog X.w) X.A (evalAll ((backToKw pos (keywordEach kws X.env)).map (·.2))) (AP X pins σ Q) X.xe s
section
variable {X : Cx} {CX : CXT} {k : Nat} {f C : Addr} {fd : FuncData} {ps ks : List Str} {sp : Sp} {E : XK} {x m : Str} {p pos apos kpos : Pos} {e o : Expr} {es : List Expr} {kws : List Keyword} {te ta : TE} {t tk : TA} {nm : Option Str}
theorem pk_nil : PK X [] tNil := fun _ _ _ _ H Q I h => wpAny_evalAll_nil ⟨[], H, I, .nil, h⟩
theorem pk_cons (ha : PE X e te) (hr : PK X kws t) : PK X (⟨nm, e, kpos⟩ :: kws) (tCons te t) := by
  intro pos pins s σ H Q I h
  show wpAny _ _ (evalAll ((do let v ← eval e X.env; standAt pos; pure v) :: (backToKw pos (keywordEach kws X.env)).map (·.2))) _ _ s
  refine wpAny_evalAll_cons (wpAny_bind (thn (ha pins s σ H _ I h) fun u s1 ⟨x, H1, I1, r1, q1⟩ => wpAny_bind (wpAny_standAt (wpAny_pure ?_))))
  exact thn (hr pos pins s1 σ H1 _ I1 q1) fun us s2 ⟨xs, H2, I2, r2, q2⟩ => ⟨x :: xs, H2, I2, .cons r1 r2, q2⟩


structure KBinds (K : PySem.W.Frag) (fd : FuncData) (ps ks : List Str) (g : List Value → List Value → List Value) (gV : List V → List V → List V) : Prop where
  to : ∀ (s : Shared) (us ws : List Value), K.In s.heap → (g us ws).length = ps.length → BindsTo s fd ⟨us, ks.zip ws⟩ (ps.zip (g us ws))
  rel : ∀ {vs : List V} {us : List Value} {zs : List V} {ws : List Value}, Vals vs us → Vals zs ws → Vals (gV vs zs) (g us ws)
variable {g : List Value → List Value → List Value} {gV : List V → List V → List V}
end



structure FnScope (N P : List Str) (sc : Scope) : Prop where
  kind : sc.kind = .function
  co : sc.isCoroutine = false
  gen : sc.isGenerator = false
  nd : N.Nodup
  pre : N.take P.length = P
  par : ∀ x ∈ P, sc.names.lookup x = some .local ∨ sc.names.lookup x = some .cell
  nofree : ∀ y ∈ sc.names, y.2 ≠ .free

theorem bindL_out {kindOf : Str → Option NameKind} {x : Str} : ∀ {binds : List (Str × Value)} {m : Str → Option Value}, (∀ v, (x, v) ∉ binds) → bindL kindOf binds m x = m x
  | [], _, _ => rfl
  | (n, v) :: r, m, h => by
    unfold bindL
    rw [bindL_out fun w hw => h w (List.mem_cons_of_mem _ hw)]
    split
    · have : x ≠ n := by rintro rfl; exact h v List.mem_cons_self
      simp [this]
    · rfl
theorem bindC_out {kindOf : Str → Option NameKind} {x : Str} : ∀ {binds : List (Str × Value)} {m : Str → Option Value}, (∀ v, (x, v) ∉ binds) → bindC kindOf binds m x = m x
  | [], _, _ => rfl
  | (n, v) :: r, m, h => by
    unfold bindC
    rw [bindC_out fun w hw => h w (List.mem_cons_of_mem _ hw)]
    split
    · rfl
    · have : x ≠ n := by rintro rfl; exact h v List.mem_cons_self
      simp [this]
theorem bindL_get {kindOf : Str → Option NameKind} {x : Str} {v : Value} : ∀ {P : List Str} {vs : List Value} {i : Nat} {m : Str → Option Value}, P.Nodup → P[i]? = some x → vs[i]? = some v → kindOf x = some .local →
    bindL kindOf (P.zip vs) m x = some v
  | [], _, _, _, _, h, _, _ => by simp at h
  | _ :: _, [], _, _, _, _, h, _ => by simp at h
  | p :: P, w :: vs, 0, m, nd, h1, h2, hk => by
    simp at h1 h2; subst h1; subst h2
    show bindL kindOf ((p, w) :: P.zip vs) m p = _
    unfold bindL
    rw [bindL_out fun v hv => (List.nodup_cons.mp nd).1 (List.of_mem_zip hv).1, if_pos hk]
    simp
  | p :: P, w :: vs, i + 1, m, nd, h1, h2, hk => by
    show bindL kindOf ((p, w) :: P.zip vs) m x = _
    unfold bindL
    exact bindL_get (i := i) (List.nodup_cons.mp nd).2 (by simpa using h1) (by simpa using h2) hk
theorem bindC_get {kindOf : Str → Option NameKind} {x : Str} {v : Value} : ∀ {P : List Str} {vs : List Value} {i : Nat} {m : Str → Option Value}, P.Nodup → P[i]? = some x → vs[i]? = some v → kindOf x ≠ some .local →
    bindC kindOf (P.zip vs) m x = some v
  | [], _, _, _, _, h, _, _ => by simp at h
  | _ :: _, [], _, _, _, _, h, _ => by simp at h
  | p :: P, w :: vs, 0, m, nd, h1, h2, hk => by
    simp at h1 h2; subst h1; subst h2
    show bindC kindOf ((p, w) :: P.zip vs) m p = _
    unfold bindC
    rw [bindC_out fun v hv => (List.nodup_cons.mp nd).1 (List.of_mem_zip hv).1, if_neg hk]
    simp
  | p :: P, w :: vs, i + 1, m, nd, h1, h2, hk => by
    show bindC kindOf ((p, w) :: P.zip vs) m x = _
    unfold bindC
    exact bindC_get (i := i) (List.nodup_cons.mp nd).2 (by simpa using h1) (by simpa using h2) hk


def start (N : List Str) (vs : List V) : St := vs.map some ++ List.replicate (N.length - vs.length) none


def cxOf (CX : CXT) (P : Program) (w : World) (K : PySem.W.Frag) (mg : Str → Option Value) (base : Heap) (N : List Str) (qual : Str) (scope : Scope) (f : Addr) (cd : Value) (A : Around) (outer : List Env) (s : Shared) (H : Hp) (E : XK) : Cx where
  prog := P
  w := w
  K := K
  mg := mg
  base := base
  A := A.deeper (envOfC qual scope s.heap.objs.size f cd)
  N := N
  s₀ := s
  H₀ := H
  env := envOfC qual scope s.heap.objs.size f cd
  outer := outer
  stack := envOfC qual scope s.heap.objs.size f cd :: outer
  ex := []
  calm := true
  fn := fun _ => true
  pn := []
  xe := fun e s' => wpAny (model P w) (A.deeper (envOfC qual scope s.heap.objs.size f cd)) (leaving (envOfC qual scope s.heap.objs.size f cd) e) (fun _ s'' => CX outer H s E e s'') (fun e' s'' => CX outer H s E e' s'') s'

theorem cell_has {sc : Scope} {n : Nat} {x : Str} (h : sc.names.lookup x = some .cell) : ∃ c, (cellsFrom n sc.names []).lookup x = some c := by
  have q := PySem.W.cellsFrom_some sc.names n [] (.inl h)
  exact Option.isSome_iff_exists.mp q

theorem inv_start {CX : CXT} {P : Program} {w : World} {K : PySem.W.Frag} {mg : Str → Option Value} {base : Heap} {N ps : List Str} {qual : Str} {scope : Scope} {f : Addr} {cd : Value} {A : Around} {outer : List Env} {s s1 : Shared} {H : Hp} {E : XK} {us : List Value} {vs : List V}
    (S : FnScope N ps scope) (hd : A.handled = none) (e0 : Env0 P w K mg base A outer s H) (hl : vs.length = ps.length) (r : Vals vs us)
    (x : InCallC s s.heap.objs.size (bindL (envOfC qual scope s.heap.objs.size f cd).kindOf (ps.zip us) fun _ => none) (cellsFrom (s.heap.objs.size + 1) scope.names []) (bindC (envOfC qual scope s.heap.objs.size f cd).kindOf (ps.zip us) fun _ => none) s1) :
    Inv (cxOf CX P w K mg base N qual scope f cd A outer s H E) [] (start N vs) H s1 := by
  have hpl : ps.length ≤ N.length := by have := congrArg List.length S.pre; rw [List.length_take] at this; omega
  obtain ⟨h1, tk, rfl, hk⟩ := x.done
  have noA : ∀ b : Addr, b ∉ (cxOf CX P w K mg base N qual scope f cd A outer s H E).ex := fun b z => absurd (show b ∈ ([] : List Addr) from z) (by simp)
  refine ⟨⟨e0.mod, S.kind, rfl, rfl, Nat.le_refl _, fun y z c h1 h2 => ?_, fun y hy => ?_, fun y c _ h => ?_, fun _ => hd, Around.frames_deeper e0.frames, .inr ⟨rfl, rfl⟩, fun b z => absurd z (noA b), e0.bs, e0.bsz, fun b _ _ => noA b, fun b z => absurd z (noA b), e0.funs, e0.frf⟩,
    rfl, e0.bare, Un.kept hk, ⟨_, x.toInCall.ns, fun i y v h1 h2 h3 => ?_⟩, fun y c h => ⟨_, x.cell y c h⟩, e0.hok.fresh (Nat.le_refl _), fun y c h => ?_, fun p hp => absurd (show p ∈ ([] : List (Addr × Obj)) from hp) (by simp), e0.hok.kept hk, ?_⟩
  · exact name_of_addr x.apart (PySem.mem_of_lookup h1) (PySem.mem_of_lookup h2)
  · have hy : scope.names.lookup y = some .cell ∨ scope.names.lookup y = some .free := hy
    rcases hy with hy | hy
    · exact cell_has hy
    · exact absurd rfl (S.nofree _ (PySem.mem_of_lookup hy))
  · exact Nat.le_of_lt (x.above y c (PySem.mem_of_lookup h))
  · have hi : i < vs.length := by
      unfold start at h2
      by_cases hi : i < vs.length
      · exact hi
      · rw [List.getElem?_append_right (by simpa using hi)] at h2
        rw [List.getElem?_replicate] at h2
        split at h2 <;> cases h2
    have ha : vs[i]? = some v := by
      unfold start at h2
      rw [List.getElem?_append_left (by simpa using hi), List.getElem?_map] at h2
      cases e : vs[i]? with
      | none => rw [e] at h2; cases h2
      | some a => rw [e] at h2; cases h2; rfl
    obtain ⟨u, hu, rv⟩ := r.get ha
    have hp : ps[i]? = some y := by
      rw [← S.pre, List.getElem?_take_of_lt (by omega)]; exact h1
    have ndP : ps.Nodup := by rw [← S.pre]; exact S.nd.sublist (List.take_sublist _ _)
    refine ⟨u, rv, ?_⟩
    rcases S.par y (List.mem_of_getElem? hp) with k | k
    · exact .inl ⟨k, bindL_get ndP hp hu k⟩
    · obtain ⟨c, e⟩ := cell_has (n := s.heap.objs.size + 1) k
      refine .inr ⟨.inl k, c, e, ?_⟩
      have q := x.cell y c e
      rw [bindC_get ndP hp hu (by show scope.names.lookup y ≠ _; rw [k]; decide)] at q
      exact q
  · exact e0.hok.fresh (Nat.le_of_lt (x.above y c (PySem.mem_of_lookup h)))
  · unfold start
    show _ = N.length
    rw [List.length_append, List.length_map, List.length_replicate]
    omega


theorem fn_of {CX : CXT} {P : Program} {w : World} {K : PySem.W.Frag} {mg : Str → Option Value} {base : Heap} {k : Nat} {f : Addr} {name qual : Str} {params : Arguments} {body : List Stmt} {scope : Scope} {dV kV doc pm cdv ct oc : Value} {an od : Option Addr}
    {osl : Array (Option Value)} {N ps : List Str} {sp : Sp} (lk : K.lookup f = some ⟨oc, od, .func (PySem.W.fnOf name qual params body scope dV kV doc pm an cdv ct), osl⟩) (hcd : PySem.W.codeIn K cdv qual = true) (S : FnScope N ps scope)
    (len : ∀ vs H Q E, sp vs H Q E → vs.length = ps.length)
    (hbody : ∀ (A : Around) (outer : List Env) (s : Shared) (H : Hp) (vs : List V) (Q : VK) (E : XK), Room k (A.deeper (envOfC qual scope s.heap.objs.size f cdv)) → sp vs H Q E →
      ∃ t, PSs (cxOf CX P w K mg base N qual scope f cdv A outer s H E) body t ∧ t { nx := fun _ H' => Q .non H', rt := Q } (start N vs) H) :
    FnOk P w K mg base CX (k + 1) f (PySem.W.fnOf name qual params body scope dV kV doc pm an cdv ct) ps sp := by
  refine ⟨len, fun A outer s H args us vs Q E hr e0 hb r hsp => ?_⟩
  have hl := len _ _ _ _ hsp
  have KX : K.In s.heap := e0.mod.kin.keeps fun b o e => (e0.bs b o e).1
  have lim : s.heap.NoLimit := e0.mod.nolimit.keeps fun b o e => (e0.bs b o e).1
  have hkind : ∀ y ∈ ps.zip us, scope.names.lookup y.1 = some .local ∨ (scope.names.lookup y.1 = some .cell ∧ ((cellsFrom (s.heap.objs.size + 1) scope.names []).lookup y.1).isSome = true) := fun ⟨n, v⟩ hy => by
    rcases S.par n (List.of_mem_zip hy).1 with q | q
    · exact .inl q
    · exact .inr ⟨q, PySem.W.cellsFrom_some _ _ _ (.inl q)⟩
  refine codeAny_call_function hr.depth (KX _ _ lk) rfl S.co S.gen rfl (PySem.W.codeRec_of KX hcd) (hb _ _ _ _ ?_)
  refine wpAny_newFunctionEnv_cells S.kind hkind fun env he s1 x => ?_
  subst he
  refine ⟨lim.keeps x.toInCall.keep, codeAny_func ?_⟩
  obtain ⟨t, ht, hq⟩ := hbody A outer s H vs Q E (hr.deeper _) hsp
  have I : Inv (cxOf CX P w K mg base N qual scope f cdv A outer s H E) [] (start N vs) H s1 := inv_start S hr.hd e0 hl r x
  refine wpAny_mono (ht [] s1 (start N vs) H _ I hq) (fun fl s' hs => ?_) fun e s' hs => hs
  have fin : ∀ {σ' : St} {H' : Hp} {v : V} {u : Value}, Inv (cxOf CX P w K mg base N qual scope f cdv A outer s H E) [] σ' H' s' → RelV v u → Q v H' → CE outer P w H s Q u s' :=
    fun {σ' H' v u} J rv q => ⟨v, H', J.os, J.bare, J.base, J.hok, rv, q⟩
  cases fl with
  | ret u =>
    obtain ⟨v, σ', H', J, rv, q⟩ := hs
    exact fin J rv q
  | next =>
    obtain ⟨σ', H', J, q⟩ := hs
    exact fin (v := V.non) (u := Value.none) J rfl q
  | brk =>
    obtain ⟨_, _, _, q⟩ := hs
    exact False.elim q
  | cont =>
    obtain ⟨_, _, _, q⟩ := hs
    exact False.elim q
end L2

namespace L2
open PySem PySem.Spec PyProof.Rows
section
variable {X : Cx} {x : Str} {p pos : Pos} {e : Expr} {es : List Expr} {t : TA} {id T : String} {r : List V → Hp → VK → Prop}

def tCB (r : List V → Hp → VK → Prop) (t : TA) : TE := fun σ H Q => t σ H fun vs H1 => r vs H1 Q

theorem pe_callB (hc : CallR X (.builtin id) r) (hg : Gl X x) (hm : X.mg x = none) (hv : bootBuiltins x = some (.builtin id)) (ha : PA X (e :: es) t) (hn : x ≠ "__name__" := by decide) (hdb : (x == ("__debug__" : Str)) = false := by decide)
    (he : starEach (e :: es) X.env = (false, eval e X.env) :: starEach es X.env := by rfl) (hpl : (backTo pos (starEach es X.env)).any (·.1) = false := by rfl) : PE X (.Call (.Name x p) (e :: es) [] pos) (tCB r t) := by
  intro pins s σ H Q I h
  refine wpAny_Call_Name_kw (ld_blt I hg hm hv ?_ hn hdb)
  exact PyProof.Rows.callWith_builtin1 (thn (ha pos pins s σ H _ I h) fun us s1 ⟨vs, H1, I1, r1, q1⟩ => hc pins s1 σ H1 vs us Q I1 r1 q1) he hpl

theorem pe_callTy (hc : CallR X (.type T) r) (hg : Gl X x) (hm : X.mg x = none) (hv : bootBuiltins x = some (.type T)) (ha : PA X (e :: es) t) (hn : x ≠ "__name__" := by decide) (hdb : (x == ("__debug__" : Str)) = false := by decide)
    (he : starEach (e :: es) X.env = (false, eval e X.env) :: starEach es X.env := by rfl) (hpl : (backTo pos (starEach es X.env)).any (·.1) = false := by rfl) : PE X (.Call (.Name x p) (e :: es) [] pos) (tCB r t) := by
  intro pins s σ H Q I h
  refine wpAny_Call_Name_kw (ld_blt I hg hm hv ?_ hn hdb)
  exact PyProof.Rows.callWith_type1 (thn (ha pos pins s σ H _ I h) fun us s1 ⟨vs, H1, I1, r1, q1⟩ => hc pins s1 σ H1 vs us Q I1 r1 q1) he hpl

end
end L2

namespace HT
open PySem PyProof.Rows


def lexLt : List Int → List Int → Bool
  | [], [] => false
  | [], _ :: _ => true
  | _ :: _, [] => false
  | x :: xs, y :: ys => if x = y then lexLt xs ys else decide (x < y)
section
open PySem.SeqAt
open PySem.AutoSeq1 (wpAny_loadPart')
open PySem.MeetsSeq PySem.MeetsSeq2 PySem.MeetsSeq3

end

section
variable {prog : Program} {w : World} {A : Around} {E : Value → Shared → Prop} {s : Shared}

def sIx (n d : Nat) : Option Int → Nat
  | none => d
  | some v => if v < 0 then (v + (n : Int)).toNat else min v.toNat n
theorem sIx_nat (n d k : Nat) : sIx n d (some (k : Int)) = min k n := by
  show (if (k : Int) < 0 then ((k : Int) + (n : Int)).toNat else min (k : Int).toNat n) = min k n
  rw [if_neg (by omega), Int.toNat_natCast]
end
end HT

namespace L2
open PySem PySem.Spec PyProof.Rows


abbrev TO := St → Hp → (Option Int → Hp → Prop) → Prop

def PO (X : Cx) (e : Option Expr) (t : TO) : Prop :=
  ∀ (pins : List (Addr × Obj)) (s : Shared) (σ : St) (H : Hp) (Q : Option Int → Hp → Prop), Inv X pins σ H s → t σ H Q →
    wpAny (model X.prog X.w) X.A (evalPart e X.env) (fun u s' => ∃ o H', Inv X pins σ H' s' ∧ IsPart u o ∧ Q o H') X.xe s
def tNoPart : TO := fun _ H Q => Q none H
def tPart (t : TE) : TO := fun σ H Q => t σ H fun x H1 => ∃ i, x = .int i ∧ Q (some i) H1

theorem intsAre_of {ns : List Int} : ∀ {us : List Value}, Vals (ns.map V.int) us → IntsAre us ns := by
  induction ns with
  | nil => intro us r; rw [List.map_nil] at r; cases r; exact .nil
  | cons n ns ih =>
    intro us r
    rw [List.map_cons] at r
    cases r with
    | cons r1 r2 =>
      obtain ⟨t, e⟩ := r1
      subst e
      exact .cons n t (ih r2)

section
variable {X : Cx} {e : Expr} {te : TE} {lo hi : Option Expr} {tl th : TO} {pos p2 : Pos}

theorem po_none : PO X none tNoPart := by
  intro pins s σ H Q I h
  rw [evalPart_none]
  exact wpAny_pure ⟨none, H, I, .none, h⟩
theorem po_some (h : PE X e te) : PO X (some e) (tPart te) := by
  intro pins s σ H Q I hw
  rw [evalPart_some]
  refine thn (h pins s σ H _ I hw) fun u s1 ⟨x, H1, I1, r1, q1⟩ => ?_
  obtain ⟨i, rfl, q⟩ := q1
  obtain ⟨t, rfl⟩ := r1
  exact ⟨some i, H1, I1, .int i t, q⟩


def SlR (X : Cx) (r : V → Option Int → Option Int → Hp → VK → Prop) : Prop :=
  ∀ (pins : List (Addr × Obj)) (s : Shared) (σ : St) (H : Hp) (x : V) (v vl vu : Value) (lo hi : Option Int) (sl : Addr) (Q : VK), Inv X pins σ H s → RelV x v → s.heap.IsSliceOf sl vl vu .none → IsPart vl lo → IsPart vu hi → r x lo hi H Q →
    ∃ T id, typeLookup (.type T) "__getitem__" = pure (some (.builtin id)) ∧ s.TypeIs v T ∧ wpAny (model X.prog X.w) X.A (getItem v (.ref sl)) (EP X pins σ Q) X.xe s
theorem SlR.or {r r' : V → Option Int → Option Int → Hp → VK → Prop} (h : SlR X r) (h' : SlR X r') : SlR X (fun x lo hi H Q => r x lo hi H Q ∨ r' x lo hi H Q) := by
  intro pins s σ H x v vl vu lo hi sl Q I rx hs pl pu q
  rcases q with q | q
  · exact h pins s σ H x v vl vu lo hi sl Q I rx hs pl pu q
  · exact h' pins s σ H x v vl vu lo hi sl Q I rx hs pl pu q
def tSl (r : V → Option Int → Option Int → Hp → VK → Prop) (te : TE) (tl th : TO) : TE := fun σ H Q => te σ H fun x H1 => tl σ H1 fun l H2 => th σ H2 fun u H3 => r x l u H3 Q

theorem pe_slice {r : V → Option Int → Option Int → Hp → VK → Prop} (hr : SlR X r) (he : PE X e te) (hl : PO X lo tl) (hu : PO X hi th) : PE X (.Subscript e (.Slice lo hi none p2) pos) (tSl r te tl th) := by
  intro pins s σ H Q I h
  refine Subscript_ (thn (he pins s σ H _ I h) fun v s1 ⟨x, H1, I1, r1, q1⟩ => ?_)
  refine wpAny_Slice (thn (hl pins s1 σ H1 _ I1 q1) fun vl s2 ⟨l, H2, I2, pl, q2⟩ => thn (hu pins s2 σ H2 _ I2 q2) fun vu s3 ⟨u, H3, I3, pu, q3⟩ => ?_)
  rw [evalPart_none]
  refine wpAny_pure ?_
  have I4 : Inv X pins σ H3 { s3 with heap := s3.heap.push { cls := .type "slice", data := .fields #[vl, vu, .none] } } := I3.kept (t' := s3.toks) fun b ob q => Heap.get?_push_of_some _ q
  obtain ⟨T, id, hT, ht, hg⟩ := hr pins { s3 with heap := s3.heap.push { cls := .type "slice", data := .fields #[vl, vu, .none] } } σ H3 x v vl vu l u s3.heap.objs.size Q I4 r1 (Heap.IsSliceOf.new ..) pl pu q3
  show wpAny (model X.prog X.w) X.A (subscriptTail e (.Slice lo hi none p2) v (.ref s3.heap.objs.size)) (EP X pins σ Q) X.xe { s3 with heap := s3.heap.push { cls := .type "slice", data := .fields #[vl, vu, .none] } }
  exact tail_any (ops := [.ref s3.heap.objs.size, v]) ht hT hg (by with_unfolding_all rfl)


def cutV (xs : List V) (lo hi : Option Int) : List V := (xs.drop (HT.sIx xs.length 0 lo)).take (HT.sIx xs.length xs.length hi - HT.sIx xs.length 0 lo)
theorem cutV_length (xs : List V) (lo hi : Option Int) : (cutV xs lo hi).length ≤ xs.length := by
  unfold cutV
  rw [List.length_take, List.length_drop]
  omega

def rLtT (K : PySem.W.Frag) : R2 := fun x y H Q => ∃ a b ns ms, x = .ref a ∧ y = .ref b ∧ SqT K H a (ns.map V.int) ∧ SqT K H b (ms.map V.int) ∧ Q (.bl (HT.lexLt ns ms)) H
end
end L2

namespace L2
open PySem PySem.Spec PyProof.Rows



def ixN (n : Nat) (i : Int) : Option Nat := if 0 ≤ i then (if i < n then some i.toNat else none) else if -(n : Int) ≤ i then some (i + n).toNat else none
def atI {α : Type} (xs : List α) (i : Int) : Option α := (ixN xs.length i).bind fun j => xs[j]?
theorem ixN_seq {n : Nat} {i : Int} {j : Nat} (h : ixN n i = some j) : seqIndex? i n = some j ∧ j < n ∧ -(n : Int) ≤ i ∧ i < n := by
  unfold ixN at h
  by_cases h0 : 0 ≤ i
  · rw [if_pos h0] at h
    by_cases h1 : i < n
    · rw [if_pos h1] at h
      have e : i.toNat = j := Option.some.inj h
      exact ⟨by rw [seqIndex_of h0 h1, e], by omega, by omega, h1⟩
    · rw [if_neg h1] at h; cases h
  · rw [if_neg h0] at h
    by_cases h1 : -(n : Int) ≤ i
    · rw [if_pos h1] at h
      have e : (i + n).toNat = j := Option.some.inj h
      exact ⟨by rw [seqIndex_neg (by omega) h1, e], by omega, h1, by omega⟩
    · rw [if_neg h1] at h; cases h
theorem atI_get {α : Type} {xs : List α} {i : Int} {v : α} (h : atI xs i = some v) : ∃ j, seqIndex? i xs.length = some j ∧ xs[j]? = some v ∧ j < xs.length ∧ -(xs.length : Int) ≤ i ∧ i < xs.length := by
  unfold atI at h
  cases e : ixN xs.length i with
  | none => rw [e] at h; cases h
  | some j =>
    rw [e] at h
    obtain ⟨h1, h2, h3, h4⟩ := ixN_seq e
    exact ⟨j, h1, h, h2, h3, h4⟩
theorem atI_last {α : Type} (xs : List α) (v : α) : atI (xs ++ [v]) (-1) = some v := by
  have hl : (xs ++ [v]).length = xs.length + 1 := by simp
  have e : ixN (xs ++ [v]).length (-1) = some xs.length := by
    unfold ixN
    rw [hl, if_neg (by decide), if_pos (by omega)]
    congr 1
    omega
  unfold atI
  rw [e]
  show (xs ++ [v])[xs.length]? = some v
  simp



def PlainIx (b : Expr) : Prop := ∀ o i, subscripted b false o i = operate [o, i] (getItem o i)

def IxR (X : Cx) (r : R2) : Prop :=
  ∀ (value slice : Expr) (pins : List (Addr × Obj)) (s : Shared) (σ : St) (H : Hp) (x y : V) (v u : Value) (Q : VK), Inv X pins σ H s → RelV x v → RelV y u → r x y H Q →
    subscripted slice false v u = operate [v, u] (getItem v u) → wpAny (model X.prog X.w) X.A (subscriptTail value slice v u) (EP X pins σ Q) X.xe s

def MtR (X : Cx) (id : String) (r : V → List V → Hp → VK → Prop) : Prop :=
  ∀ (pins : List (Addr × Obj)) (s : Shared) (σ : St) (H : Hp) (x : V) (xs : List V) (v : Value) (us : List Value) (Q : VK), Inv X pins σ H s → RelV x v → Vals xs us → r x xs H Q →
    wpAny (model X.prog X.w) X.A (call (.builtin id) (v :: us)) (EP X pins σ Q) X.xe s
section
variable {X : Cx} {a b : Expr} {ta tb : TE} {pos : Pos}
theorem IxR.or {r r' : R2} (h : IxR X r) (h' : IxR X r') : IxR X (fun x y H Q => r x y H Q ∨ r' x y H Q) := by
  intro value slice pins s σ H x y v u Q I rx ry q hs
  rcases q with q | q
  · exact h value slice pins s σ H x y v u Q I rx ry q hs
  · exact h' value slice pins s σ H x y v u Q I rx ry q hs
theorem MtR.or {id : String} {r r' : V → List V → Hp → VK → Prop} (h : MtR X id r) (h' : MtR X id r') : MtR X id (fun x xs H Q => r x xs H Q ∨ r' x xs H Q) := by
  intro pins s σ H x xs v us Q I rx rs q
  rcases q with q | q
  · exact h pins s σ H x xs v us Q I rx rs q
  · exact h' pins s σ H x xs v us Q I rx rs q

theorem pe_ix {r : R2} (hr : IxR X r) (ha : PE X a ta) (hb : PE X b tb) (hs : PlainIx b) : PE X (.Subscript a b pos) (tOp r ta tb) := by
  intro pins s σ H Q I h
  exact Subscript_ (binT ha hb I h fun v u s2 x y H2 I2 rx ry q => hr a b pins s2 σ H2 x y v u Q I2 rx ry q (hs _ _))

def rIxL (K : PySem.W.Frag) : R2 := fun x y H Q => ∃ p xs i v, x = .ref p ∧ y = .int i ∧ SqL K H p xs ∧ atI xs i = some v ∧ Q v H
def rIxT (K : PySem.W.Frag) : R2 := fun x y H Q => ∃ p xs i v, x = .ref p ∧ y = .int i ∧ SqT K H p xs ∧ atI xs i = some v ∧ Q v H
theorem ix_list : IxR X (rIxL X.K) := by
  intro value slice pins s σ H x y v u Q I rx ry h hs
  obtain ⟨p, xs, i, z, rfl, rfl, hq, he, q⟩ := h
  cases rx
  obtain ⟨t, rfl⟩ := ry
  obtain ⟨its, r, pl, hz⟩ := I.list hq
  obtain ⟨j, h1, h2, h3, h4, h5⟩ := atI_get he
  obtain ⟨w, ew, rw'⟩ := r.get h2
  have hl := r.length
  have hn := line63
  have fin : EP X pins σ Q w s := ⟨z, H, I, rw', q⟩
  by_cases h0 : 0 ≤ i
  · have hj : i.toNat = j := by
      rw [seqIndex_of h0 h5] at h1
      exact Option.some.inj h1
    exact item_listR pl.isList h0 (by omega) (by rw [hj]; simpa using ew) fin hs
  · have hj : (i + (its.toArray.size : Int)).toNat = j := by
      rw [seqIndex_neg (by omega) h4] at h1
      rw [List.size_toArray, ← hl]
      exact Option.some.inj h1
    exact subscriptTail_builtinR (x := w) pl.isList.typeIs slot_list_getitem.lookup
      (wpAny_getItem_list_neg (Q := fun r s' => r = w ∧ EP X pins σ Q r s') pl.isList (by omega) (by rw [List.size_toArray] <;> omega) (by omega) (by rw [hj]; simpa using ew) ⟨rfl, fin⟩) hs
theorem ix_tup : IxR X (rIxT X.K) := by
  intro value slice pins s σ H x y v u Q I rx ry h hs
  obtain ⟨p, xs, i, z, rfl, rfl, hq, he, q⟩ := h
  cases rx
  obtain ⟨t, rfl⟩ := ry
  obtain ⟨its, r, pl, hz⟩ := I.tuple hq
  obtain ⟨j, h1, h2, h3, h4, h5⟩ := atI_get he
  obtain ⟨w, ew, rw'⟩ := r.get h2
  have hl := r.length
  have hn := line63
  have fin : EP X pins σ Q w s := ⟨z, H, I, rw', q⟩
  exact subscriptTail_builtinR (x := w) pl.typeIs slot_tuple_getitem.lookup
    (getItem_tuple (j := j) (Q := fun r s' => r = w ∧ EP X pins σ Q r s') pl (by omega) (by omega) (by rw [List.size_toArray, ← hl]; exact h1) (by simpa using ew) ⟨rfl, fin⟩) hs
theorem mapSeq_set (its : List Value) (n j : Nat) (u : Value) : Obj.mapSeq (·.setIfInBounds j u) { cls := .type "list", data := .seq its.toArray n } = { cls := .type "list", data := .seq (its.set j u).toArray n } := by
  simp [Obj.mapSeq]
theorem Inv.lst {pins : List (Addr × Obj)} {σ : St} {H : Hp} {s : Shared} {p : Addr} {xs : List V} (I : Inv X pins σ H s) (h : H p = some (.lst xs)) :
    ∃ (its : List Value) (n : Nat), Vals xs its ∧ s.heap.get? p = some { cls := .type "list", data := .seq its.toArray n } ∧ xs.length ≤ sizeLine := by
  obtain ⟨z, its, n, r, e⟩ := I.hok p _ h
  exact ⟨its, n, r, e, z⟩

theorem Inv.lstUpd {pins : List (Addr × Obj)} {σ : St} {H : Hp} {s : Shared} {p : Addr} {xs ys : List V} {its its' : List Value} {n n' : Nat} {f : Obj → Obj} (I : Inv X pins σ H s) (h : H p = some (.lst xs))
    (ho : s.heap.get? p = some { cls := .type "list", data := .seq its.toArray n }) (hf : f { cls := .type "list", data := .seq its.toArray n } = { cls := .type "list", data := .seq its'.toArray n' }) (r : Vals ys its') (hz : ys.length ≤ sizeLine) (t : Nat) :
    Inv X pins σ (upd H p (.lst ys)) { s with heap := s.heap.update p f, toks := t } := by
  have e : (s.heap.update p f).get? p = some { cls := .type "list", data := .seq its'.toArray n' } := by
    rw [Heap.get?_update_self f ho (by rw [hf] <;> rfl), hf]
  refine I.write (x := p) (e := p) (by rw [h]; trivial) (.inl rfl) (fun b u hb q => (Heap.get?_update_other _ _ (Ne.symm hb)).trans q) ⟨_, e⟩ ?_
  exact ⟨hz, its', n', r, e⟩
def rSetL : V → V → V → Hp → (Hp → Prop) → Prop := fun o i v H Q => ∃ p xs k j, o = .ref p ∧ i = .int k ∧ H p = some (.lst xs) ∧ ixN xs.length k = some j ∧ Q (upd H p (.lst (xs.set j v)))
theorem set_list : PSet X rSetL := by
  intro pins s σ H o i v ov iv u Q I ro ri rv h
  obtain ⟨p, xs, k, j, rfl, rfl, hp, hj, q⟩ := h
  cases ro
  obtain ⟨t, rfl⟩ := ri
  obtain ⟨its, n, r, ho, hz⟩ := I.lst hp
  obtain ⟨h1, h2, h3, h4⟩ := ixN_seq hj
  have hl := r.length
  have hn := line63
  have I' : Inv X pins σ (upd H p (.lst (xs.set j v))) { s with heap := s.heap.update p (Obj.mapSeq (·.setIfInBounds j u)) } :=
    I.lstUpd hp ho (mapSeq_set its n j u) (r.set rv j) (by rw [List.length_set]; exact hz) s.toks
  by_cases h0 : 0 ≤ k
  · have hk : k.toNat = j := by
      rw [seqIndex_of h0 h4] at h1
      exact Option.some.inj h1
    exact PySem.W.ki_setAt ho h0 (by omega) (by rw [List.size_toArray, ← hl]; exact h4) (by rw [hk]; exact ⟨_, I', q⟩)
  · have hk : (k + (its.toArray.size : Int)).toNat = j := by
      rw [seqIndex_neg (by omega) h3] at h1
      rw [List.size_toArray, ← hl]
      exact Option.some.inj h1
    exact PySem.W.ki_setBack ho (by omega) (by rw [List.size_toArray, ← hl]; exact h3) (by omega) (by rw [hk]; exact ⟨_, I', q⟩)


theorem slice_bounds (lo hi : Option Int) (n : Nat) : (sliceBounds lo hi none n).1 = ((HT.sIx n 0 lo : Nat) : Int) ∧ (sliceBounds lo hi none n).2.1 = ((HT.sIx n n hi : Nat) : Int) ∧ (sliceBounds lo hi none n).2.2 = 1 := by
  refine ⟨?_, ?_, rfl⟩
  · cases lo with
    | none => simp [sliceBounds, HT.sIx]
    | some i =>
      simp only [sliceBounds, HT.sIx, Option.getD_none, show (1 : Int) > 0 by decide, if_true]
      by_cases h : i < 0
      · simp only [h, if_true] <;> omega
      · simp only [h, if_false] <;> omega
  · cases hi with
    | none => simp [sliceBounds, HT.sIx]
    | some i =>
      simp only [sliceBounds, HT.sIx, Option.getD_none, show (1 : Int) > 0 by decide, if_true]
      by_cases h : i < 0
      · simp only [h, if_true] <;> omega
      · simp only [h, if_false] <;> omega
theorem slicePick_cut (its : List Value) (lo hi : Option Int) : slicePick its.toArray lo hi none = ((its.drop (HT.sIx its.length 0 lo)).take (HT.sIx its.length its.length hi - HT.sIx its.length 0 lo)).toArray := by
  obtain ⟨h1, h2, h3⟩ := slice_bounds lo hi its.toArray.size
  unfold slicePick
  rw [h1, h2, h3]
  simp only [sliceRange_one, pick_run, List.size_toArray] <;> rfl

def rSlL (K : PySem.W.Frag) : V → Option Int → Option Int → Hp → VK → Prop := fun x lo hi H Q => ∃ a xs, x = .ref a ∧ SqL K H a xs ∧ ∀ p, H p = none → Q (.ref p) (upd H p (.lst (cutV xs lo hi)))
theorem sl_list : SlR X (rSlL X.K) := by
  intro pins s σ H x v vl vu lo hi sl Q I rx hs pl pu h
  obtain ⟨a, xs, rfl, hx, q⟩ := h
  cases rx
  obtain ⟨its, r, ht, hz⟩ := I.list hx
  have hlen := r.length
  refine ⟨"list", _, slot_list_getitem.lookup, ht.isList.typeIs, ?_⟩
  refine wpAny_getItem_list_slice ht.isList hs pl pu .none (by simp) ?_ (by rw [List.size_toArray] <;> omega)
  rw [slicePick_cut, ← hlen]
  refine ⟨.ref s.heap.objs.size, _, I.laid (t' := s.toks) (o := .lst (cutV xs lo hi)) (fun b ob q => Heap.get?_push_of_some _ q) (Nat.le_refl _) ?_, rfl, q _ (I.hok.fresh (Nat.le_refl _))⟩
  exact ⟨Nat.le_trans (cutV_length xs lo hi) hz, _, 0, (r.drop (HT.sIx xs.length 0 lo)).take (HT.sIx xs.length xs.length hi - HT.sIx xs.length 0 lo), Heap.get?_push_size _ rfl⟩


def flatV : V → Bool
  | .non => true
  | .bl _ => true
  | .int _ => true
  | .str _ => true
  | _ => false

def eqV : V → V → Bool
  | .non, .non => true
  | .bl a, .bl b => a == b
  | .bl a, .int b => (if a then 1 else 0) == b
  | .int a, .bl b => a == (if b then 1 else 0)
  | .int a, .int b => a == b
  | .str a, .str b => a == b
  | _, _ => false
theorem eqAt_V {A : Around} {s : Shared} {y x : V} {u v : Value} (ry : RelV y u) (rx : RelV x v) (fy : flatV y = true) (fx : flatV x = true) : SeqAt.EqAt A s u v (eqV y x) := by
  cases y with
  | non =>
    cases ry
    cases x with
    | non => cases rx; exact SeqAt.EqAt.same _
    | bl b => cases rx; exact SeqAt.EqAt.none_bool b
    | int b => obtain ⟨t, rfl⟩ := rx; exact SeqAt.EqAt.none_int b t
    | str b => obtain ⟨t, rfl⟩ := rx; exact SeqAt.EqAt.none_str b t
    | _ => exact absurd (show false = true from fx) Bool.false_ne_true
  | bl a =>
    cases ry
    cases x with
    | non => cases rx; exact SeqAt.EqAt.bool_none a
    | bl b => cases rx; exact SeqAt.EqAt.bool_bool a b
    | int b => obtain ⟨t, rfl⟩ := rx; exact SeqAt.EqAt.bool_int a b t
    | str b => obtain ⟨t, rfl⟩ := rx; exact SeqAt.EqAt.bool_str a b t
    | _ => exact absurd (show false = true from fx) Bool.false_ne_true
  | int a =>
    obtain ⟨t', rfl⟩ := ry
    cases x with
    | non => cases rx; exact SeqAt.EqAt.int_none a t'
    | bl b => cases rx; exact SeqAt.EqAt.int_bool a t' b
    | int b => obtain ⟨t, rfl⟩ := rx; exact SeqAt.EqAt.int_int a t' b t
    | str b => obtain ⟨t, rfl⟩ := rx; exact SeqAt.EqAt.int_str a t' b t
    | _ => exact absurd (show false = true from fx) Bool.false_ne_true
  | str a =>
    obtain ⟨t', rfl⟩ := ry
    cases x with
    | non => cases rx; exact SeqAt.EqAt.str_none a t'
    | bl b => cases rx; exact SeqAt.EqAt.str_bool a t' b
    | int b => obtain ⟨t, rfl⟩ := rx; exact SeqAt.EqAt.str_int a t' b t
    | str b => obtain ⟨t, rfl⟩ := rx; exact SeqAt.EqAt.str_str a t' b t
    | _ => exact absurd (show false = true from fx) Bool.false_ne_true
  | _ => exact absurd (show false = true from fy) Bool.false_ne_true

def eqU (x : V) (u : Value) : Bool := match u with
  | .none => eqV .non x
  | .bool b => eqV (.bl b) x
  | .int i _ => eqV (.int i) x
  | .str z _ => eqV (.str z) x
  | _ => false
theorem eqU_of {x y : V} {u : Value} (r : RelV y u) (f : flatV y = true) : eqU x u = eqV y x := by
  cases y with
  | non => cases r; rfl
  | bl b => cases r; rfl
  | int i => obtain ⟨t, rfl⟩ := r; rfl
  | str z => obtain ⟨t, rfl⟩ := r; rfl
  | _ => exact absurd (show false = true from f) Bool.false_ne_true
theorem any_eqU {x : V} : ∀ {xs : List V} {us : List Value}, Vals xs us → xs.all flatV = true → us.any (eqU x) = xs.any fun y => eqV y x
  | _, _, .nil, _ => rfl
  | y :: xs, u :: us, .cons r t, f => by
    rw [List.all_cons, Bool.and_eq_true] at f
    rw [List.any_cons, List.any_cons, eqU_of r f.1, any_eqU t f.2]
theorem mem_eqAt {A : Around} {s : Shared} {x : V} {v : Value} (rx : RelV x v) (fx : flatV x = true) : ∀ {xs : List V} {us : List Value}, Vals xs us → xs.all flatV = true → ∀ u ∈ us, SeqAt.EqAt A s u v (eqU x u)
  | _, _, .nil, _ => fun u hu => by cases hu
  | y :: xs, u :: us, .cons r t, f => fun u' hu => by
    rw [List.all_cons, Bool.and_eq_true] at f
    rcases List.mem_cons.mp hu with rfl | hu
    · rw [eqU_of r f.1]; exact eqAt_V r rx f.1 fx
    · exact mem_eqAt rx fx t f.2 u' hu
def inV (x : V) (xs : List V) : Bool := xs.any fun y => eqV y x

def rIn (K : PySem.W.Frag) (neg : Bool) : R2 := fun x y H Q => ∃ p xs, y = .ref p ∧ (SqL K H p xs ∨ SqT K H p xs) ∧ flatV x = true ∧ xs.all flatV = true ∧ Q (.bl (if neg then !inV x xs else inV x xs)) H
theorem op_in_seq : OpR X (compareOp .In) (rIn X.K false) := by
  intro pins s σ H x y v u Q I rx ry h
  obtain ⟨p, xs, rfl, hq, fx, fs, q⟩ := h
  cases ry
  rcases hq with hq | hq
  · obtain ⟨its, r, pl, hz⟩ := I.list hq
    refine SeqAt.in_listAt (eqU x) pl.isList (fun w hw => mem_eqAt rx fx r fs w (by simpa using hw)) ⟨.bl _, H, I, rfl, ?_⟩
    rw [show its.toArray.any (eqU x) = its.any (eqU x) by simp, any_eqU r fs]
    exact q
  · obtain ⟨its, r, pl, hz⟩ := I.tuple hq
    refine SeqAt.in_tupleAt (eqU x) pl (fun w hw => mem_eqAt rx fx r fs w (by simpa using hw)) ⟨.bl _, H, I, rfl, ?_⟩
    rw [show its.toArray.any (eqU x) = its.any (eqU x) by simp, any_eqU r fs]
    exact q
theorem op_notIn_seq : OpR X (compareOp .NotIn) (rIn X.K true) := by
  intro pins s σ H x y v u Q I rx ry h
  obtain ⟨p, xs, rfl, hq, fx, fs, q⟩ := h
  cases ry
  rcases hq with hq | hq
  · obtain ⟨its, r, pl, hz⟩ := I.list hq
    refine SeqAt.notIn_listAt (eqU x) pl.isList (fun w hw => mem_eqAt rx fx r fs w (by simpa using hw)) ⟨.bl _, H, I, rfl, ?_⟩
    rw [show its.toArray.any (eqU x) = its.any (eqU x) by simp, any_eqU r fs]
    exact q
  · obtain ⟨its, r, pl, hz⟩ := I.tuple hq
    refine SeqAt.notIn_tupleAt (eqU x) pl (fun w hw => mem_eqAt rx fx r fs w (by simpa using hw)) ⟨.bl _, H, I, rfl, ?_⟩
    rw [show its.toArray.any (eqU x) = its.any (eqU x) by simp, any_eqU r fs]
    exact q
theorem call_len_seq : CallR X (.builtin "len") (fun xs H Q => ∃ p ys, xs = [.ref p] ∧ (SqL X.K H p ys ∨ SqT X.K H p ys) ∧ Q (.int ys.length) H) := by
  intro pins s σ H xs us Q I r h
  obtain ⟨p, ys, rfl, hq, q⟩ := h
  obtain ⟨u, rfl, rx⟩ := vals1 r
  cases rx
  have hn := line63
  rcases hq with hq | hq
  · obtain ⟨its, r', pl, hz⟩ := I.list hq
    have hlen := r'.length
    exact Calls.call_len_list pl.isList (by simp only [List.size_toArray] <;> omega) ⟨.int ys.length, H, I.tok _, ⟨s.toks + 1, by rw [List.size_toArray, hlen]⟩, q⟩
  · obtain ⟨its, r', pl, hz⟩ := I.tuple hq
    have hlen := r'.length
    exact len_tuple pl (by simp only [List.size_toArray] <;> omega) ⟨.int ys.length, H, I.tok _, ⟨s.toks + 1, by rw [List.size_toArray, hlen]⟩, q⟩
theorem CallR.or {f : Value} {r r' : List V → Hp → VK → Prop} (h : CallR X f r) (h' : CallR X f r') : CallR X f (fun xs H Q => r xs H Q ∨ r' xs H Q) := by
  intro pins s σ H xs us Q I rs q
  rcases q with q | q
  · exact h pins s σ H xs us Q I rs q
  · exact h' pins s σ H xs us Q I rs q
theorem call_list_of : CallR X (.type "list") (fun xs H Q => ∃ p ys, xs = [.ref p] ∧ (SqL X.K H p ys ∨ SqT X.K H p ys) ∧ ∀ l, H l = none → Q (.ref l) (upd H l (.lst ys))) := by
  intro pins s σ H xs us Q I r h
  obtain ⟨p, ys, rfl, hq, q⟩ := h
  obtain ⟨u, rfl, rx⟩ := vals1 r
  cases rx
  have fin : ∀ (its : List Value), Vals ys its → ys.length ≤ sizeLine → ∀ (h' : Heap) (c' : Nat), (∀ b o', s.heap.get? b = some o' → h'.get? b = some o') →
      h'.get? s.heap.objs.size = some { cls := .type "list", dict := none, data := .seq its.toArray c', slots := #[] } → EP X pins σ Q (.ref s.heap.objs.size) { s with heap := h' } := fun its r' hz h' c' kp e =>
    ⟨.ref s.heap.objs.size, _, I.laid (t' := s.toks) kp (Nat.le_refl _) (show ObjOk X.prog X.w _ h' _ (.lst ys) from ⟨hz, its, c', r', e⟩), rfl, q _ (I.hok.fresh (Nat.le_refl _))⟩
  rcases hq with hq | hq
  · obtain ⟨its, r', pl, hz⟩ := I.list hq
    have hlen := r'.length
    obtain ⟨o, ho, hc, n, hd⟩ := pl.isList
    exact call_list_seq p (.inl rfl) ho hc hd (fun h' c' kp e => fin its r' hz h' c' kp e) (by simp only [List.size_toArray] <;> omega)
  · obtain ⟨its, r', pl, hz⟩ := I.tuple hq
    have hlen := r'.length
    obtain ⟨o, ho, hc, n, hd⟩ := pl
    exact call_list_seq p (.inr rfl) ho hc hd (fun h' c' kp e => fin its r' hz h' c' kp e) (by simp only [List.size_toArray] <;> omega)
theorem call_tuple_of : CallR X (.type "tuple") (fun xs H Q => ∃ p ys, xs = [.ref p] ∧ ((SqL X.K H p ys ∧ ∀ l, H l = none → Q (.ref l) (upd H l (.tup ys))) ∨ (SqT X.K H p ys ∧ Q (.ref p) H))) := by
  intro pins s σ H xs us Q I r h
  obtain ⟨p, ys, rfl, h⟩ := h
  obtain ⟨u, rfl, rx⟩ := vals1 r
  cases rx
  rcases h with ⟨hq, q⟩ | ⟨hq, q⟩
  · obtain ⟨its, r', pl, hz⟩ := I.list hq
    have hlen := r'.length
    refine call_tuple_list pl.isList (fun h' kp => ?_) (by simp only [List.size_toArray] <;> omega)
    have I1 : Inv X pins σ H { s with heap := h' } := I.kept (t' := s.toks) kp
    have I2 : Inv X pins σ (upd H h'.objs.size (.tup ys)) { s with heap := h'.push { cls := .type "tuple", data := .seq its.toArray } } :=
      I1.laid (t' := s.toks) (fun b o e => Heap.get?_push_of_some _ e) (Nat.le_refl _) (show ObjOk X.prog X.w _ _ _ (.tup ys) from ⟨hz, its, r', IsTup.new _ _⟩)
    exact ⟨.ref h'.objs.size, _, I2, rfl, q _ (I1.hok.fresh (Nat.le_refl _))⟩
  · obtain ⟨its, r', pl, hz⟩ := I.tuple hq
    exact call_tuple_same pl ⟨.ref p, H, I, rfl, q⟩



def tyV (K : PySem.W.Frag) (T : String) (x : V) (H : Hp) : Prop := match x with
  | .str _ => T = "str"
  | .int _ => T = "int"
  | .ref p => (T = "list" ∧ ∃ xs, SqL K H p xs) ∨ (T = "tuple" ∧ ∃ o, K.lookup p = some o ∧ o.cls = .type "tuple" ∧ o.dict = none) ∨
      (T = "dict" ∧ ((∃ kvs, H p = some (.dK kvs)) ∨ ∃ kvs, H p = some (.dT kvs))) ∨ (T = "set" ∧ ∃ S n, H p = some (.set S n))
  | _ => False
theorem tyV_is {pins : List (Addr × Obj)} {σ : St} {H : Hp} {s : Shared} {T : String} {x : V} {v : Value} (I : Inv X pins σ H s) (r : RelV x v) (ty : tyV X.K T x H) :
    s.TypeIs v T ∧ ∀ a, v = .ref a → ∃ ob, s.heap.get? a = some ob ∧ ob.dict = none := by
  cases x with
  | str z =>
    obtain ⟨t, rfl⟩ := r
    cases (show T = "str" from ty)
    exact ⟨typeIs_str s z t, fun _ e => nomatch e⟩
  | int i =>
    obtain ⟨t, rfl⟩ := r
    cases (show T = "int" from ty)
    exact ⟨typeIs_int s i t, fun _ e => nomatch e⟩
  | ref p =>
    cases r
    rcases ty with ⟨rfl, xs, hq⟩ | ⟨rfl, o, hk, hc, hd⟩ | ⟨rfl, hk⟩ | ⟨rfl, S, n, hk⟩
    · obtain ⟨its, _, pl, _⟩ := I.list hq
      refine ⟨pl.isList.typeIs, fun a e => ?_⟩
      cases e
      obtain ⟨o, n, e, c, hd, _⟩ := pl
      exact ⟨o, e, hd⟩
    · refine ⟨⟨o, I.kIn p o hk, hc⟩, fun a e => ?_⟩
      cases e
      exact ⟨o, I.kIn _ o hk, hd⟩
    · have z : ∃ o, s.heap.get? p = some o ∧ o.ExactDict := by
        rcases hk with ⟨kvs, hk⟩ | ⟨kvs, hk⟩
        · obtain ⟨_, _, _, _, o, _, _, e, ex, _⟩ := I.hok p _ hk
          exact ⟨o, e, ex⟩
        · obtain ⟨_, _, _, _, o, _, _, e, ex, _⟩ := I.hok p _ hk
          exact ⟨o, e, ex⟩
      obtain ⟨o, e, ex⟩ := z
      refine ⟨⟨o, e, ex.1⟩, fun a e2 => ?_⟩
      cases e2
      exact ⟨o, e, ex.2.1⟩
    · obtain ⟨o, _, _, _, e, ex, _⟩ := I.hok p _ hk
      refine ⟨⟨o, e, ex.1⟩, fun a e2 => ?_⟩
      cases e2
      exact ⟨o, e, ex.2.1⟩
  | _ => exact False.elim ty
def tBM0 (K : PySem.W.Frag) (T : String) (r : V → List V → Hp → VK → Prop) (to : TE) : TE := fun σ H Q => to σ H fun x H1 => tyV K T x H1 ∧ r x [] H1 Q
def tBM (K : PySem.W.Frag) (T : String) (r : V → List V → Hp → VK → Prop) (to : TE) (t : TA) : TE := fun σ H Q => to σ H fun x H1 => tyV K T x H1 ∧ t σ H1 fun xs H2 => r x xs H2 Q
variable {o e : Expr} {es : List Expr} {to : TE} {t : TA} {name : Str} {apos cpos : Pos} {T id : String} {r : V → List V → Hp → VK → Prop}
theorem pe_bm (pa : PlainAttrs T) (slot : Slot T name id) (hty : typeOf (.builtin id) = pure (.type "method_descriptor")) (hm : MtR X id r) (ho : PE X o to) (ha : PA X (e :: es) t)
    (hbase : attributeBase o name X.env (eval o X.env) = eval o X.env := by rfl)
    (hfew : ((backTo cpos (starEach (e :: es) X.env)).all (fun x => !x.1) && (backToKw cpos (keywordEach [] X.env)).all (fun x => x.1.isSome)
      && decide ((e :: es).length + ([] : List Keyword).length + (if ([] : List Keyword).isEmpty then 0 else 1) < 30)) = true := by rfl)
    (hline : (apos.endLine == cpos.line) = true := by rfl) (hs : starEach (e :: es) X.env = (false, eval e X.env) :: starEach es X.env := by rfl) (hplain : (backTo cpos (starEach es X.env)).any (·.1) = false := by rfl) :
    PE X (.Call (.Attribute o name apos) (e :: es) [] cpos) (tBM X.K T r to t) := by
  intro pins s σ H Q I h
  refine wpAny_Call_method_late hbase hfew hline rfl (thn (ho pins s σ H _ I h) fun v s1 ⟨x, H1, I1, r1, ty, q1⟩ => ?_)
  obtain ⟨h1, h2⟩ := tyV_is I1 r1 ty
  refine ⟨T, id, pa, slot, hty, h1, h2, ?_⟩
  have hA := ha cpos pins s1 σ H1 _ I1 q1
  rw [hs] at hA ⊢
  refine Calls.callWith_builtin (by show (false || (backTo cpos (starEach es X.env)).any (·.1)) = false; rw [hplain] <;> rfl) (Calls.evalArgs_plain ?_)
  exact thn hA fun us s2 ⟨vs, H2, I2, r2, q2⟩ => hm pins s2 σ H2 x vs v us Q I2 r1 r2 q2

end
end L2

namespace L2
open PySem PySem.Spec PyProof.Rows

def MtM (X : Cx) (id : String) (r : V → List V → Hp → VK → Prop) : Prop :=
  ∀ (pins : List (Addr × Obj)) (s : Shared) (σ : St) (H : Hp) (x : V) (xs : List V) (v : Value) (us : List Value) (Q : VK), Inv X pins σ H s → RelV x v → Vals xs us → r x xs H Q →
    wpAny (model X.prog X.w) X.A (call (.builtin id) (v :: us)) (EP X pins σ Q) X.xe s


theorem Vals.one : ∀ {x : V} {us : List Value}, Vals [x] us → ∃ u, us = [u] ∧ RelV x u
  | _, _, .cons r .nil => ⟨_, rfl, r⟩
theorem Vals.two : ∀ {x y : V} {us : List Value}, Vals [x, y] us → ∃ u v, us = [u, v] ∧ RelV x u ∧ RelV y v
  | _, _, _, .cons r (.cons q .nil) => ⟨_, _, rfl, r, q⟩
theorem Vals.zero : ∀ {us : List Value}, Vals [] us → us = []
  | _, .nil => rfl
theorem Vals.dropLast {xs : List V} {us : List Value} (h : Vals xs us) : Vals xs.dropLast us.dropLast := by
  induction h with
  | nil => exact .nil
  | cons r t ih =>
    cases t with
    | nil => exact .nil
    | cons q t' => exact .cons r ih
theorem Vals.eraseIdx : ∀ {xs : List V} {us : List Value} (i : Nat), Vals xs us → Vals (xs.eraseIdx i) (us.eraseIdx i)
  | _, _, _, .nil => .nil
  | _, _, 0, .cons _ t => t
  | _, _, i + 1, .cons r t => .cons r (Vals.eraseIdx i t)
theorem Vals.reverse {xs : List V} {us : List Value} (h : Vals xs us) : Vals xs.reverse us.reverse := by
  induction h with
  | nil => exact .nil
  | cons r t ih => rw [List.reverse_cons, List.reverse_cons]; exact Vals.append ih (.cons r .nil)
theorem Vals.rep {xs : List V} {us : List Value} (h : Vals xs us) : ∀ k : Nat, Vals (List.replicate k xs).flatten (List.replicate k us).flatten
  | 0 => .nil
  | k + 1 => by
    rw [List.replicate_succ, List.replicate_succ, List.flatten_cons, List.flatten_cons]
    exact Vals.append h (Vals.rep h k)
theorem foldl_rep (its : List Value) : ∀ (k : Nat) (acc : List Value),
    List.foldl (fun x1 x2 => x1 ++ x2) acc.toArray (List.replicate k its.toArray) = (acc ++ (List.replicate k its).flatten).toArray
  | 0, acc => by simp
  | k + 1, acc => by
    have e : acc.toArray ++ its.toArray = (acc ++ its).toArray := by simp
    have e2 : (acc ++ its) ++ (List.replicate k its).flatten = acc ++ (List.replicate (k + 1) its).flatten := by
      rw [List.replicate_succ, List.flatten_cons, List.append_assoc]
    rw [← e2, ← foldl_rep its k (acc ++ its), ← e, List.replicate_succ, List.foldl_cons]

section
variable {X : Cx} {pins : List (Addr × Obj)} {σ : St} {H : Hp} {s : Shared} {l b : Addr} {xs ys zs : List V}


theorem Inv.lset {its its' : List Value} {n : Nat} {f : Array Value → Array Value} {t' : Nat} (I : Inv X pins σ H s) (hH : H l = some (.lst xs))
    (e : s.heap.get? l = some { cls := .type "list", data := .seq its.toArray n }) (hf : f its.toArray = its'.toArray) (hv : Vals ys its') (hz : ys.length ≤ sizeLine) :
    Inv X pins σ (upd H l (.lst ys)) { s with heap := s.heap.update l (Obj.mapSeq f), toks := t' } := by
  have q := PySem.IsL.update e f
  rw [hf] at q
  refine I.write (x := l) (e := l) (by rw [hH]; exact trivial) (.inl rfl) (fun b' u hb hu => (Heap.get?_update_other s.heap (Obj.mapSeq f) (Ne.symm hb)).trans hu) ⟨_, q⟩ ?_
  exact ⟨hz, its', _, hv, q⟩
theorem Inv.lnew {its : List Value} {t' : Nat} (I : Inv X pins σ H s) (hv : Vals ys its) (hz : ys.length ≤ sizeLine) :
    Inv X pins σ (upd H s.heap.objs.size (.lst ys)) { s with heap := s.heap.push { cls := .type "list", data := .seq its.toArray }, toks := t' } :=
  I.laid (fun _ _ q => Heap.get?_push_of_some _ q) (Nat.le_refl _) ⟨hz, its, 0, hv, Heap.get?_push_size _ rfl⟩
theorem Inv.fresh (I : Inv X pins σ H s) : H s.heap.objs.size = none := I.hok.fresh (Nat.le_refl _)
theorem Inv.lstM (I : Inv X pins σ H s) (hH : H l = some (.lst xs)) : xs.length ≤ sizeLine ∧ ∃ (its : List Value) (n : Nat), Vals xs its ∧ xs.length = its.length ∧ s.heap.get? l = some { cls := .type "list", data := .seq its.toArray n } := by
  obtain ⟨z, its, n, r, e⟩ := I.hok l _ hH
  exact ⟨z, its, n, r, r.length, e⟩

theorem notLongL {n : Nat} (h : n ≤ sizeLine) : Builtin.List.listTooLong n = false := by
  unfold Builtin.List.listTooLong
  exact decide_eq_false (by omega)
end

section
variable {X : Cx}


def rAppend : V → List V → Hp → VK → Prop := fun x vs H Q => ∃ l xs y, x = .ref l ∧ vs = [y] ∧ H l = some (.lst xs) ∧ xs.length < sizeLine ∧ Q .non (upd H l (.lst (xs ++ [y])))
theorem mt_append : MtM X "list.append" rAppend := by
  intro pins s σ H x vs v us Q I rx rv h
  obtain ⟨l, xs, y, rfl, rfl, hH, hz, q⟩ := h
  cases rx
  obtain ⟨u, rfl, ru⟩ := rv.one
  obtain ⟨z, its, n, r, hl, e⟩ := I.lstM hH
  refine call_meets F.slot_list_append ⟨_, e, rfl⟩ F.entry_list_append (F.args_list_append_2 _ _) (PySem.list_append l its.toArray n u (by rw [List.size_toArray]; omega)) ⟨e, ?_⟩
  refine ⟨.non, _, I.lset (its' := its ++ [u]) hH e (by simp) (r.append (.cons ru .nil)) ?_, rfl, q⟩
  rw [List.length_append, List.length_singleton]
  omega

def rExtend : V → List V → Hp → VK → Prop := fun x vs H Q => ∃ l b xs zs, x = .ref l ∧ vs = [.ref b] ∧ H l = some (.lst xs) ∧ H b = some (.lst zs) ∧ xs.length + zs.length ≤ sizeLine ∧ Q .non (upd H l (.lst (xs ++ zs)))
theorem mt_extend : MtM X "list.extend" rExtend := by
  intro pins s σ H x vs v us Q I rx rv h
  obtain ⟨l, b, xs, zs, rfl, rfl, hH, hB, hz, q⟩ := h
  cases rx
  obtain ⟨u, rfl, ru⟩ := rv.one
  cases ru
  obtain ⟨z, its, n, r, hl, e⟩ := I.lstM hH
  obtain ⟨z2, its2, n2, r2, hl2, e2⟩ := I.lstM hB
  have hsz : its.toArray.size + its2.toArray.size ≤ sizeLine := by rw [List.size_toArray, List.size_toArray]; omega
  have hlong : ¬ (!its.toArray.isEmpty && Builtin.List.listTooLong (its.toArray.size + its2.toArray.size)) = true := by
    rw [notLongL hsz, Bool.and_false]
    exact Bool.false_ne_true
  refine call_meets F.slot_list_extend ⟨_, e, rfl⟩ F.entry_list_extend (F.args_list_extend_2 _ _)
    (AutoSeq1.list_extend_list_list_0 l its.toArray n b its2.toArray n2 hlong (by rw [List.size_toArray]; omega) (by omega)) ⟨e, e2, ?_⟩
  refine ⟨.non, _, I.lset (its' := its ++ its2) hH e (by simp) (r.append r2) ?_, rfl, q⟩
  rw [List.length_append]
  omega

def rPop : V → List V → Hp → VK → Prop := fun x vs H Q => ∃ l xs y, x = .ref l ∧ vs = [] ∧ H l = some (.lst xs) ∧ xs[xs.length - 1]? = some y ∧ Q y (upd H l (.lst xs.dropLast))
def rPopAt : V → List V → Hp → VK → Prop := fun x vs H Q => ∃ l xs i k y, x = .ref l ∧ vs = [.int i] ∧ H l = some (.lst xs) ∧ -(2 ^ 63) ≤ i ∧ i < 2 ^ 63 ∧ seqIndex? i xs.length = some k ∧ xs[k]? = some y ∧ Q y (upd H l (.lst (xs.eraseIdx k)))
def rCat : R2 := fun x y H Q => ∃ l b xs zs, x = .ref l ∧ y = .ref b ∧ H l = some (.lst xs) ∧ H b = some (.lst zs) ∧ xs.length + zs.length ≤ sizeLine ∧ ∀ p, H p = none → Q (.ref p) (upd H p (.lst (xs ++ zs)))
theorem op_cat : OpR X (binaryOp .Add) rCat := by
  intro pins s σ H x y v u Q I rx ry h
  obtain ⟨l, b, xs, zs, rfl, rfl, hH, hB, hz, q⟩ := h
  cases rx
  cases ry
  obtain ⟨z, its, n, r, hl, e⟩ := I.lstM hH
  obtain ⟨z2, its2, n2, r2, hl2, e2⟩ := I.lstM hB
  refine PySem.P.add_list e e2 ?_ (by rw [List.size_toArray, List.size_toArray]; omega)
  have ea : its.toArray ++ its2.toArray = (its ++ its2).toArray := by simp
  rw [ea]
  exact ⟨.ref _, _, I.lnew (t' := s.toks) (r.append r2) (by rw [List.length_append]; omega), rfl, q _ I.fresh⟩

def rRep : R2 := fun x y H Q => ∃ l k xs, x = .ref l ∧ y = .int k ∧ H l = some (.lst xs) ∧ -(2 ^ 63) ≤ k ∧ k < 2 ^ 63 ∧ xs.length * k.toNat ≤ sizeLine ∧
  ∀ p, H p = none → Q (.ref p) (upd H p (.lst (List.replicate k.toNat xs).flatten))
theorem len_rep {α : Type} (xs : List α) (k : Nat) : (List.replicate k xs).flatten.length = k * xs.length := by
  induction k with
  | zero => simp
  | succ k ih => rw [List.replicate_succ, List.flatten_cons, List.length_append, ih, Nat.succ_mul, Nat.add_comm]
theorem op_rep : OpR X (binaryOp .Mult) rRep := by
  intro pins s σ H x y v u Q I rx ry h
  obtain ⟨l, k, xs, rfl, rfl, hH, h1, h2, hz, q⟩ := h
  cases rx
  obtain ⟨t, rfl⟩ := ry
  obtain ⟨z, its, n, r, hl, e⟩ := I.lstM hH
  have hlen : its.toArray.size * k.toNat ≤ sizeLine := by rw [List.size_toArray, ← hl]; exact hz
  have hcap : ¬ its.toArray.size * k.toNat > (2 ^ 63 - 1) / 8 := by
    have : (sizeLine : Nat) ≤ (2 ^ 63 - 1) / 8 := by decide
    omega
  have hfit : ¬ (!Builtin.List.listFitsIndex k) = true := by
    rw [fitsIndex_both h1 h2]
    exact Bool.false_ne_true
  have hlong : ¬ Builtin.List.listTooLong (its.toArray.size * k.toNat) = true := by
    rw [notLongL hlen]
    exact Bool.false_ne_true
  have hnew : List.foldl (fun x1 x2 => x1 ++ x2) #[] (List.replicate (if its.toArray.isEmpty = true then 0 else k.toNat) its.toArray) = (List.replicate k.toNat its).flatten.toArray := by
    have f0 : ∀ m : Nat, List.foldl (fun x1 x2 => x1 ++ x2) #[] (List.replicate m its.toArray) = (List.replicate m its).flatten.toArray := fun m => by
      have := foldl_rep its m []
      rw [List.nil_append] at this
      exact this
    rw [f0]
    cases its with
    | nil => simp
    | cons a r' => rw [if_neg (by simp)]
  refine wpAny_binaryOp_repeat_ref (T := "list") (U := "int") (by decide) ⟨_, e, rfl⟩ (fun s' => typeIs_int s' k t) noFill_list_mul F.fills_int_mul F.slot_int_rmul repeat_list F.slot_int_index.lookup
    (call_meets F.slot_int_rmul (typeIs_int s k t) F.entry_int_rmul (F.args_int_rmul_2 _ _) (int___rmul___int_list k t l its.toArray n)
      ⟨e, rfl, ⟨_, e, rfl⟩, call_meets F.slot_list_mul ⟨_, e, rfl⟩ F.entry_list_mul (F.args_list_mul_2 _ _) (AutoListH.list___mul___list_int_3 l its.toArray n k t hfit hcap hlong) ⟨e, ?_⟩⟩)
  rw [hnew]
  exact ⟨.ref _, _, I.lnew (t' := s.toks) (r.rep k.toNat) (by rw [len_rep, Nat.mul_comm]; exact hz), rfl, q _ I.fresh⟩


end


section
variable {prog : Program} {w : World} {A : Around} {E : Value → Shared → Prop} {s : Shared}
end

section
variable {X : Cx}

end
end L2

namespace Att
open PySem PySem.W PySem.Calls PyProof.Rows


theorem ints_of_wellAll {P : Params} {h : Heap} : ∀ (ns : List Int) (vs : List Value), WellAll P h vs (ns.map WData.int) → IntsAre vs ns := by
  intro ns
  induction ns with
  | nil =>
    intro vs w
    rw [List.map_nil] at w
    cases w
    exact .nil
  | cons n ns ih =>
    intro vs w
    rw [List.map_cons] at w
    cases w with
    | cons a b =>
      cases a
      exact .cons _ _ (ih _ b)

theorem script_of {l : OpenLaw} {n : Nat} (hn : l.most = some n) {P : Params} {h : Heap} {args : List WData} {vals : List Value}
    (hpre : l.row.toRowW.claim.pre args = true) (hwl : WellAll P h vals args) :
    ∃ a vs ns, vals = [Value.ref a] ∧ args = [WData.list (ns.map WData.int)] ∧ h.get? a = some { cls := .type "list", data := .seq vs.toArray } ∧ IntsAre vs ns ∧ ns.length ≤ n := by
  have hsh : WShape.hasAll [] args [.list .int] = true := (pre_splitW hpre).1
  have hc : l.pre.holds [] { args := args } = true := (pre_splitW hpre).2
  obtain ⟨d, r, rfl, h1, h2⟩ := hasAllW_cons hsh
  obtain rfl := hasAllW_nil h2
  obtain ⟨xs, rfl, h3⟩ := hasW_list h1
  obtain ⟨ns, rfl⟩ := items_int h3
  have hlen : ns.length ≤ n := by
    unfold OpenLaw.pre at hc
    have h4 : (WTm.not (.lt (.lit (.int (n : Int))) (.len (.arg 0)))).holds [] { args := [.list (ns.map .int)] } = true := by
      have h4 := (holds_andW hc).1
      rw [hn] at h4
      exact h4
    have h5 := condW_of h4 (w_not (w_lt w_lit (w_len_list (w_arg rfl))))
    rw [List.length_map] at h5
    refine Nat.le_of_not_lt fun q => ?_
    have q' : (n : Int) < ((ns.length : Nat) : Int) := by omega
    first
      | (rw [decide_eq_true q'] at h5; exact absurd h5 (by decide))
      | (simp at h5; omega)
  cases hwl with
  | cons w1 w2 =>
    cases w2
    cases w1 with
    | list ho hall => exact ⟨_, _, ns, rfl, rfl, ho, ints_of_wellAll ns _ hall, hlen⟩

theorem post_true (l : OpenLaw) (args : List WData) : l.row.toRowW.claim.post args (.bool true) args = true :=
  postW_of (r := l.row.toRowW) (X := (true == true))
    (show WShape.has [] (.bool true) .bool = true by first | rfl | decide | simp [WShape.has, WShape.arms, WShape.armsAll])
    (show (WTm.eq .res (.lit (.bool true))).value [] { args := args, res := some (.bool true), after := args } = some (.bool (true == true)) from w_eq_bool (w_res rfl) w_lit) rfl


theorem attach_call {l : OpenLaw} {n : Nat} {q : Program} {loose : List Str} {XP : (Str → Option Value) → Heap → Prop} {YP : World → Heap → Prop} {d : DefRec}
    (hn : l.most = some n) (hdf : d.params.defaults = [])
    (call : ∀ (w : World) (s₀ s₁ : Shared) (mg mb : Str → Option Value) (fa : Addr) (o : Obj) (pm cd doc : Value) (a : Addr) (vs : List Value) (ns : List Int),
      Ground q loose [] XP w s₀ mg mb s₁.heap → YP w s₁.heap →
      s₁.heap.get? fa = some o → o.data = .func (docDef d.name d.params d.body d.scope pm cd doc) → s₁.heap.CodeRec cd d.name → mg d.name = some (.ref fa) →
      s₁.heap.get? a = some { cls := .type "list", data := .seq vs.toArray } → IntsAre vs ns → ns.length ≤ n → s₁.gens = #[] →
      codeAny (model l.prog w) callerA (.call (.ref fa) ⟨[.ref a], []⟩) (fun r s' => r = .ok (.ret (.bool true)) ∧ OldK s₁.heap s'.heap ∧ s'.os = s₁.os ∧ AllBare s'.gens) s₁) :
    WalkO q loose XP YP l.row.toRowW d [] (fun f vs => PySem.call f vs) := by
  intro w s₀ s₁ mg mb G Y fa o pm cd doc dV kV ho hd hcd hD hmg hg args vals as hpre hlay hrd hwl hlo
  obtain rfl : dV = .none := Dflts.none hD hdf
  obtain rfl : kV = .none := Dflts.noKw hD
  obtain ⟨a, vs, ns, rfl, rfl, hobj, hints, hlen⟩ := script_of hn hpre hwl
  refine enter_call (codeAny_mono (call w s₀ s₁ mg mb fa o pm cd doc a vs ns G Y ho (fd_plain hd) hcd hmg hobj hints hlen hg) fun r s' hq => ?_)
  obtain ⟨rfl, h2, h3, h4⟩ := hq
  exact ⟨.inl ⟨.bool true, .bool true, [], rfl, fun _ => rfl, .bool true, post_true l _, fun _ => ⟨List.Pairwise.nil, fun _ hm => (nomatch hm)⟩⟩, h2, h3, h4⟩


section
variable {prog : Program} {w : World} {A : Around} {E : Value → Shared → Prop} {s : Shared} {K : Frag}


end
end Att

namespace L2
open PySem PySem.Spec PyProof.Rows

theorem vals_ints : ∀ {vs : List Value} {ns : List Int}, IntsAre vs ns → Vals (ns.map V.int) vs
  | _, _, .nil => .nil
  | _, _, .cons n t h => .cons ⟨t, rfl⟩ (vals_ints h)


end L2

namespace L2
open PySem PySem.Spec PyProof.Rows

end L2




namespace L2
open PySem PySem.Spec PyProof.Rows



def defArgs (s : Stmt) : Arguments := match s with
  | .FunctionDef _ a _ _ _ _ _ _ _ _ => a
  | _ => { posonlyargs := [], args := [], vararg := none, kwonlyargs := [], kw_defaults := [], kwarg := none, defaults := [] }
def defBody (s : Stmt) : List Stmt := match s with
  | .FunctionDef _ _ b _ _ _ _ _ _ _ => b
  | _ => []
def defScope (s : Stmt) : Scope := match s with
  | .FunctionDef _ _ _ _ _ _ sc _ _ _ => sc
  | _ => { kind := .function, names := [], isGenerator := false, isCoroutine := false }


abbrev CX0 : CXT := fun _ _ _ _ _ _ => False
abbrev E0 : XK := fun _ _ _ => False
structure Fun (K : PySem.W.Frag) (x qual : Str) (st : Stmt) (f : Addr) (fd : FuncData) : Prop where
  ex : ∃ (oc : Value) (od : Option Addr) (kV doc pm : Value) (an : Option Addr) (cdv ct : Value) (osl : Array (Option Value)),
    fd = PySem.W.fnOf x qual (defArgs st) (defBody st) (defScope st) .none kV doc pm an cdv ct ∧ K.lookup f = some ⟨oc, od, .func fd, osl⟩ ∧ PySem.W.codeIn K cdv qual = true
  kp : PySem.W.keepIn K (.ref f) = true
section
variable {P : Program} {w : World} {K : PySem.W.Frag} {mg : Str → Option Value} {base : Heap}

theorem Fun.ok {x qual : Str} {st : Stmt} {f : Addr} {fd : FuncData} {N ps : List Str} {k : Nat} {sp : Sp} (F : Fun K x qual st f fd) (S : FnScope N ps (defScope st)) (len : ∀ vs H Q E, sp vs H Q E → vs.length = ps.length)
    (hbody : ∀ (cdv : Value) (A : Around) (outer : List Env) (s : Shared) (H : Hp) (vs : List V) (Q : VK) (E : XK), Room k (A.deeper (envOfC qual (defScope st) s.heap.objs.size f cdv)) → sp vs H Q E →
      ∃ t, PSs (cxOf CX0 P w K mg base N qual (defScope st) f cdv A outer s H E).nox (defBody st) t ∧ t { nx := fun _ H' => Q .non H', rt := Q } (start N vs) H) : FnOk P w K mg base CX0 (k + 1) f fd ps sp := by
  obtain ⟨oc, od, kV, doc, pm, an, cdv, ct, osl, rfl, lk, hcd⟩ := F.ex
  refine fn_of lk hcd S len fun A outer s H vs Q E hr hsp => ?_
  obtain ⟨t, h, q⟩ := hbody cdv A outer s H vs Q E hr hsp
  exact ⟨t, h.nox, q⟩

theorem Fun.binds {x qual : Str} {st : Stmt} {f : Addr} {fd : FuncData} {ps : List Str} (F : Fun K x qual st f fd)
    (h : ∀ (kV doc pm : Value) (an : Option Addr) (cdv ct : Value) (us : List Value), us.length = ps.length → bindArgs (PySem.W.fnOf x qual (defArgs st) (defBody st) (defScope st) .none kV doc pm an cdv ct) ⟨us, []⟩ = pure (ps.zip us)) : Binds K fd ps [] := by
  obtain ⟨oc, od, kV, doc, pm, an, cdv, ct, osl, rfl, lk, hcd⟩ := F.ex
  exact .all (h kV doc pm an cdv ct)
theorem fun_mk {x qual : Str} {st : Stmt} {f : Addr} {oc : Value} {od an : Option Addr} {osl : Array (Option Value)} {kV doc pm cdv ct : Value} (l : K.lookup f = some ⟨oc, od, .func (PySem.W.fnOf x qual (defArgs st) (defBody st) (defScope st) .none kV doc pm an cdv ct), osl⟩)
    (c : PySem.W.codeIn K cdv qual = true) (k : PySem.W.keepIn K (.ref f) = true) : Fun K x qual st f (PySem.W.fnOf x qual (defArgs st) (defBody st) (defScope st) .none kV doc pm an cdv ct) := ⟨⟨oc, od, kV, doc, pm, an, cdv, ct, osl, rfl, l, c⟩, k⟩
end
section
variable {X : Cx}
theorem pv (i : Nat) {x : Str} {pos : Pos} (hN : X.N[i]? = some x := by rfl) (hv : Vis X.env.scope x := by first | exact Or.inl rfl | exact Or.inr (Or.inl rfl) | exact Or.inr (Or.inr rfl)) (hd : (x == ("__debug__" : Str)) = false := by decide)
    (hcd : (x == ("__classdict__" : Str)) = false := by decide) : PE X (.Name x pos) (tVar i) := pe_var hN hv hd hcd
end


theorem ite2 {c A B : Prop} [Decidable c] (h1 : c → A) (h2 : ¬ c → B) : if c then A else B := by
  by_cases h : c
  · rw [if_pos h]
    exact h1 h
  · rw [if_neg h]
    exact h2 h
def Same (H H' : Hp) : Prop := ∀ b o, H b = some o → H' b = some o
theorem Same.refl (H : Hp) : Same H H := fun _ _ h => h
theorem Same.trans {H H1 H2 : Hp} (a : Same H H1) (b : Same H1 H2) : Same H H2 := fun c o h => b c o (a c o h)
theorem Same.free {H H' : Hp} (e : Same H H') {l : Addr} (h : H' l = Option.none) : H l = Option.none := by
  cases q : H l with
  | none => rfl
  | some o =>
    rw [e l o q] at h
    cases h
theorem Same.seq {K : PySem.W.Frag} {H H' : Hp} {a : Addr} {xs : List V} (e : Same H H') (h : SqL K H a xs) : SqL K H' a xs := by
  rcases h with (h | ⟨o, h⟩) | h
  · exact .inl (.inl (e _ _ h))
  · exact .inl (.inr ⟨o, e _ _ h⟩)
  · exact .inr h

end L2


set_option Elab.async false
set_option linter.all false
set_option maxRecDepth 100000
set_option maxHeartbeats 1000000
namespace L2
open PySem PySem.Spec PyProof.Rows


theorem closure_in {env : Env} : ∀ (names : List (Str × NameKind)) (cs0 : List (Str × Addr)), (∀ y ∈ names, y.2 = .free → ∃ c, env.cells.lookup y.1 = some c) →
    ∃ cl, (forIn names cs0 (fun (x : Str × NameKind) r => (do
      match x with
      | (name, kind) => if (kind == NameKind.free) = true then do let a ← cellOf env name; pure (ForInStep.yield ((name, a) :: r)) else pure (ForInStep.yield r)) : _ → _ → Sem (ForInStep (List (Str × Addr))))) = pure cl ∧
      (∀ p ∈ cl, p ∈ cs0 ∨ env.cells.lookup p.1 = some p.2) ∧ (∀ p ∈ cs0, p ∈ cl) ∧ (∀ y ∈ names, y.2 = .free → ∃ c, (y.1, c) ∈ cl)
  | [], cs0, _ => ⟨cs0, rfl, fun p h => .inl h, fun p h => h, fun y h => by cases h⟩
  | (n, k) :: r, cs0, h => by
    by_cases hk : k = .free
    · subst hk
      obtain ⟨c, hc⟩ := h (n, .free) (.head _) rfl
      obtain ⟨cl, e, h1, h2, h3⟩ := closure_in r ((n, c) :: cs0) fun y hy => h y (.tail _ hy)
      refine ⟨cl, ?_, fun p hp => ?_, fun p hp => h2 p (.tail _ hp), fun y hy hf => ?_⟩
      · rw [List.forIn_cons]
        have e1 : cellOf env n = pure c := by unfold cellOf; rw [hc]
        simp only [beq_self_eq_true, if_true, e1, pure_bind]
        exact e
      · rcases h1 p hp with q | q
        · rcases List.mem_cons.mp q with q | q
          · subst q; exact .inr hc
          · exact .inl q
        · exact .inr q
      · rcases List.mem_cons.mp hy with q | q
        · subst q; exact ⟨c, h2 _ (.head _)⟩
        · exact h3 y q hf
    · obtain ⟨cl, e, h1, h2, h3⟩ := closure_in r cs0 fun y hy => h y (.tail _ hy)
      refine ⟨cl, ?_, h1, h2, fun y hy hf => ?_⟩
      · rw [List.forIn_cons]
        have e1 : (k == NameKind.free) = false := by cases k <;> first | rfl | exact absurd rfl hk
        simp only [e1, Bool.false_eq_true, if_false, pure_bind]
        exact e
      · rcases List.mem_cons.mp hy with q | q
        · subst q; exact absurd hf hk
        · exact h3 y q hf
theorem closure_of {env : Env} {scope : Scope} (h : ∀ y ∈ scope.names, y.2 = .free → ∃ c, env.cells.lookup y.1 = some c) :
    ∃ cl, closureFor scope env = pure cl ∧ (∀ x c, cl.lookup x = some c → env.cells.lookup x = some c) ∧ (∀ y ∈ scope.names, y.2 = .free → ∃ c, cl.lookup y.1 = some c ∧ env.cells.lookup y.1 = some c) := by
  obtain ⟨cl, e, h1, h2, h3⟩ := closure_in (env := env) scope.names [] h
  have up : ∀ x c, cl.lookup x = some c → env.cells.lookup x = some c := fun x c q => by
    rcases h1 _ (PySem.mem_of_lookup q) with z | z
    · cases z
    · exact z
  refine ⟨cl, ?_, up, fun y hy hf => ?_⟩
  · unfold closureFor
    simp only [bind_pure_comp] at e ⊢
    rw [e]
    exact pure_bind _ _
  · obtain ⟨c, hc⟩ := h3 y hy hf
    cases q : cl.lookup y.1 with
    | none => exact absurd (List.lookup_eq_none_iff.mp q _ hc) (by simp)
    | some c' => exact ⟨c', rfl, up _ _ q⟩


def compOk (around scope : Scope) : Bool :=
  scope.kind == .function && around.kind == .function && scope.names.all fun y => match y.2 with
    | .local => scope.names.lookup y.1 == some .local
    | .cell => false
    | .free => (scope.names.lookup y.1 == some .free) && (around.names.lookup y.1 == some .cell || around.names.lookup y.1 == some .free)
    | _ => true
theorem compOk_kind {a s : Scope} (h : compOk a s = true) : s.kind = .function := by
  simp only [compOk, Bool.and_eq_true, beq_iff_eq] at h; exact h.1.1
theorem compOk_at {a s : Scope} (h : compOk a s = true) {y : Str × NameKind} (hy : y ∈ s.names) : (match y.2 with
    | .local => s.names.lookup y.1 == some .local
    | .cell => false
    | .free => (s.names.lookup y.1 == some .free) && (a.names.lookup y.1 == some .cell || a.names.lookup y.1 == some .free)
    | _ => true) = true := by
  simp only [compOk, Bool.and_eq_true] at h
  exact List.all_eq_true.mp h.2 y hy
theorem compOk_cell {a s : Scope} (h : compOk a s = true) : ∀ y ∈ s.names, y.2 ≠ .cell := fun y hy e => by
  have q := compOk_at h hy
  rw [e] at q
  cases q
theorem compOk_free {a s : Scope} (h : compOk a s = true) : ∀ y ∈ s.names, y.2 = .free → a.names.lookup y.1 = some .cell ∨ a.names.lookup y.1 = some .free := fun y hy e => by
  have q := compOk_at h hy
  rw [e] at q
  simp only [Bool.and_eq_true, Bool.or_eq_true, beq_iff_eq] at q
  exact q.2
theorem lookup_relabel_inv {env : Env} : ∀ {names : List (Str × NameKind)} {x : Str} {k : NameKind}, (names.map fun (n, k) => if (k == NameKind.free && env.scope.kind == .function && env.kindOf n == some .cell) then (n, NameKind.cell) else (n, k)).lookup x = some k →
    ∃ k', names.lookup x = some k' ∧ (k = k' ∨ (k' = .free ∧ k = .cell))
  | [], _, _, h => by simp at h
  | (n, k0) :: r, x, k, h => by
    by_cases hx : x = n
    · subst hx
      refine ⟨k0, by simp, ?_⟩
      simp only [List.map_cons] at h
      split at h
      · rename_i hc
        simp only [Bool.and_eq_true, beq_iff_eq] at hc
        simp only [List.lookup_cons_self, Option.some.injEq] at h
        exact .inr ⟨hc.1.1, h.symm⟩
      · simp only [List.lookup_cons_self, Option.some.injEq] at h
        exact .inl h.symm
    · have hb : (x == n) = false := by simpa using hx
      simp only [List.map_cons] at h
      have e2 : ∀ k1, ((n, k1) :: r).lookup x = r.lookup x := fun k1 => by simp [List.lookup_cons, hb]
      split at h <;> (simp only [List.lookup_cons, hb] at h; obtain ⟨k', h1, h2⟩ := lookup_relabel_inv h; exact ⟨k', by rw [e2]; exact h1, h2⟩)


def compCx (X : Cx) (Nc : List Str) (scope : Scope) (cl : List (Str × Addr)) (C : Addr) (s2 : Shared) (H2 : Hp) (fp : List Addr) : Cx where
  prog := X.prog
  w := X.w
  K := X.K
  mg := X.mg
  base := X.base
  A := X.A
  N := Nc
  s₀ := s2
  H₀ := H2
  env := compEnvC scope cl C X.env
  outer := X.stack
  stack := X.stack
  ex := fp
  fn := fun _ => false
  calm := X.calm
  pn := []
  xe := fun _ _ => False

def iniC (js : List (Option Nat)) (σ : St) : St := js.map fun j => match j with
  | none => none
  | some i => (σ[i]?).join

def takesC (N Nc : List Str) (scope : Scope) : List (Option Nat) → Nat → Bool
  | [], i => i == Nc.length
  | none :: r, i => takesC N Nc scope r (i + 1)
  | some j :: r, i => (match Nc[i]?, N[j]? with
    | some x, some y => x == y && scope.names.lookup x == some .free
    | _, _ => false) && takesC N Nc scope r (i + 1)
theorem takesC_len {N Nc : List Str} {scope : Scope} : ∀ {js : List (Option Nat)} {i : Nat}, takesC N Nc scope js i = true → i + js.length = Nc.length
  | [], i, h => by simpa [takesC] using h
  | none :: r, i, h => by
    have := takesC_len (js := r) (i := i + 1) (by simpa [takesC] using h)
    simp only [List.length_cons]; omega
  | some j :: r, i, h => by
    simp only [takesC, Bool.and_eq_true] at h
    have := takesC_len (js := r) (i := i + 1) h.2
    simp only [List.length_cons]; omega
theorem takesC_at {N Nc : List Str} {scope : Scope} : ∀ {js : List (Option Nat)} {i k j : Nat}, takesC N Nc scope js i = true → js[k]? = some (some j) → ∃ x, Nc[i + k]? = some x ∧ N[j]? = some x ∧ scope.names.lookup x = some .free
  | [], i, k, j, h, e => by simp at e
  | none :: r, i, 0, j, h, e => by simp at e
  | none :: r, i, k + 1, j, h, e => by
    obtain ⟨x, h1, h2, h3⟩ := takesC_at (js := r) (i := i + 1) (k := k) (j := j) (by simpa [takesC] using h) (by simpa using e)
    exact ⟨x, by rw [← h1]; congr 1; omega, h2, h3⟩
  | some j0 :: r, i, 0, j, h, e => by
    simp only [takesC, Bool.and_eq_true] at h
    simp only [List.getElem?_cons_zero, Option.some.injEq] at e
    subst e
    cases e1 : Nc[i]? with
    | none => rw [e1] at h; simp at h
    | some x =>
      cases e2 : N[j0]? with
      | none => rw [e1, e2] at h; simp at h
      | some y =>
        rw [e1, e2] at h
        simp only [Bool.and_eq_true, beq_iff_eq] at h
        exact ⟨x, by simpa using e1, by rw [h.1.1], h.1.2⟩
  | some j0 :: r, i, k + 1, j, h, e => by
    simp only [takesC, Bool.and_eq_true] at h
    obtain ⟨x, h1, h2, h3⟩ := takesC_at (js := r) (i := i + 1) (k := k) (j := j) h.2 (by simpa using e)
    exact ⟨x, by rw [← h1]; congr 1; omega, h2, h3⟩

section
variable {X : Cx}
theorem lookup_mem {names : List (Str × NameKind)} {x : Str} {k : NameKind} (h : names.lookup x = some k) : (x, k) ∈ names := PySem.mem_of_lookup h


theorem codeAny_compLoop_all {prog : Program} {w : World} {A : Around} {R : Result → Shared → Prop} {s : Shared} {elt target iter : Expr} {ifs : List Expr} {scope : Scope} {pos : Pos} {it acc : Value} {env : Env} (I : Nat → Shared → Prop)
    (turn : ∀ n s, I n s → wpAny (model prog w) A (pyNext it) (fun r s₁ => match r with
      | none => R (.ok .next) s₁
      | some v => wpAny (model prog w) A (letOwnedTupleGo target it v) (fun _ s₁ => wpAny (model prog w) A (assign target env v) (fun _ s₂ =>
          wpAny (model prog w) A (forIn ifs true fun c r => if r = true then do let ok ← isTrue c env (eval c env); pure (ForInStep.yield ok) else pure (ForInStep.yield r)) (fun ok s₃ =>
            if ok = true then wpAny (model prog w) A (eval elt env) (fun x s₄ =>
              wpAny (model prog w) A (call (.builtin "list.append") [acc, x]) (fun _ s₅ => ∃ m, m < n ∧ I m s₅) (fun _ _ => False) s₄) (fun _ _ => False) s₃
            else ∃ m, m < n ∧ I m s₃) (fun _ _ => False) s₂) (fun _ _ => False) s₁) (fun _ _ => False) s₁) (fun _ _ => False) s)
    (n : Nat) (h : I n s) :
    codeAny (model prog w) A (.compLoop (.ListComp elt [⟨target, iter, ifs, 0⟩] scope pos) 0 it acc env) R s := by
  refine codeAny_loop rfl I (fun n s hI => ?_) n h
  show wpAny _ A ((compTurn (.ListComp elt [⟨target, iter, ifs, 0⟩] scope pos) 0 it acc env).onRaise (fun x => do noteFrame x env; theTreesLotGoes x)) _ _ s
  refine wpAny_noted ?_
  rw [compTurn_list]
  refine wpAny_bind (wpAny_standAt (wpAny_bind (wpAny_mono (turn n s hI) (fun r s₁ h₁ => ?_) fun _ _ h' => h'.elim)))
  cases r with
  | none => exact wpAny_pure h₁
  | some v =>
    refine wpAny_bind (wpAny_mono h₁ (fun _ s₁' h₁ => ?_) fun _ _ h' => h'.elim)
    refine wpAny_bind (wpAny_mono h₁ (fun _ s₂ h₂ => wpAny_bind (wpAny_mono h₂ (fun ok s₃ h₃ => ?_) fun _ _ h' => h'.elim)) fun _ _ h' => h'.elim)
    cases ok with
    | false => exact wpAny_pure ⟨rfl, h₃⟩
    | true =>
      exact wpAny_bind (wpAny_bind (wpAny_mono h₃ (fun x s₄ h₄ => wpAny_bind (wpAny_mono h₄ (fun _ s₅ h₅ => wpAny_pure (wpAny_pure ⟨rfl, h₅⟩)) fun _ _ h' => h'.elim)) fun _ _ h' => h'.elim))


def PIfs (X : Cx) (ifs : List Expr) (t : TT) : Prop :=
  ∀ (pins : List (Addr × Obj)) (s : Shared) (σ : St) (H : Hp) (Q : Bool → Hp → Prop), Inv X pins σ H s → t σ H Q →
    wpAny (model X.prog X.w) X.A (forIn ifs true fun c r => if r = true then do let ok ← isTrue c X.env (eval c X.env); pure (ForInStep.yield ok) else pure (ForInStep.yield r)) (TP X pins σ Q) X.xe s
def tYes : TT := fun _ H Q => Q true H
theorem pifs_nil : PIfs X [] tYes := fun pins s σ H Q I h => wpAny_tests_nil ⟨H, I, h⟩
theorem pifs_one {c : Expr} {t : TT} (h : PT X c t) : PIfs X [c] t := fun pins s σ H Q I hq => wpAny_tests_one (h pins s σ H Q I hq)


def KeepOn (L : List Nat) (σ σ' : St) : Prop := σ'.length = σ.length ∧ ∀ k, k ∉ L → σ'[k]? = σ[k]?
def OnlyG (g : TG) (L : List Nat) : Prop := ∀ v σ H (Q Q' : St → Hp → Prop), (∀ σ' H', KeepOn L σ σ' → Q σ' H' → Q' σ' H') → g v σ H Q → g v σ H Q'
def OnlyGs (g : TGs) (L : List Nat) : Prop := ∀ v σ H (Q Q' : St → Hp → Prop), (∀ σ' H', KeepOn L σ σ' → Q σ' H' → Q' σ' H') → g v σ H Q → g v σ H Q'
theorem KeepOn.refl {L : List Nat} {σ : St} : KeepOn L σ σ := ⟨rfl, fun _ _ => rfl⟩
theorem KeepOn.trans {L L' : List Nat} {a b c : St} (x : KeepOn L a b) (y : KeepOn L' b c) : KeepOn (L ++ L') a c :=
  ⟨y.1.trans x.1, fun k hk => (y.2 k fun z => hk (List.mem_append_right _ z)).trans (x.2 k fun z => hk (List.mem_append_left _ z))⟩
theorem only_name {i : Nat} : OnlyG (gName i) [i] := fun v σ H Q Q' hq h => hq _ _ ⟨by simp, fun k hk => by
  rw [List.getElem?_set_ne]
  intro z; subst z; exact hk (by simp)⟩ h
theorem only_nil : OnlyGs gNil [] := fun v σ H Q Q' hq h => ⟨h.1, hq _ _ KeepOn.refl h.2⟩
theorem only_cons {t : TG} {u : TGs} {L L' : List Nat} (h1 : OnlyG t L) (h2 : OnlyGs u L') : OnlyGs (gCons t u) (L ++ L') := fun v σ H Q Q' hq h => by
  obtain ⟨x, r, e, h⟩ := h
  exact ⟨x, r, e, h1 _ _ _ _ _ (fun σ' H' k1 q => h2 _ _ _ _ _ (fun σ2 H2 k2 q2 => hq _ _ (k1.trans k2) q2) q) h⟩
theorem only_tup {K : PySem.W.Frag} {n : Nat} {t : TGs} {L : List Nat} (h : OnlyGs t L) : OnlyG (gTup K n t) L := fun v σ H Q Q' hq q => by
  obtain ⟨a, xs, e1, e2, e3, q⟩ := q
  exact ⟨a, xs, e1, e2, e3, h _ _ _ _ _ hq q⟩


def tComp (wi : TI) (g : TG) (tt : TT) (te : TE) (js : List (Option Nat)) : TE := fun σ H Q => wi σ H fun J H1 => ∃ W : Nat → Nat → List V → Hp → Prop, (∃ m, W 0 m [] H1) ∧ ∀ i m acc H, W i m acc H →
  (J.stop i H ∧ acc.length ≤ sizeLine ∧ ∀ p, H p = none → Q (.ref p) (upd H p (.lst acc))) ∨
  (J.go i H ∧ acc.length < sizeLine ∧ ∀ x H', J.yld i H x H' → g x (iniC js σ) H' fun σ2 H2 => tt σ2 H2 fun b H3 => if b = true then te σ2 H3 fun v H4 => ∃ m', m' < m ∧ W (i + 1) m' (acc ++ [v]) H4 else ∃ m', m' < m ∧ W (i + 1) m' acc H3)


theorem sameBut_refl {C : Addr} {h : Heap} : Heap.SameBut C h h := by
  first | exact Heap.SameBut.refl | exact ⟨rfl, fun _ _ => rfl⟩

end
end L2


set_option Elab.async false
set_option linter.all false
set_option maxRecDepth 100000
set_option maxHeartbeats 1000000
namespace L2
open PySem PySem.Spec PyProof.Rows PySem.W PySem.Builtin.ObjectAttr PySem.Builtin.Getset_descriptor


def ExAt (x C : Addr) (h : Heap) : Prop := ∃ o, h.get? x = some o ∧ o.cls = .ref C

structure ExK (K : Frag) (C : Addr) : Prop where
  dk : hasDictIn K C = true
  ga : findIn K (.ref C) "__getattribute__" = some (some (.builtin "BaseException.__getattribute__"))
  gt : findIn K (.ref C) "__getattr__" = some none
  cl : findIn K (.ref C) "__class__" = some (some (.builtin "object.__class__"))
  gg : specialIn K (.builtin "object.__class__") "__get__" = some (some (.builtin "getset_descriptor.__get__"))
  tk : takesIn K (.builtin "object.__class__") = some true
  mo : mroIn K C (.type "object") = some true
  mb : mroIn K C (.type "BaseException") = some true
section
variable {K : Frag} {x C : Addr}
theorem ExAt.type {M : Model} {h : Heap} (I : ExAt x C h) : Looks M h (typeOf (.ref x)) (.ref C) := by
  obtain ⟨o, e, c⟩ := I
  exact c ▸ (Looks.ld e).andThen .now
theorem exa_find {M : Model} {h : Heap} (X : K.In h) (Z : ExK K C) : Looks M h (find (.ref x) (.ref C) "__class__") (.bind (.builtin "getset_descriptor.__get__") (.builtin "object.__class__")) := by
  have L3 := looks_takesIn (M := M) X Z.tk
  exact (looks_findIn (M := M) X Z.cl).andThen ((looks_specialIn X Z.gg).andThen
    ((show Looks M h (dataDescriptor? (some (.builtin "object.__class__")) (some (.builtin "getset_descriptor.__get__"))) (some (.builtin "getset_descriptor.__get__", .builtin "object.__class__")) from L3.andThen .now).andThen (Looks.tag .now)))
theorem exa_get {prog : Program} {w : World} {A : Around} {R : Result → Shared → Prop} {s : Shared} {tp : Value} (X : K.In s.heap) (I : ExAt x C s.heap) (Z : ExK K C) (hR : R (.ok (.ret (.ref C))) s) :
    codeAny (model prog w) A (.call (.builtin "getset_descriptor.__get__") ⟨[.builtin "object.__class__", .ref x, tp], []⟩) R s := by
  obtain ⟨hp, gn, dw, tk, os⟩ := s
  have L0 := I.type (M := model prog w)
  have L1 := looks_mroIn (M := model prog w) X Z.mo
  refine codeAny_call_builtin KF.slot_gs.plain KF.entry_gs (KF.slot_gs.check _ _ _ _ _ _ _ _ KF.type_class (KF.args_gs _ _ _) ?_)
  unfold Builtin.«getset_descriptor.__get__» descrGet; rw [dga_obj]; refine wpAny_bind (wpAny_pure ?_)
  unfold descrGetter descrCheckInstance descrNameAndClass isInstance; simp only [KF.owner_class]
  repeat lk
  refine ⟨Code.quiet_builtin _ (by decide +kernel), codeAny_builtin KF.entry_class ?_⟩; unfold Builtin.«object.__class__» shownTypeOf
  repeat lk
  exact hR
theorem exa_entry {prog : Program} {w : World} {A : Around} {E : Value → Shared → Prop} {s : Shared} {tk : Tok} {Q : Fin → Shared → Prop} (X : K.In s.heap) (I : ExAt x C s.heap) (Z : ExK K C) (hQ : Q (.done (.ret (.ref C))) s) :
    wpAny (model prog w) A (Builtin.«object.__getattribute__» ⟨[.ref x, .str "__class__" tk], []⟩) Q E s := by
  obtain ⟨hp, gn, dw, t, os⟩ := s
  have L0 := I.type (M := model prog w)
  have L2 := exa_find (M := model prog w) (x := x) X Z
  unfold Builtin.«object.__getattribute__»
  refine wpAny_bind (wpAny_pure (wpAny_bind (wpAny_pure (wpAny_bind (L0.at (wpAny_bind (L2.at ?_)))))))
  show wpAny _ _ (holding _ (call _ _) >>= ret) _ _ _
  exact wpAny_bind (wpAny_holding (wpAny_call (exa_get (s := ⟨hp, gn, dw, t, os⟩) X I Z (wpAny_pure hQ))))
theorem exa_check {M : Model} {A : Around} {E : Value → Shared → Prop} {s : Shared} {nameV : Value} {Q : Unit → Shared → Prop} (X : K.In s.heap) (I : ExAt x C s.heap) (Z : ExK K C) (hq : Q () s) :
    wpAny M A (checkBuiltinCall "BaseException.__getattribute__" ⟨[.ref x, nameV], []⟩) Q E s := by
  obtain ⟨hp, gn, dw, t, os⟩ := s
  have hk : builtinKind "BaseException.__getattribute__" = some .slot := by decide +kernel
  have hsplit : splitId "BaseException.__getattribute__" = some ("BaseException", "__getattribute__") := by decide +kernel
  have L0 := I.type (M := M)
  have L1 := looks_mroIn (M := M) X Z.mb
  have ha := F.args_bexc_ga (.ref x) nameV
  simp only [checkBuiltinCall, hk, hsplit]
  refine wpAny_bind ?_
  unfold isInstance
  refine wpAny_bind (L0.at (L1.at ?_))
  repeat (first | assumption | wp_step)
theorem exa_class {prog : Program} {w : World} {A : Around} {E : Value → Shared → Prop} {s : Shared} {Q : Option Value → Shared → Prop} (X : K.In s.heap) (I : ExAt x C s.heap) (Z : ExK K C) (hQ : Q (some (.ref C)) { s with toks := s.toks + 1 }) :
    wpAny (model prog w) A (getAttr? (.ref x) "__class__") Q E s := by
  obtain ⟨hp, gn, dw, tk, os⟩ := s
  have L0 := I.type (M := model prog w)
  have L1 := looks_findIn (M := model prog w) X Z.ga
  have L3 := looks_findIn (M := model prog w) X Z.gt
  have hb := (F.attrBase_ValueError.ga).bind (.ref x)
  unfold getAttr? getAttrBy? getAttrBy; refine wpAny_bind (wpAny_mkText (wpAny_bind (wpAny_attempt (wpAny_holding (wpAny_bind (L0.at (wpAny_bind (L1.at ?_))))))))
  show wpAny _ _ (getAttrByItsOwn _ _ _ _ _ _) _ _ _
  unfold getAttrByItsOwn hookBefore
  refine wpAny_bind (L3.at ?_)
  refine wpAny_bind (wpAny_attempt (wpAny_holding ?_))
  unfold callGetattribute
  show wpAny _ _ (boundAndCalled _ _ _) _ _ _
  unfold boundAndCalled
  rw [hb]
  refine wpAny_bind (wpAny_pure ?_)
  refine wpAny_call ?_
  refine codeAny_call_builtin F.attrBase_ValueError.ga.plain F.entry_bexc_ga (exa_check (s := ⟨hp, gn, dw, tk + 1, os⟩) X I Z (exa_entry (s := ⟨hp, gn, dw, tk + 1, os⟩) X I Z ?_))
  exact handed_on rfl (wpAny_pure hQ)
theorem exa_kit (Z : ExK K C) : KitX K (.ref x) (.ref C) (ExAt x C) where
  ty := fun _ _ _ I => I.type
  it := fun _ _ X _ => by
    obtain ⟨cdD, hcD, _⟩ := any_some Z.dk
    unfold clsIn at hcD
    split at hcD
    · rename_i c' d' cd' sl' ho
      intro A' Q' E' s' k q
      unfold isType loadHead; exact wpAny_bind (wpAny_loadPart (k _ _ (X _ _ ho)) (wpAny_pure q))
    · cases hcD
  ne := fun h tp dd its n sl X htp => by
    obtain ⟨cdD, hcD, _⟩ := any_some Z.dk
    refine Bool.eq_false_iff.mpr fun q => ?_
    have e : C = tp := Value.ref.inj (beq_iff_eq.mp q); subst e
    unfold clsIn at hcD
    split at hcD
    · rename_i c' d' cd' sl' ho
      have z := (X _ _ ho).symm.trans htp; cases z
    · cases hcD
  ca := fun X I k => exa_class X I Z k
end


def ExcO (e C : Addr) : HO := .ext (ExAt e C)

def tyIs (K : Frag) (H : Hp) (x : V) (c : Value) (b : Bool) : Prop :=
  (∃ t, TyOf K H x t ∧ kitOne K t c = some b) ∨ ∃ e C, x = .ref e ∧ H e = some (ExcO e C) ∧ ExK K C ∧ kitOne K (.ref C) c = some b

def cOf : V → Option Value
  | .ref a => some (.ref a)
  | .ty n => some (.type n)
  | _ => none
section
variable {X : Cx}
def rIsi (K : Frag) : List V → Hp → VK → Prop := fun xs H Q => ∃ x v c b, xs = [x, v] ∧ cOf v = some c ∧ tyIs K H x c b ∧ Q (.bl b) H
theorem call_isi : CallR X (.builtin "isinstance") (rIsi X.K) := by
  intro pins s σ H xs us Q I r h
  obtain ⟨x, v, c, b, rfl, hc, ht, q⟩ := h
  obtain ⟨u, u2, rfl, ru, ru2⟩ := r.two
  have e2 : u2 = c := by
    cases v with
    | ref a => have := (show u2 = Value.ref a from ru2); cases hc; exact this
    | ty n => have := (show u2 = Value.type n from ru2); cases hc; exact this
    | _ => cases hc
  subst e2
  have fin : ∀ tk, EP X pins σ Q (.bool b) { s with toks := tk } := fun tk => ⟨.bl b, H, I.tok tk, rfl, q⟩
  rcases ht with ⟨t, ty, e⟩ | ⟨e, C, rfl, hH, Z, e1⟩
  · exact isinst_ok I ru ty e fin
  · cases (show u = Value.ref e from ru)
    obtain ⟨p, _, _⟩ := (show ObjOk X.prog X.w H s.heap e (ExcO e C) from I.hok e _ hH)
    exact kia_one (exa_kit Z) I.kIn p e1 (fun z => nomatch z) fin
end
end L2


set_option Elab.async false
set_option linter.all false
set_option maxRecDepth 100000
set_option maxHeartbeats 1000000
namespace L2
open PySem PySem.Spec PyProof.Rows


theorem ObjOk.has {P : Program} {w : World} {H : Hp} {h : Heap} {a : Addr} {o : HO} (x : ObjOk P w H h a o) : ∃ u, h.get? a = some u := by
  induction o with
  | lst xs => obtain ⟨_, _, _, _, e⟩ := x; exact ⟨_, e⟩
  | tup xs => obtain ⟨_, _, _, o, e, _⟩ := x; exact ⟨_, e⟩
  | dK kvs => obtain ⟨_, _, _, _, o, _, _, e, _⟩ := x; exact ⟨_, e⟩
  | dT kvs => obtain ⟨_, _, _, _, o, _, _, e, _⟩ := x; exact ⟨_, e⟩
  | set S n => obtain ⟨o, _, _, _, e, _⟩ := x; exact ⟨_, e⟩
  | ins C dx fs => obtain ⟨_, _, _, e, _⟩ := x; exact ⟨_, e⟩
  | own y => exact x
  | xd fs => obtain ⟨_, ⟨_, _, _, e, _⟩, _⟩ := x; exact ⟨_, e⟩
  | rng lo hi => obtain ⟨_, _, _, e⟩ := x; exact ⟨_, e⟩
  | frz ob u _ => obtain ⟨e, _⟩ := x; exact ⟨_, e⟩
  | tbl ps => obtain ⟨_, e, _⟩ := x; exact ⟨_, e⟩
  | met f y => exact ⟨_, x⟩
  | ext φ => obtain ⟨_, e, _⟩ := x; exact e


structure Fly (P : Program) (w : World) (outer : List Env) (H : Hp) (s : Shared) (H' : Hp) (B : Heap) (e : Addr) (C a0 : Value) (s' : Shared) : Prop where
  os : s'.os = s.os
  bare : AllBare s'.gens
  fly : Heap.FlyingW B outer e C a0 s'.heap
  hok : HOk P w H' B
  keep : ∀ b o, s.heap.get? b = some o → H b = none → b ∉ frs outer → B.get? b = some o
  slot : ∀ b o, s.heap.get? b = some o → b ∈ frs outer → (∀ vs, o.data ≠ .fields vs) → ∃ sl, s'.heap.get? b = some { o with slots := sl }
  free : ∀ b o, s.heap.get? b = some o → H b = none → H' b = none
  there : ∀ b o, s.heap.get? b = some o → b ∉ frs outer → ∃ o', B.get? b = some o'
  tups : ∀ b xs, H b = some (.tup xs) → H' b = some (.tup xs)
  frzs : ∀ b o u, H b = some (.frz o u) → H' b = some (.frz o u)
  tbls : ∀ b ps, H b = some (.tbl ps) → ∃ more, H' b = some (.tbl (ps ++ more))
def CXE (P : Program) (w : World) : CXT := fun outer H s E ev s' => ∃ e C a0 H' B, ev = .ref e ∧ Fly P w outer H s H' B e C a0 s' ∧ E C none H'
theorem passE {P : Program} {w : World} {X : Cx} : Passes (CXE P w) X E0 := fun _ _ _ _ _ _ _ ⟨_, _, _, _, _, _, _, z⟩ => z.elim

section
variable {P : Program} {w : World} {K : PySem.W.Frag} {mg : Str → Option Value} {base : Heap} {N : List Str} {qual : Str} {scope : Scope} {f : Addr} {cd : Value} {A : Around} {outer : List Env} {s : Shared} {H : Hp} {E : XK}

theorem raise_leaves {pins : List (Addr × Obj)} {σ : St} {H1 : Hp} {s1 : Shared} {h' : Heap} {e : Addr} {C : Value} {vs : List Value} (I : Inv (cxOf (CXE P w) P w K mg base N qual scope f cd A outer s H E) pins σ H1 s1)
    (hx : Heap.MadeExcOf s1.heap h' e C vs) (hE : E C none H1) : (cxOf (CXE P w) P w K mg base N qual scope f cd A outer s H E).xe (.ref e) { s1 with heap := h' } := by
  let env := envOfC qual scope s.heap.objs.size f cd
  let B := PySem.W.hideAll s1.heap (frs (env :: outer))
  have hin : ∀ en ∈ (env :: outer), ∀ b, en.frame = some b → b ∈ frs (env :: outer) := fun en he b hb => List.mem_filterMap.mpr ⟨en, he, hb⟩
  have st : s1.heap.FunFrames base (env :: outer) := I.stack
  have loc : ∀ b, b ∈ frs (env :: outer) → b = s.heap.objs.size ∨ b ∈ frs outer := fun b hb => List.mem_cons.mp (I.stkSub b hb)
  have old : ∀ b o, s.heap.get? b = some o → b ∉ frs outer → b ∉ frs (env :: outer) := fun b o q nb hb => by
    rcases loc b hb with z | z
    · exact absurd (Heap.lt_size q) (by rw [z]; exact Nat.lt_irrefl _)
    · exact nb z
  have un : Un (frs outer) [] H H1 s.heap s1.heap := I.base
  have hokB : HOk P w H1 B := fun a o q => by
    have nf : ∀ b o, H1 b = some o → b ∉ frs (env :: outer) := fun b o z hb => by
      have := I.stkFree b hb
      rw [this] at z; cases z
    refine (I.hok a o q).stay (fun b u hb z => ?_) (fun _ z => z) (fun _ _ z => z) fun _ _ _ z => z
    rcases hb with hb | hb
    · rw [hb] at z ⊢; exact PySem.W.hideAll_get _ z (nf a o q)
    · exact PySem.W.hideAll_get _ z (nf b _ hb)
  refine wpAny_leaves_madeW (base := B) (h := s1.heap) (env := env) (outer := outer) (L := s.heap.objs.size) I.ok.frames rfl (fun b o q => PySem.W.of_hideAll _ q) (PySem.W.funFrames_hide st hin) hx fun h2 t x1 x2 x3 x4 => ?_
  refine ⟨e, C, .ref t, H1, B, rfl, ⟨I.os, I.bare, x1, hokB, fun b o q n nb => ?_, fun b o q hb hd => ?_, fun b o q n => un.free b o q n (by simp), fun b o q nb => ?_, un.tups, un.frzs, un.tbls⟩, hE⟩
  · exact PySem.W.hideAll_get _ (un.keep b o q n nb (by simp)) (old b o q nb)
  · obtain ⟨sl, z⟩ := un.slot b o q (I.ok.frf b hb) hb (by simp)
    obtain ⟨sl2, z2⟩ := x4 b _ (hx.keeps _ _ z) hd
    exact ⟨sl2, z2⟩
  · obtain ⟨o', z⟩ := un.there b o q (by simp)
    exact ⟨o', PySem.W.hideAll_get _ z (old b o q nb)⟩

theorem pass_on : Passes (CXE P w) (cxOf (CXE P w) P w K mg base N qual scope f cd A outer s H E) E := by
  intro pins σ H1 s1 ev s2 I h
  obtain ⟨e, C, a0, H', B, rfl, F, hE⟩ := h
  let env := envOfC qual scope s.heap.objs.size f cd
  have un : Un (frs outer) [] H H1 s.heap s1.heap := I.base
  have loc : ∀ b, b ∈ frs (env :: outer) → b = s.heap.objs.size ∨ b ∈ frs outer := fun b hb => List.mem_cons.mp (I.stkSub b hb)
  have old : ∀ b o, s.heap.get? b = some o → b ∉ frs outer → b ∉ frs (env :: outer) := fun b o q nb hb => by
    rcases loc b hb with z | z
    · exact absurd (Heap.lt_size q) (by rw [z]; exact Nat.lt_irrefl _)
    · exact nb z
  refine wpAny_leaves_onW (env := env) (outer := outer) (L := s.heap.objs.size) I.ok.frames rfl F.fly fun h2 x1 x2 => ?_
  refine ⟨e, C, a0, H', B, rfl, ⟨F.os.trans I.os, F.bare, x1, F.hok, fun b o q n nb => F.keep b o (un.keep b o q n nb (by simp)) (un.free b o q n (by simp)) (old b o q nb), fun b o q hb hd => ?_, fun b o q n => ?_, fun b o q nb => ?_, fun b xs z => F.tups b xs (un.tups b xs z), fun b o u z => F.frzs b o u (un.frzs b o u z), fun b ps z => ?_⟩, hE⟩
  · obtain ⟨sl, z⟩ := un.slot b o q (I.ok.frf b hb) hb (by simp)
    obtain ⟨en, he, hf⟩ := List.mem_filterMap.mp hb
    obtain ⟨sl2, z2⟩ := F.slot b _ z (List.mem_filterMap.mpr ⟨en, .tail _ he, hf⟩) hd
    obtain ⟨sl3, z3⟩ := x2 b _ z2 hd
    exact ⟨sl3, z3⟩
  · by_cases hb : b ∈ frs outer
    · have h1 : H1 b = none := un.free b o q n (by simp)
      obtain ⟨sl, z⟩ := un.slot b o q n hb (by simp)
      exact F.free b _ z h1
    · exact F.free b o (un.keep b o q n hb (by simp)) (un.free b o q n (by simp))
  · obtain ⟨o', z⟩ := un.there b o q (by simp)
    exact F.there b o' z (old b o q nb)
  · obtain ⟨m1, z1⟩ := un.tbls b ps z
    obtain ⟨m2, z2⟩ := F.tbls b _ z1
    exact ⟨m1 ++ m2, by rw [← Array.append_assoc]; exact z2⟩
end


abbrev bmV : List Value := [.type "ValueError", .type "Exception", .type "BaseException", .type "object"]
abbrev newV : String := "ValueError.__new__"
theorem own_mk {K : PySem.W.Frag} {h : Heap} {mg : Str → Option Value} {x : Str} {C : Addr} (X : K.In h) (hm : mg x = some (.ref C)) (q : PySem.W.excIn K C bmV newV = true) : OwnCls x C bmV newV mg h := by
  refine ⟨hm, ?_⟩
  unfold PySem.W.excIn at q; split at q
  · rename_i dd cd sl ho
    split at q
    · rename_i C' bm k0 k1 k2 k3 n k5 hmm hs
      simp only [Bool.and_eq_true, beq_iff_eq, Bool.not_eq_true'] at q; obtain ⟨⟨⟨⟨⟨rfl, rfl⟩, hdel⟩, ht⟩, hok⟩, hni⟩ := q
      obtain ⟨nm, bs, mro, ns, qn, hd, sn, sub, ab, col, del⟩ := cd; dsimp only at hmm hdel hok hni; subst hmm hdel
      have hsl : sl = #[k0, k1, k2, k3, some (.builtin newV), k5] := by obtain ⟨l⟩ := sl; simp only at hs; rw [hs]
      subst hsl; exact ⟨bm, ns, nm, qn, bs, hd, sn, sub, ab, col, dd, k0, k1, k2, k3, k5, _, X _ _ ho, .of_isNs (PySem.W.isNs_of_in X hok), PySem.W.nsMap_none_of_in X hok hni, PySem.W.tail_of_in X ht⟩
    · cases q
  · cases q
section
variable {X : Cx}
def tRaise (C : Addr) (E : XK) (t : TA) : TS := fun _ σ H => t σ H fun vs H1 => vs.length ≤ sizeLine ∧ E (.ref C) none H1
theorem ps_raise {x : Str} {C : Addr} {np cpos pos : Pos} {e0 : Expr} {es : List Expr} {t : TA} {E : XK} (hc : X.calm = true) (hg : Gl X x) (hm : X.mg x = some (.ref C)) (q : PySem.W.excIn X.K C bmV newV = true) (ha : PA X (e0 :: es) t)
    (hx : ∀ pins σ H s h' e vs, Inv X pins σ H s → Heap.MadeExcOf s.heap h' e (.ref C) vs → E (.ref C) none H → X.xe (.ref e) { s with heap := h' })
    (he : starEach (e0 :: es) X.env = (false, eval e0 X.env) :: starEach es X.env := by rfl) (hpl : (backTo cpos (starEach es X.env)).any (·.1) = false := by rfl) (hd : (x == ("__debug__" : Str)) = false := by decide) :
    PS X (.Raise (some (.Call (.Name x np) (e0 :: es) [] cpos)) none pos) (tRaise C E t) := by
  intro pins s σ H D I h
  obtain ⟨tl, Nn, nm, qn, bs, hdct, sn, sub, ab, col, dd, k0, k1, k2, k3, k5, mN, hC, hN, hni, T⟩ := (own_mk (x := x) I.mod.kin hm q).obj
  refine wpAny_Raise_call_subT (C := C) (nm := nm) (q := qn) (N := Nn) (bs := bs) (bm := tl) (hdct := hdct) (sn := sn) (sub := sub) (ab := ab) (col := col) (dd := dd) (k0 := k0) (k1 := k1) (k2 := k2) (k3 := k3) (k5 := k5)
    PySem.F.excBase_ValueError (mN := mN) (T.hasType PySem.F.excBase_ValueError.hasBase) (I.ok.hd hc) (by rw [he]; show (false || (backTo cpos (starEach es X.env)).any (·.1)) = false; rw [hpl]; rfl) hni (ld_glob I hg hm ⟨rfl, ?_⟩ hd)
  have h2 := ha cpos pins s σ H _ I h
  rw [he] at h2 ⊢
  exact Calls.evalArgs_plain (thn h2 fun us s2 ⟨vs, H2, I2, r, z, q2⟩ => ⟨rfl, by rw [← r.length]; exact z, I2.bk _ _ hC, hN.keeps I2.bk, T.keeps I2.bk, fun h' e hm' => hx pins σ H2 s2 h' e us I2 hm' q2⟩)
end
end L2


set_option Elab.async false
set_option linter.all false
set_option maxRecDepth 100000
set_option maxHeartbeats 1000000
namespace L2
open PySem PySem.Spec PyProof.Rows



section
variable {X : Cx}
def tCallX (sp : Sp) (E : St → XK) (t : TA) : TE := fun σ H Q => t σ H fun vs H1 => sp vs H1 Q (E σ)
end


section
variable {P : Program} {w : World} {K : PySem.W.Frag} {mg : Str → Option Value} {base : Heap}
theorem Fun.okX {x qual : Str} {st : Stmt} {f : Addr} {fd : FuncData} {N ps : List Str} {k : Nat} {sp : Sp} (F : Fun K x qual st f fd) (S : FnScope N ps (defScope st)) (len : ∀ vs H Q E, sp vs H Q E → vs.length = ps.length)
    (hbody : ∀ (cdv : Value) (A : Around) (outer : List Env) (s : Shared) (H : Hp) (vs : List V) (Q : VK) (E : XK), Room k (A.deeper (envOfC qual (defScope st) s.heap.objs.size f cdv)) → sp vs H Q E →
      ∃ t, PSs (cxOf (CXE P w) P w K mg base N qual (defScope st) f cdv A outer s H E) (defBody st) t ∧ t { nx := fun _ H' => Q .non H', rt := Q } (start N vs) H) : FnOk P w K mg base (CXE P w) (k + 1) f fd ps sp := by
  obtain ⟨oc, od, kV, doc, pm, an, cdv, ct, osl, rfl, lk, hcd⟩ := F.ex
  exact fn_of lk hcd S len fun A outer s H vs Q E hr hsp => hbody cdv A outer s H vs Q E hr hsp
end
end L2


set_option Elab.async false
set_option linter.all false
set_option maxRecDepth 100000
set_option maxHeartbeats 1000000
namespace L2
open PySem PySem.Spec PyProof.Rows PySem.W



theorem ints_of : ∀ {ns : List Int} {us : List Value}, Vals (ns.map V.int) us → ∃ xs : Array (Int × Tok), us.toArray = intItems xs ∧ xs.toList.map (·.1) = ns
  | [], _, .nil => ⟨#[], by simp [intItems], rfl⟩
  | n :: ns, _, .cons (b := u) r t => by
    obtain ⟨tk, rfl⟩ := (show ∃ t, u = Value.int n t from r)
    obtain ⟨xs, e1, e2⟩ := ints_of t
    refine ⟨#[(n, tk)] ++ xs, ?_, by simp [e2]⟩
    have : ∀ (l : List Value), (Value.int n tk :: l).toArray = #[Value.int n tk] ++ l.toArray := fun l => by simp
    rw [this, e1]
    simp [intItems]
section
variable {X : Cx}
theorem op_mulX : OpR X (binaryOp .Mult) (rI IntMulOk fun i j => .int (i * j)) := opI fun _ _ _ _ _ _ _ hc q => mul_int q hc
def rSum (K : Frag) : List V → Hp → VK → Prop := fun xs H Q => ∃ (p : Addr) (ns : List Int), xs = [.ref p] ∧ SqL K H p (ns.map V.int) ∧ Q (.int ns.sum) H
def rCount : V → List V → Hp → VK → Prop := fun x vs H Q => ∃ l xs y, x = .ref l ∧ vs = [y] ∧ H l = some (.lst xs) ∧ (∃ b, y = .bl b) ∧ (∀ z ∈ xs, ∃ b, z = .bl b) ∧ Q (.int (xs.countP fun z => decide (z = y))) H
def Itv (K : Frag) (a : Addr) (n : Nat) : It :=
  ⟨fun i H => i < n ∧ ∃ xs, SqL K H a xs ∧ xs.length = n, fun i H x H' => H' = H ∧ ∀ xs, SqL K H a xs → xs[n - 1 - i]? = some x, fun i _ => n ≤ i⟩
def iRev (K : Frag) (ta : TA) : TI := fun σ H R => ta σ H fun vs H1 => ∃ a xs, vs = [.ref a] ∧ SqL K H1 a xs ∧ R (Itv K a xs.length) H1
def PJ (X : Cx) (es : List (Sem Value)) (t : St → Hp → (Hp → Prop) → Prop) : Prop :=
  ∀ (out : Str) (pins : List (Addr × Obj)) (s : Shared) (σ : St) (H : Hp) (Q : Hp → Prop), out.length + 2000 * es.length ≤ 100000 → Inv X pins σ H s → t σ H Q →
    wpAny (model X.prog X.w) X.A (joinParts out es) (fun u s' => ∃ y tk H', u = .str y tk ∧ Inv X pins σ H' s' ∧ Q H') X.xe s
theorem pj_nil : PJ X [] (fun _ H Q => Q H) := fun out pins s σ H Q hl I h =>
  joinParts_nil ⟨out, _, H, rfl, I.tok _, h⟩ (by simp at hl; exact Nat.le_trans hl (by decide))
theorem pj_text {x : Str} {j : Nat} {pos : Pos} {es : List (Sem Value)} {t : St → Hp → (Hp → Prop) → Prop} (hx : x.length ≤ 2000) (h : PJ X es t) : PJ X (eval (.Constant (.str x) j pos) X.env :: es) t := by
  intro out pins s σ H Q hl I hq
  have hl' : (out ++ x).length + 2000 * es.length ≤ 100000 := by rw [PySem.strLen_append]; simp at hl; omega
  refine joinParts_cons (Calls.Constant_str ⟨Nat.le_trans (Nat.le_trans (Nat.le_add_right _ _) hl') (by decide), ?_⟩)
  exact h _ pins _ σ H Q hl' (I.tok _) hq

theorem log_small {i : Int} (h0 : 0 ≤ i) (h1 : i < 10 ^ 18) : i.natAbs.log2 < 1920 := by
  by_cases hz : i.natAbs = 0
  · rw [hz]; decide
  · have h3 : i.natAbs < 2 ^ 60 := by
      have : (2 : Nat) ^ 60 = 1152921504606846976 := by decide
      have h2 : (10 : Int) ^ 18 = 1000000000000000000 := by decide
      omega
    exact Nat.lt_of_lt_of_le ((Nat.log2_lt hz).mpr h3) (by decide)
theorem pj_int {e : Expr} {pos : Pos} {es : List (Sem Value)} {te : TE} {t : St → Hp → (Hp → Prop) → Prop} (he : PE X e te) (h : PJ X es t) : PJ X (eval (.FormattedValue e (-1) none pos) X.env :: es) (fun σ H Q => te σ H fun x H1 => ∃ i : Int, x = .int i ∧ (0 ≤ i ∧ i < 10 ^ 18) ∧ t σ H1 Q) := by
  intro out pins s σ H Q hl I hq
  refine joinParts_cons (FormattedValue_plain (thn (he pins s σ H _ I hq) fun u s1 ⟨x, H1, I1, r1, i, ex, ⟨h0, h1⟩, q⟩ => ?_))
  subst ex
  obtain ⟨tk, rfl⟩ := (show ∃ t, u = Value.int i t from r1)
  refine wpAny_formatField_int (log_small h0 h1) ?_
  have hx : (Str.ofString (toString i)).length ≤ 18 := toString_length_le h0 (by decide) h1
  have hl' : (out ++ Str.ofString (toString i)).length + 2000 * es.length ≤ 100000 := by rw [PySem.strLen_append]; simp at hl; omega
  refine ⟨Nat.le_trans (Nat.le_trans (Nat.le_add_right _ _) hl') (by decide), ?_⟩
  exact h _ pins _ σ H1 Q hl' (I1.tok _) q
theorem each_len (env : Env) : ∀ l : List Expr, (evalEach l env).length = l.length
  | [] => rfl
  | e :: r => by
    have : evalEach (e :: r) env = eval e env :: evalEach r env := rfl
    rw [this, List.length_cons, List.length_cons, each_len env r]
theorem pe_joined {e1 e2 : Expr} {rest : List Expr} {pos : Pos} {t : St → Hp → (Hp → Prop) → Prop} (h : PJ X (eval e1 X.env :: eval e2 X.env :: evalEach rest X.env) t) (hn : rest.length ≤ 20 := by decide) :
    PE X (.JoinedStr (e1 :: e2 :: rest) pos) (fun σ H Q => t σ H fun H1 => ∀ y, Q (.str y) H1) := by
  intro pins s σ H Q I hq
  have hle := each_len X.env rest
  refine JoinedStr_many (thn (h Str.empty pins s σ H _ (by simp only [List.length_cons, hle]; show 0 + _ ≤ _; omega) I hq) fun u s' ⟨y, tk, H', e, I', q⟩ => ?_)
  subst e
  exact ⟨.str y, H', I', ⟨tk, rfl⟩, q y⟩
end
end L2


set_option Elab.async false
set_option linter.all false
set_option maxRecDepth 100000
set_option maxHeartbeats 1000000
namespace L2
open PySem PySem.Spec PyProof.Rows PySem.W


def clsAt (mg : Str → Option Value) (x : Str) : Addr := match mg x with
  | some (.ref C) => C
  | _ => 0
def tokAt (mg : Str → Option Value) (x : Str) : Tok := match mg x with
  | some (.int _ t) => t
  | _ => default
def Callee (P : Program) (w : World) (K : Frag) (mg : Str → Option Value) (base : Heap) (x : Str) (k : Nat) (ps : List Str) (sp : Sp) : Prop :=
  ∃ f fd, mg x = some (.ref f) ∧ keepIn K (.ref f) = true ∧ Binds K fd ps [] ∧ FnOk P w K mg base (CXE P w) k f fd ps sp
section
variable {X : Cx}
theorem ps_nox {st : Stmt} {t : TS} (h : PS X.nox st t) : PS X st t := fun pins s σ H D I hw =>
  wpAny_mono (h pins s σ H D (I.wish _) hw) (fun _ _ q => q.unwish) fun _ _ z => False.elim z
theorem pe_callF {x : Str} {k : Nat} {ps : List Str} {sp : Sp} {E : XK} {e : Expr} {es : List Expr} {t : TA} {p pos : Pos} (C : Callee X.prog X.w X.K X.mg X.base x k ps sp) (hr : Room k X.A) (hg : Gl X x) (hx : Passes (CXE X.prog X.w) X E)
    (ha : PA X (e :: es) t) (hdb : (x == ("__debug__" : Str)) = false := by decide) (he : starEach (e :: es) X.env = (false, eval e X.env) :: starEach es X.env := by rfl) (hpl : (backTo pos (starEach es X.env)).any (·.1) = false := by rfl) :
    PE X (.Call (.Name x p) (e :: es) [] pos) (tCall sp [] E t) := by
  obtain ⟨f, fd, hm, hk, hb, F⟩ := C
  exact pe_call F hr hg hm hk hb .nil hx ha hdb he hpl
theorem raisesE {P : Program} {w : World} {K : Frag} {mg : Str → Option Value} {base : Heap} {N : List Str} {qual : Str} {scope : Scope} {f : Addr} {cd : Value} {A : Around} {outer : List Env} {s0 : Shared} {H0 : Hp} {E : XK} {C : Addr} :
    ∀ pins σ H s h' e vs, Inv (cxOf (CXE P w) P w K mg base N qual scope f cd A outer s0 H0 E) pins σ H s → Heap.MadeExcOf s.heap h' e (.ref C) vs → E (.ref C) none H → (cxOf (CXE P w) P w K mg base N qual scope f cd A outer s0 H0 E).xe (.ref e) { s with heap := h' } :=
  fun _ _ _ _ _ _ _ I hx hE => raise_leaves I hx hE
end
theorem bt_max : bootBuiltins "max" = some (.builtin "max") := by decide +kernel
theorem bt_min : bootBuiltins "min" = some (.builtin "min") := by decide +kernel
theorem bt_isinstance : bootBuiltins "isinstance" = some (.builtin "isinstance") := by decide +kernel
theorem bt_list : bootBuiltins "list" = some (.type "list") := by decide +kernel
theorem bt_tuple : bootBuiltins "tuple" = some (.type "tuple") := by decide +kernel
theorem bt_int : bootBuiltins "int" = some (.type "int") := by decide +kernel
theorem bt_bool : bootBuiltins "bool" = some (.type "bool") := by decide +kernel
end L2


set_option Elab.async false
set_option linter.all false
set_option maxRecDepth 100000
set_option maxHeartbeats 1000000
namespace L2
open PySem PySem.Spec PyProof.Rows PySem.W


section
variable {X : Cx} {pins : List (Addr × Obj)} {σ : St} {H : Hp} {s : Shared} {h' : Heap}

theorem Inv.turnedL {t' : Nat} {fp : List Addr} (I : Inv X pins σ H s) (k : ∀ b o, b ∉ fp → s.heap.get? b = some o → h'.get? b = some o) (hf : ∀ b ∈ fp, FpOk X pins H b) : Inv X pins σ H { s with heap := h', toks := t' } := by
  have nit : ∀ b u, H b = some u → b ∉ fp := fun b u e z => by rw [(hf b z).1] at e; cases e
  refine I.step (g' := s.gens) (d' := s.drawn) (ch := fp) (fun b hb => ?_) (fun b o _ _ hc e _ => k b o hc e) (fun b o _ _ hc e _ => ⟨o.slots, k b o hc e⟩) (fun _ _ _ _ n => n)
    (fun b o hc e => ⟨o, k b o hc e⟩) (fun _ _ e => e) (fun _ _ _ e => e) (fun b ps e => ⟨#[], by rw [e]; simp⟩) (fun m hm => ?_) (fun b u e => ?_) I.bare
  · obtain ⟨_, f1, _, f3, f4, f5⟩ := hf b hb
    exact ⟨f3, f1, f4, f5⟩
  · obtain ⟨o, es, ep, ho, r⟩ := hm
    exact ⟨o, es, ep, k _ o (fun z => (hf _ z).2.1 rfl) ho, r⟩
  · refine (I.hok b u e).stay (fun c v hc q => k c v ?_ q) (fun _ q => q) (fun _ _ q => q) fun _ _ _ q => q
    rcases hc with z | z
    · rw [z]; exact nit b u e
    · exact nit c _ z

def Itz (K : Frag) (a b : Addr) : It :=
  ⟨fun i H => ∃ xs ys x y, SqL K H a xs ∧ SqL K H b ys ∧ xs[i]? = some x ∧ ys[i]? = some y,
   fun i H v H' => ∃ p x y, H p = none ∧ v = .ref p ∧ H' = upd H p (.tup [x, y]) ∧ (∀ xs, SqL K H a xs → xs[i]? = some x) ∧ ∀ ys, SqL K H b ys → ys[i]? = some y,
   fun i H => ∃ xs ys, SqL K H a xs ∧ SqL K H b ys ∧ (xs.length ≤ i ∨ ys.length ≤ i)⟩
theorem turn_zip {P : Program} {w : World} {K : Frag} {elts : List Expr} {x1} {pos : Pos} {a b z TI TO i1 i2 : Addr} (D : ZipApart z TI TO i1 i2 a b) :
    Turn P w K (.Tuple elts x1 pos) (Itz K a b) [z, TI, TO, i1, i2] z (fun i h => IsZip h z TI TO .none ∧ IsPair h TI (.ref i1) (.ref i2) ∧ (∃ u v, IsPair h TO u v) ∧ h.IsListIter i1 a i ∧ h.IsListIter i2 b i) where
  mem := by simp
  obj := fun i h st c hc => by
    obtain ⟨q1, q2, ⟨u, v, q3⟩, ⟨o4, q4, _, d4⟩, ⟨o5, q5, _, d5⟩⟩ := st
    simp at hc
    rcases hc with rfl | rfl | rfl | rfl | rfl
    · exact ⟨_, q1, fun v z => by cases z⟩
    · exact ⟨_, q2, fun v z => by cases z⟩
    · exact ⟨_, q3, fun v z => by cases z⟩
    · exact ⟨_, q4, fun v z => by rw [d4] at z; cases z⟩
    · exact ⟨_, q5, fun v z => by rw [d5] at z; cases z⟩
  keep := fun i h h' st k => by
    obtain ⟨q1, q2, ⟨u, v, q3⟩, q4, q5⟩ := st
    exact ⟨k z (by simp) _ q1, k TI (by simp) _ q2, ⟨u, v, k TO (by simp) _ q3⟩, q4.at fun o e => k i1 (by simp) o e, q5.at fun o e => k i2 (by simp) o e⟩
  item := by
    intro X hP hw hK hc i pins s σ H E I hf st hg
    subst hP hw hK
    obtain ⟨xs, ys, x, y, qa, qb, hx, hy⟩ := hg
    obtain ⟨q1, q2, ⟨u0, v0, q3⟩, q4, q5⟩ := st
    obtain ⟨is1, r1, p1, _⟩ := I.list qa
    obtain ⟨is2, r2, p2, _⟩ := I.list qb
    obtain ⟨u, hu, ru⟩ := r1.get hx
    obtain ⟨v, hv, rv⟩ := r2.get hy
    refine wpAny_pyNext_zip_item D q1 q2 q3 q4 q5 p1.isList p2.isList (x := u) (y := v) (by simpa using hu) (by simpa using hv) fun h' a1 a2 a3 a4 a5 a6 a7 => ?_
    refine ⟨_, rfl, ?_⟩
    refine wpAny_letOwnedTupleGo_zip (s := { s with heap := h' }) a1 fun h2 b1 b2 => ?_
    have hfr : H s.heap.objs.size = none := I.hok.fresh (Nat.le_refl _)
    have I1 : Inv X pins σ (upd H s.heap.objs.size (.tup [x, y])) { s with heap := s.heap.push { cls := .type "tuple", data := .seq #[u, v] } } := by
      refine I.laid (t' := s.toks) (fun b u e => Heap.get?_push_of_some _ e) (Nat.le_refl _) ?_
      exact ⟨by show 2 ≤ sizeLine; decide, [u, v], .cons ru (.cons rv .nil), ⟨_, Heap.get?_push_size _ rfl, rfl, _, rfl⟩⟩
    have nz : ∀ c ∈ [z, TI, TO, i1, i2], c ≠ s.heap.objs.size := fun c hc e => by
      have : ∃ o, s.heap.get? c = some o := by
        simp at hc
        rcases hc with rfl | rfl | rfl | rfl | rfl
        · exact ⟨_, q1⟩
        · exact ⟨_, q2⟩
        · exact ⟨_, q3⟩
        · obtain ⟨o, q, _⟩ := q4; exact ⟨o, q⟩
        · obtain ⟨o, q, _⟩ := q5; exact ⟨o, q⟩
      obtain ⟨o, q⟩ := this
      exact absurd (Heap.lt_size q) (by rw [e]; exact Nat.lt_irrefl _)
    have hf1 : ∀ c ∈ [z, TI, TO, i1, i2], FpOk X pins (upd H s.heap.objs.size (.tup [x, y])) c := fun c hc => by
      obtain ⟨f0, f1, f2, f3, f4, f5⟩ := hf c hc
      exact ⟨by rw [upd_ne (nz c hc)]; exact f0, f1, f2, f3, f4, f5⟩
    have I2 : Inv X pins σ (upd H s.heap.objs.size (.tup [x, y])) { s with heap := h2 } := by
      refine Inv.turnedL (s := { s with heap := s.heap.push { cls := .type "tuple", data := .seq #[u, v] } }) (t' := s.toks) (fp := [z, TI, TO, i1, i2]) I1 (fun c o hc e => ?_) hf1
      simp only [List.mem_cons, List.not_mem_nil, or_false, not_or] at hc
      obtain ⟨c1, c2, c3, c4, c5⟩ := hc
      refine b2.extBut _ _ c1 ?_
      by_cases hs : c = s.heap.objs.size
      · subst hs
        have e' : (s.heap.push { cls := .type "tuple", data := .seq #[u, v] }).get? s.heap.objs.size = some _ := Heap.get?_push_size _ rfl
        have ee : o = { cls := .type "tuple", data := .seq #[u, v] } := by
          have := e.symm.trans e'
          exact Option.some.inj this
        rw [ee]; exact a5
      · have : s.heap.get? c = some o := by
          rcases Heap.get?_push_cases e with ⟨q, _⟩ | q
          · exact absurd q hs
          · exact q
        exact a7 c o c1 c3 c4 c5 this
    refine ⟨.ref s.heap.objs.size, _, I2, rfl, ⟨_, x, y, hfr, rfl, rfl, fun xs' q' => ?_, fun ys' q' => ?_⟩, ⟨b1, ?_, ⟨u, v, ?_⟩, ?_, ?_⟩, fun c hc => (hf1 c hc).1⟩
    · rw [I.list_inj q' qa]; exact hx
    · rw [I.list_inj q' qb]; exact hy
    · exact b2.extBut _ _ D.TIz (a7 _ _ D.TIz D.TITO D.TIi1 D.TIi2 q2)
    · exact b2.extBut _ _ D.TOz a2
    · exact a3.extBut b2.extBut D.i1z
    · exact a4.extBut b2.extBut D.i2z
  done := by
    intro X hP hw hK hc i pins s σ H E I hf st hg
    subst hP hw hK
    obtain ⟨xs, ys, qa, qb, hx⟩ := hg
    obtain ⟨q1, q2, ⟨u0, v0, q3⟩, q4, q5⟩ := st
    obtain ⟨is1, r1, p1, _⟩ := I.list qa
    obtain ⟨is2, r2, p2, _⟩ := I.list qb
    refine wpAny_pyNext_zip_end (I.ok.hd hc) D q1 q2 q3 q4 q5 p1.isList p2.isList ?_ fun h' k => ⟨rfl, I.turnedL (t' := s.toks) (fp := [z, TI, TO, i1, i2]) (fun c o hc e => ?_) hf⟩
    · rcases hx with hx | hx
      · left; simp; rw [← r1.length]; exact hx
      · right; simp; rw [← r2.length]; exact hx
    · simp only [List.mem_cons, List.not_mem_nil, or_false, not_or] at hc
      obtain ⟨c1, c2, c3, c4, c5⟩ := hc
      exact k c o c1 c3 c4 c5 e
  self := fun _ _ _ _ _ st h => wpAny_pyIter_zip st.1 h
theorem zapart (n a b : Nat) (h1 : a < n) (h2 : b < n) : ZipApart (n + 4) (n + 2) (n + 3) n (n + 1) a b := by
  constructor <;> (show ¬ ((_ : Nat) = _); omega)
def iZip (K : Frag) (ta : TA) : TI := fun σ H R => ta σ H fun vs H1 => ∃ a b xs ys, vs = [.ref a, .ref b] ∧ SqL K H1 a xs ∧ SqL K H1 b ys ∧ R (Itz K a b) H1
theorem boot_zip' : bootBuiltins "zip" = some (.type "zip") := by decide +kernel
theorem pi_zip {elts : List Expr} {x1} {tp : Pos} {e1 e2 : Expr} {ta : TA} {p pos : Pos} (hg : Gl X "zip") (hm : X.mg "zip" = none) (ha : PA X [e1, e2] ta) (he : starEach [e1, e2] X.env = (false, eval e1 X.env) :: starEach [e2] X.env := by rfl) (hpl : (backTo pos (starEach [e2] X.env)).any (·.1) = false := by rfl) :
    PI X (.Tuple elts x1 tp) (.Call (.Name "zip" p) [e1, e2] [] pos) (iZip X.K ta) := by
  intro pins s σ H R I h
  refine wpAny_Call_Name_kw (ld_blt I hg hm boot_zip' ?_)
  refine PyProof.Rows.callWith_type1 (thn (ha pos pins s σ H _ I h) fun us s1 ⟨vs, H1, I1, r1, a, b, xs, ys, e1, qa, qb, q⟩ => ?_) he hpl
  subst e1
  obtain ⟨u, v, rfl, ru, rv⟩ := r1.two
  cases (show u = Value.ref a from ru)
  cases (show v = Value.ref b from rv)
  obtain ⟨is1, rr1, p1, _⟩ := I1.list qa
  obtain ⟨is2, rr2, p2, _⟩ := I1.list qb
  refine call_zip_2 p1.isList p2.isList fun h' c1 c2 c3 c4 c5 c6 c7 => ?_
  refine wpAny_pyIter_zip c1 ?_
  have l1 : a < s1.heap.objs.size := by obtain ⟨o, e, _⟩ := p1.isList; exact Heap.lt_size e
  have l2 : b < s1.heap.objs.size := by obtain ⟨o, e, _⟩ := p2.isList; exact Heap.lt_size e
  have sm : ∀ b, s1.heap.objs.size ≤ b → FpOk X pins H1 b := fun b hb => I1.fpOk hb (I1.hok.fresh hb)
  refine ⟨_, [s1.heap.objs.size + 4, s1.heap.objs.size + 2, s1.heap.objs.size + 3, s1.heap.objs.size, s1.heap.objs.size + 1], _, _, H1, rfl, I1.kept (t' := s1.toks) c7, turn_zip (a := a) (b := b) ?_, ⟨c1, c2, ⟨_, _, c3⟩, c4, c5⟩, fun c hc => ?_, q⟩
  · exact zapart _ _ _ l1 l2
  · simp at hc
    rcases hc with rfl | rfl | rfl | rfl | rfl <;> exact sm _ (by omega)
end
end L2


set_option Elab.async false
set_option linter.all false
set_option maxRecDepth 100000
set_option maxHeartbeats 1000000
namespace L2
open PySem PySem.Spec PyProof.Rows PySem.W


theorem cxK {CX : CXT} {P : Program} {w : World} {K : Frag} {mg : Str → Option Value} {base : Heap} {N : List Str} {qual : Str} {scope : Scope} {f : Addr} {cd : Value} {A : Around} {outer : List Env} {s : Shared} {H : Hp} {E : XK} :
    (cxOf CX P w K mg base N qual scope f cd A outer s H E).K = K := rfl
theorem Same.upd {H H1 : Hp} {p : Addr} {o : HO} (h : H p = none) (e : Same H H1) : Same H (upd H1 p o) := fun b u z => by
  rw [upd_ne (ne_of_none z h)]; exact e b u z
theorem Same.upd' {H H1 : Hp} {p : Addr} {o : HO} (e : Same H H1) (h : H1 p = none) : Same H (L2.upd H1 p o) := e.upd (e.free h)
theorem pg_tupK {X : Cx} {K : Frag} {es : List Expr} {pos : Pos} {k : Nat} {t : TGs} {n : Nat} (hK : X.K = K) (hc : X.calm = true) (h : PGs X es t)
    (hn : (assignEach es X.env).length = n := by rfl) (hst : (assignEach es X.env).findIdx? (·.1) = none := by rfl) : PG X (.Tuple es k pos) (gTup K n t) := hK ▸ pg_tup hc h hn hst

def LoopR (J : It) (g : TG) (tb : TS) (D : Ends) (σ : St) (H1 : Hp) : Prop := ∃ W : Nat → Nat → St → Hp → Prop, (∃ m, W 0 m σ H1) ∧ ∀ i m σ H, W i m σ H →
  (J.stop i H ∧ D.nx σ H) ∨ (J.go i H ∧ ∃ N : St → Hp → Prop, (∀ σ' H', N σ' H' → ∃ m', m' < m ∧ W (i + 1) m' σ' H') ∧ ∀ x H', J.yld i H x H' → g x σ H' fun σ2 H2 => tb { D with nx := N, ct := N, bk := D.nx } σ2 H2)
theorem tFor_eq {wi : TI} {g : TG} {tb : TS} {D : Ends} {σ : St} {H : Hp} : tFor wi g tb D σ H = wi σ H fun J H1 => LoopR J g tb D σ H1 := rfl
def WhileR (c : TT) (tb : TS) (D : Ends) (σ : St) (H : Hp) : Prop := tWhile c tb D σ H
theorem tWhile_eq {c : TT} {tb : TS} {D : Ends} {σ : St} {H : Hp} : tWhile c tb D σ H = WhileR c tb D σ H := rfl
def CompR (J : It) (g : TG) (tt : TT) (te : TE) (σ0 : St) (Q : VK) (H1 : Hp) : Prop := ∃ W : Nat → Nat → List V → Hp → Prop, (∃ m, W 0 m [] H1) ∧ ∀ i m acc H, W i m acc H →
  (J.stop i H ∧ acc.length ≤ sizeLine ∧ ∀ p, H p = none → Q (.ref p) (upd H p (.lst acc))) ∨
  (J.go i H ∧ acc.length < sizeLine ∧ ∀ x H', J.yld i H x H' → g x σ0 H' fun σ2 H2 => tt σ2 H2 fun b H3 => if b = true then te σ2 H3 fun v H4 => ∃ m', m' < m ∧ W (i + 1) m' (acc ++ [v]) H4 else ∃ m', m' < m ∧ W (i + 1) m' acc H3)
theorem tComp_eq {wi : TI} {g : TG} {tt : TT} {te : TE} {js : List (Option Nat)} {σ : St} {H : Hp} {Q : VK} : tComp wi g tt te js σ H Q = wi σ H fun J H1 => CompR J g tt te (iniC js σ) Q H1 := rfl

def CW (n : Nat) (vals : Nat → V) (H1 : Hp) (i m : Nat) (acc : List V) (H : Hp) : Prop := m = n - i ∧ i ≤ n ∧ acc = (List.range i).map vals ∧ Same H1 H
theorem CW.next {n : Nat} {vals : Nat → V} {H1 H : Hp} {i : Nat} {v : V} (hi : i < n) (hv : v = vals i) (s : Same H1 H) : ∃ m', m' < n - i ∧ CW n vals H1 (i + 1) m' ((List.range i).map vals ++ [v]) H :=
  ⟨n - (i + 1), by omega, rfl, hi, by rw [List.range_succ, List.map_append, hv]; rfl, s⟩
theorem comp_map {J : It} {n : Nat} {H1 : Hp} {g : TG} {tt : TT} {te : TE} {σ0 : St} {Q : VK} (vals : Nat → V) (hn : n < sizeLine) (hgo : ∀ i H, Same H1 H → i < n → J.go i H) (hstop : ∀ H, Same H1 H → J.stop n H)
    (hb : ∀ i x H H', i < n → Same H1 H → J.yld i H x H' → g x σ0 H' fun σ2 H2 => tt σ2 H2 fun b H3 => if b = true then te σ2 H3 fun v H4 => ∃ m', m' < n - i ∧ CW n vals H1 (i + 1) m' ((List.range i).map vals ++ [v]) H4 else ∃ m', m' < n - i ∧ CW n vals H1 (i + 1) m' ((List.range i).map vals) H3)
    (hk : ∀ l H', Same H1 H' → H' l = none → Q (.ref l) (upd H' l (.lst ((List.range n).map vals)))) :
    CompR J g tt te σ0 Q H1 := by
  refine ⟨CW n vals H1, ⟨n, rfl, Nat.zero_le _, rfl, Same.refl _⟩, ?_⟩
  rintro i m acc H ⟨rfl, hi, rfl, s⟩
  by_cases h : i < n
  · refine .inr ⟨hgo i H s h, by simpa using Nat.lt_trans h hn, fun x H' y => hb i x H H' h s y⟩
  · have e : i = n := by omega
    subst e
    exact .inl ⟨hstop H s, by simpa using Nat.le_of_lt hn, fun p hp => hk p H s hp⟩
theorem atI_at {α : Type} {xs : List α} {i : Int} {j : Nat} (h : i = (j : Int)) (hj : j < xs.length) : atI xs i = some xs[j] := by
  subst h
  unfold atI ixN
  rw [if_pos (by omega), if_pos (by omega)]
  simp
theorem atI_all {α : Type} {xs : List α} {i : Int} (C : α → Prop) (h0 : 0 ≤ i) (h1 : i < xs.length) (h : ∀ x ∈ xs, C x) : ∃ v, atI xs i = some v ∧ C v := by
  obtain ⟨j, rfl⟩ := Int.eq_ofNat_of_zero_le h0
  have hj : j < xs.length := by omega
  exact ⟨xs[j], atI_at rfl hj, h _ (List.getElem_mem hj)⟩
theorem mul_r {a b : Int} (h1 : -(2 ^ 64) < b) (h2 : b < 2 ^ 64) : IntMulOk a b := IntMulOk.of_right (intBits_le_64 h1 h2)
theorem mul_l {a b : Int} (h1 : -(2 ^ 64) < a) (h2 : a < 2 ^ 64) : IntMulOk a b := IntMulOk.of_left (intBits_le_64 h1 h2)
theorem big_mul {a b : Int} (ha : Builtin.Int.intBits a ≤ 2 ^ 20) (hb : Builtin.Int.intBits b ≤ 2 ^ 20) : IntMulOk a b := IntMulOk.of_bits ha hb
theorem cp18 : CPow 10 18 := by unfold CPow; decide
theorem cp59 : CPow 10 59 := by unfold CPow; decide
def PoolAt (H : Hp) (p : Addr) : Prop := ∃ x y : Int, H p = some (.lst [.int x, .int y]) ∧ 0 ≤ x ∧ 0 ≤ y ∧ y < 2147483647
def Exc (p : Addr) (H H' : Hp) : Prop := ∀ b o, b ≠ p → H b = some o → H' b = some o
theorem Same.exc {H H1 H2 : Hp} {p : Addr} (s : Same H H1) (h : H p = none) (e : Exc p H1 H2) : Same H H2 := fun b o z => e b o (ne_of_none z h) (s b o z)
theorem Same.toExc {H H' : Hp} {p : Addr} (s : Same H H') : Exc p H H' := fun b o _ z => s b o z
theorem Exc.upd {H : Hp} {p : Addr} {o : HO} : Exc p H (L2.upd H p o) := fun b u n z => by rw [upd_ne n]; exact z
theorem PoolAt.ne {H : Hp} {p q : Addr} (P : PoolAt H p) (h : H q = none) : q ≠ p := by
  obtain ⟨x, y, e, _⟩ := P
  exact (ne_of_none e h).symm
theorem PoolAt.same {H H' : Hp} {p : Addr} (P : PoolAt H p) (s : Same H H') : PoolAt H' p := by
  obtain ⟨x, y, e, r⟩ := P
  exact ⟨x, y, s _ _ e, r⟩
theorem PoolAt.upd {H : Hp} {p q : Addr} {o : HO} (P : PoolAt H p) (h : H q = none) : PoolAt (L2.upd H q o) p := P.same ((Same.refl H).upd h)
theorem range_getD {α β : Type} (xs : List α) (d : α) (f : α → β) (n : Nat) (h : n = xs.length) : (List.range n).map (fun j => f (xs.getD j d)) = xs.map f := by
  subst h
  refine List.ext_getElem (by simp) fun j h1 h2 => ?_
  have hj : j < xs.length := by simpa using h1
  simp [List.getD_eq_getElem?_getD, hj]
theorem tyV_list {K : Frag} {H : Hp} {p : Addr} {xs : List V} (h : H p = some (.lst xs)) : tyV K "list" (.ref p) H := .inl ⟨rfl, _, SqL.of h⟩
theorem scal_ii {i j : Int} : scal (.int i) (.int j) = true := rfl
theorem scal_bb {i j : Bool} : scal (.bl i) (.bl j) = true := rfl
theorem scal_ss {i j : Str} : scal (.str i) (.str j) = true := rfl
theorem scal_nn : scal .non .non = true := rfl
theorem scal_ni {i : Int} : scal .non (.int i) = true := rfl
theorem scal_in {i : Int} : scal (.int i) .non = true := rfl
section
variable {X : Cx}
def rLen (K : Frag) : List V → Hp → VK → Prop := fun xs H Q => ∃ p ys, xs = [.ref p] ∧ (SqL K H p ys ∨ SqT K H p ys) ∧ Q (.int ys.length) H
theorem call_lenK {K : Frag} (hK : X.K = K) : CallR X (.builtin "len") (rLen K) := by subst hK; exact call_len_seq
def rLof (K : Frag) : List V → Hp → VK → Prop := fun xs H Q => ∃ p ys, xs = [.ref p] ∧ (SqL K H p ys ∨ SqT K H p ys) ∧ ∀ l, H l = none → Q (.ref l) (upd H l (.lst ys))
theorem call_listK {K : Frag} (hK : X.K = K) : CallR X (.type "list") (rLof K) := by subst hK; exact call_list_of
def rTof (K : Frag) : List V → Hp → VK → Prop := fun xs H Q => ∃ p ys, xs = [.ref p] ∧ ((SqL K H p ys ∧ ∀ l, H l = none → Q (.ref l) (upd H l (.tup ys))) ∨ (SqT K H p ys ∧ Q (.ref p) H))
theorem call_tupK {K : Frag} (hK : X.K = K) : CallR X (.type "tuple") (rTof K) := by subst hK; exact call_tuple_of
theorem call_isiK {K : Frag} (hK : X.K = K) : CallR X (.builtin "isinstance") (rIsi K) := by subst hK; exact call_isi
end
theorem cOf_ref {a : Addr} {x : Value} : (cOf (.ref a) = some x) = (.ref a = x) := by simp [cOf]
theorem cOf_ty {n : String} {x : Value} : (cOf (.ty n) = some x) = (.type n = x) := by simp [cOf]
end L2


set_option Elab.async false
set_option linter.all false
set_option maxRecDepth 100000
set_option maxHeartbeats 1000000
namespace L2
open PySem PySem.Spec PyProof.Rows PySem.W


section
variable {X : Cx} {e st : Expr} {te ts : TE} {pos p2 : Pos}
def tRev (K : Frag) (te ts : TE) : TE := fun σ H Q => te σ H fun x H1 => ts σ H1 fun z H2 => ∃ a xs, x = .ref a ∧ z = .int (-1) ∧ SqL K H2 a xs ∧ ∀ p, H2 p = none → Q (.ref p) (upd H2 p (.lst xs.reverse))
end
end L2


set_option Elab.async false
set_option linter.all false
set_option maxRecDepth 100000
set_option maxHeartbeats 1000000
namespace L2
open PySem PySem.Spec PyProof.Rows PySem.W


theorem cut_to1 (xs : List V) : cutV xs none (some 1) = xs.take 1 := by
  unfold cutV HT.sIx
  cases xs <;> simp
def Rows (H : Hp) (l : Addr) (rs : List (List Int)) : Prop := ∃ as : List Addr, H l = some (.lst (as.map V.ref)) ∧ l ∉ as ∧ as.length = rs.length ∧ ∀ i (h1 : i < as.length) (h2 : i < rs.length), H as[i] = some (.lst (rs[i].map V.int))
theorem Rows.same {H H' : Hp} {l : Addr} {rs : List (List Int)} (R : Rows H l rs) (s : Same H H') : Rows H' l rs := by
  obtain ⟨as, e, n, hl, h⟩ := R
  exact ⟨as, s _ _ e, n, hl, fun i h1 h2 => s _ _ (h i h1 h2)⟩
theorem Rows.at {K : Frag} {H : Hp} {l : Addr} {rs : List (List Int)} (R : Rows H l rs) {i : Nat} (h : i < rs.length) : ∃ xs a, SqL K H l xs ∧ atI xs (i : Int) = some (.ref a) ∧ H a = some (.lst (rs[i].map V.int)) := by
  obtain ⟨as, e, n, hl, hh⟩ := R
  have hi : i < as.length := by omega
  refine ⟨_, as[i], SqL.of e, ?_, hh i hi h⟩
  rw [atI_at rfl (by simpa using hi)]; simp
theorem Rows.push {H : Hp} {l p : Addr} {rs : List (List Int)} {r : List Int} {as : List Addr} (e : H l = some (.lst (as.map V.ref))) (n : l ∉ as) (hl : as.length = rs.length) (h : ∀ i (h1 : i < as.length) (h2 : i < rs.length), H as[i] = some (.lst (rs[i].map V.int)))
    (hp : H p = some (.lst (r.map V.int))) (np : p ≠ l) : Rows (upd H l (.lst (as.map V.ref ++ [.ref p]))) l (rs ++ [r]) := by
  refine ⟨as ++ [p], by rw [upd_same]; simp, ?_, by simp [hl], fun i h1 h2 => ?_⟩
  · simp only [List.mem_append, List.mem_singleton, not_or]
    exact ⟨n, fun z => np z.symm⟩
  · by_cases hi : i < as.length
    · have e1 : (as ++ [p])[i] = as[i] := List.getElem_append_left hi
      have e2 : (rs ++ [r])[i] = rs[i]'(by omega) := List.getElem_append_left (by omega)
      rw [e1, e2, upd_ne]
      · exact h i hi (by omega)
      · intro z; exact n (z ▸ List.getElem_mem hi)
    · have e1 : (as ++ [p])[i] = p := by rw [List.getElem_append_right (by omega)]; simp
      have e2 : (rs ++ [r])[i] = r := by rw [List.getElem_append_right (by omega)]; simp
      rw [e1, e2, upd_ne np]; exact hp
end L2


set_option Elab.async false
set_option linter.all false
set_option maxRecDepth 100000
set_option maxHeartbeats 1000000
namespace L2
open PySem PySem.Spec PyProof.Rows PySem.W


inductive EqD (K : Frag) (H : Hp) : Nat → V → V → Bool → Prop
  | flat {n : Nat} {x y : V} (fx : flatV x = true) (fy : flatV y = true) : EqD K H n x y (eqV x y)
  | lst {n : Nat} {a b : Addr} {xs ys : List V} (e : Nat → Bool) (hx : SqL K H a xs) (hy : SqL K H b ys) (hl : xs.length = ys.length) (h : ∀ j x y, xs[j]? = some x → ys[j]? = some y → EqD K H n x y (e j)) : EqD K H (n + 1) (.ref a) (.ref b) ((List.range xs.length).all e)
  | len {n : Nat} {a b : Addr} {xs ys : List V} (hx : SqL K H a xs) (hy : SqL K H b ys) (hl : xs.length ≠ ys.length) : EqD K H (n + 1) (.ref a) (.ref b) false
  | tup {n : Nat} {a b : Addr} {xs ys : List V} (e : Nat → Bool) (hx : SqT K H a xs) (hy : SqT K H b ys) (h : ∀ j x y, xs[j]? = some x → ys[j]? = some y → EqD K H n x y (e j)) : EqD K H (n + 1) (.ref a) (.ref b) ((List.range (min xs.length ys.length)).all e && xs.length == ys.length)
theorem eqV_refl {x : V} (h : flatV x = true) : eqV x x = true := by
  cases x <;> first
    | rfl
    | (simp [eqV]; done)
    | cases h
section
variable {X : Cx} {pins : List (Addr × Obj)} {σ : St} {H : Hp} {s : Shared}
theorem eqd_refl (I : Inv X pins σ H s) {n : Nat} {x y : V} {b : Bool} (h : EqD X.K H n x y b) : x = y → b = true := by
  induction h with
  | flat fx fy => rintro rfl; exact eqV_refl fx
  | lst e hx hy hl h ih =>
    intro z
    cases z
    have := I.list_inj hx hy
    subst this
    refine List.all_eq_true.mpr fun j hj => ?_
    have hj' := List.mem_range.mp hj
    exact ih j _ _ (List.getElem?_eq_getElem hj') (List.getElem?_eq_getElem hj') rfl
  | len hx hy hl =>
    intro z
    cases z
    have := I.list_inj hx hy
    subst this
    exact absurd rfl hl
  | tup e hx hy h ih =>
    intro z
    cases z
    have := I.tuple_inj hx hy
    subst this
    rw [Nat.min_self]
    have : (List.range _).all e = true := List.all_eq_true.mpr fun j hj => by
      have hj' := List.mem_range.mp hj
      exact ih j _ _ (List.getElem?_eq_getElem hj') (List.getElem?_eq_getElem hj') rfl
    rw [this]; simp
theorem eqd_at (I : Inv X pins σ H s) {n : Nat} {x y : V} {b : Bool} (h : EqD X.K H n x y b) : ∀ (A : Around) (u v : Value), A.units + n < cLine → RelV x u → RelV y v → SeqAt.EqAt A s u v b := by
  induction h with
  | flat fx fy => intro A u v _ ru rv; exact eqAt_V ru rv fx fy
  | @lst n a b xs ys e hx hy hl h ih =>
    intro A u v hu ru rv
    have hb := eqd_refl I (.lst e hx hy hl h)
    cases ru
    cases rv
    by_cases hab : a = b
    · subst hab
      rw [hb rfl]; exact SeqAt.EqAt.same _
    · obtain ⟨is1, r1, p1, _⟩ := I.list hx
      obtain ⟨is2, r2, p2, _⟩ := I.list hy
      have e1 := r1.length
      have e2 := r2.length
      have key := SeqAt.RcAt.lists (A := A) (s := s) (e := e) p1.isList p2.isList (by simp; omega) (by omega) fun j h1 h2 => by
        have h1' : j < xs.length := by simpa [e1] using h1
        have h2' : j < ys.length := by simpa [e2] using h2
        obtain ⟨u, hu1, ru⟩ := r1.get (List.getElem?_eq_getElem h1')
        obtain ⟨v, hv1, rv⟩ := r2.get (List.getElem?_eq_getElem h2')
        have eu : is1.toArray[j] = u := by simpa using (List.getElem?_eq_some_iff.mp hu1).2
        have ev : is2.toArray[j] = v := by simpa using (List.getElem?_eq_some_iff.mp hv1).2
        rw [eu, ev]
        exact ih j _ _ (List.getElem?_eq_getElem h1') (List.getElem?_eq_getElem h2') A.in1 u v (by show A.units + 1 + n < cLine; omega) ru rv
      have e3 : is1.toArray.size = xs.length := by simp [e1]
      rw [e3] at key
      exact SeqAt.EqAt.of_refs hab key
  | @len n a b xs ys hx hy hl =>
    intro A u v hu ru rv
    cases ru
    cases rv
    have hab : a ≠ b := fun z => by subst z; exact hl (congrArg List.length (I.list_inj hx hy))
    obtain ⟨is1, r1, p1, _⟩ := I.list hx
    obtain ⟨is2, r2, p2, _⟩ := I.list hy
    have e1 := r1.length
    have e2 := r2.length
    exact SeqAt.EqAt.of_refs hab (SeqAt.RcAt.lists_lengths p1.isList p2.isList (by simp; omega) (by omega))
  | @tup n a b xs ys e hx hy h ih =>
    intro A u v hu ru rv
    have hb := eqd_refl I (.tup e hx hy h)
    cases ru
    cases rv
    by_cases hab : a = b
    · subst hab
      rw [hb rfl]; exact SeqAt.EqAt.same _
    · obtain ⟨is1, r1, p1, _⟩ := I.tuple hx
      obtain ⟨is2, r2, p2, _⟩ := I.tuple hy
      have e1 := r1.length
      have e2 := r2.length
      have key := SeqAt.RcAt.tuples (A := A) (s := s) (e := e) p1 p2 (by omega) fun j h1 h2 => by
        have h1' : j < xs.length := by simpa [e1] using h1
        have h2' : j < ys.length := by simpa [e2] using h2
        obtain ⟨u, hu1, ru⟩ := r1.get (List.getElem?_eq_getElem h1')
        obtain ⟨v, hv1, rv⟩ := r2.get (List.getElem?_eq_getElem h2')
        have eu : is1.toArray[j] = u := by simpa using (List.getElem?_eq_some_iff.mp hu1).2
        have ev : is2.toArray[j] = v := by simpa using (List.getElem?_eq_some_iff.mp hv1).2
        rw [eu, ev]
        exact ih j _ _ (List.getElem?_eq_getElem h1') (List.getElem?_eq_getElem h2') A.in1 u v (by show A.units + 1 + n < cLine; omega) ru rv
      have e3 : is1.toArray.size = xs.length := by simp [e1]
      have e4 : is2.toArray.size = ys.length := by simp [e2]
      rw [e3, e4] at key
      exact SeqAt.EqAt.of_refs hab key
end
def rEqD (K : Frag) (neg : Bool) : R2 := fun x y H Q => ∃ a b k, x = .ref a ∧ y = .ref b ∧ EqD K H 3 x y k ∧ Q (.bl (if neg then !k else k)) H
section
variable {X : Cx}
theorem op_eqD {K : Frag} (hK : X.K = K) {k : Nat} (hr : Room k X.A) : OpR X (compareOp .Eq) (rEqD K false) := by
  subst hK
  have hu0 := hr.un
  intro pins s σ H x y v u Q I rx ry h
  obtain ⟨a, b, k, rfl, rfl, h, q⟩ := h
  cases rx
  cases ry
  cases h with
  | flat fx fy => cases fx
  | @lst n _ _ xs ys e hx hy hl h =>
    obtain ⟨is1, r1, p1, _⟩ := I.list hx
    obtain ⟨is2, r2, p2, _⟩ := I.list hy
    have e1 := r1.length
    have e2 := r2.length
    have e3 : is1.toArray.size = xs.length := by simp [e1]
    refine SeqAt.eq_listAt (e := e) p1.isList p2.isList (by simp; omega) (by omega) (fun j h1 h2 => ?_) ⟨.bl _, H, I, rfl, by rw [e3]; exact q⟩
    have h1' : j < xs.length := by simpa [e1] using h1
    have h2' : j < ys.length := by simpa [e2] using h2
    obtain ⟨u, hu1, ru⟩ := r1.get (List.getElem?_eq_getElem h1')
    obtain ⟨v, hv1, rv⟩ := r2.get (List.getElem?_eq_getElem h2')
    have eu : is1.toArray[j] = u := by simpa using (List.getElem?_eq_some_iff.mp hu1).2
    have ev : is2.toArray[j] = v := by simpa using (List.getElem?_eq_some_iff.mp hv1).2
    rw [eu, ev]
    exact eqd_at I (h j _ _ (List.getElem?_eq_getElem h1') (List.getElem?_eq_getElem h2')) X.A.in1 u v (by show X.A.units + 1 + 2 < cLine; omega) ru rv
  | @len n _ _ xs ys hx hy hl =>
    obtain ⟨is1, r1, p1, _⟩ := I.list hx
    obtain ⟨is2, r2, p2, _⟩ := I.list hy
    have e1 := r1.length
    have e2 := r2.length
    exact SeqAt.eq_list_lengthsAt p1.isList p2.isList (by simp; omega) (by omega) ⟨.bl _, H, I, rfl, q⟩
  | @tup n _ _ xs ys e hx hy h =>
    obtain ⟨is1, r1, p1, _⟩ := I.tuple hx
    obtain ⟨is2, r2, p2, _⟩ := I.tuple hy
    have e1 := r1.length
    have e2 := r2.length
    have e3 : is1.toArray.size = xs.length := by simp [e1]
    have e4 : is2.toArray.size = ys.length := by simp [e2]
    refine SeqAt.eq_tupleAt (e := e) p1 p2 (by omega) (fun j h1 h2 => ?_) ⟨.bl _, H, I, rfl, by rw [e3, e4]; exact q⟩
    have h1' : j < xs.length := by simpa [e1] using h1
    have h2' : j < ys.length := by simpa [e2] using h2
    obtain ⟨u, hu1, ru⟩ := r1.get (List.getElem?_eq_getElem h1')
    obtain ⟨v, hv1, rv⟩ := r2.get (List.getElem?_eq_getElem h2')
    have eu : is1.toArray[j] = u := by simpa using (List.getElem?_eq_some_iff.mp hu1).2
    have ev : is2.toArray[j] = v := by simpa using (List.getElem?_eq_some_iff.mp hv1).2
    rw [eu, ev]
    exact eqd_at I (h j _ _ (List.getElem?_eq_getElem h1') (List.getElem?_eq_getElem h2')) X.A.in1 u v (by show X.A.units + 1 + 2 < cLine; omega) ru rv
theorem op_neD {K : Frag} (hK : X.K = K) {k : Nat} (hr : Room k X.A) : OpR X (compareOp .NotEq) (rEqD K true) := by
  subst hK
  have hu0 := hr.un
  intro pins s σ H x y v u Q I rx ry h
  obtain ⟨a, b, k, rfl, rfl, h, q⟩ := h
  cases rx
  cases ry
  cases h with
  | flat fx fy => cases fx
  | @lst n _ _ xs ys e hx hy hl h =>
    obtain ⟨is1, r1, p1, _⟩ := I.list hx
    obtain ⟨is2, r2, p2, _⟩ := I.list hy
    have e1 := r1.length
    have e2 := r2.length
    have e3 : is1.toArray.size = xs.length := by simp [e1]
    refine SeqAt.RcNeAt.lists (e := e) p1.isList p2.isList (by simp; omega) (by omega) (fun j h1 h2 => ?_) _ _ _ _ ⟨.bl _, H, I, rfl, by rw [e3]; exact q⟩
    have h1' : j < xs.length := by simpa [e1] using h1
    have h2' : j < ys.length := by simpa [e2] using h2
    obtain ⟨u, hu1, ru⟩ := r1.get (List.getElem?_eq_getElem h1')
    obtain ⟨v, hv1, rv⟩ := r2.get (List.getElem?_eq_getElem h2')
    have eu : is1.toArray[j] = u := by simpa using (List.getElem?_eq_some_iff.mp hu1).2
    have ev : is2.toArray[j] = v := by simpa using (List.getElem?_eq_some_iff.mp hv1).2
    rw [eu, ev]
    exact eqd_at I (h j _ _ (List.getElem?_eq_getElem h1') (List.getElem?_eq_getElem h2')) X.A.in1 u v (by show X.A.units + 1 + 2 < cLine; omega) ru rv
  | @len n _ _ xs ys hx hy hl =>
    obtain ⟨is1, r1, p1, _⟩ := I.list hx
    obtain ⟨is2, r2, p2, _⟩ := I.list hy
    have e1 := r1.length
    have e2 := r2.length
    exact SeqAt.RcNeAt.lists_lengths p1.isList p2.isList (by simp; omega) (by omega) _ _ _ _ ⟨.bl _, H, I, rfl, q⟩
  | @tup n _ _ xs ys e hx hy h =>
    obtain ⟨is1, r1, p1, _⟩ := I.tuple hx
    obtain ⟨is2, r2, p2, _⟩ := I.tuple hy
    have e1 := r1.length
    have e2 := r2.length
    have e3 : is1.toArray.size = xs.length := by simp [e1]
    have e4 : is2.toArray.size = ys.length := by simp [e2]
    refine SeqAt.RcNeAt.tuples (e := e) p1 p2 (by omega) (fun j h1 h2 => ?_) _ _ _ _ ⟨.bl _, H, I, rfl, by rw [e3, e4]; exact q⟩
    have h1' : j < xs.length := by simpa [e1] using h1
    have h2' : j < ys.length := by simpa [e2] using h2
    obtain ⟨u, hu1, ru⟩ := r1.get (List.getElem?_eq_getElem h1')
    obtain ⟨v, hv1, rv⟩ := r2.get (List.getElem?_eq_getElem h2')
    have eu : is1.toArray[j] = u := by simpa using (List.getElem?_eq_some_iff.mp hu1).2
    have ev : is2.toArray[j] = v := by simpa using (List.getElem?_eq_some_iff.mp hv1).2
    rw [eu, ev]
    exact eqd_at I (h j _ _ (List.getElem?_eq_getElem h1') (List.getElem?_eq_getElem h2')) X.A.in1 u v (by show X.A.units + 1 + 2 < cLine; omega) ru rv
end

def IsI (v : V) (i : Int) : Prop := v = .int i
def IsL (K : Frag) (H : Hp) {α : Type} (P : V → α → Prop) (v : V) (as : List α) : Prop := ∃ a xs, v = .ref a ∧ SqL K H a xs ∧ xs.length = as.length ∧ ∀ (j : Nat) (x : V) (y : α), xs[j]? = some x → as[j]? = some y → P x y
def IsT (K : Frag) (H : Hp) {α : Type} (P : V → α → Prop) (v : V) (as : List α) : Prop := ∃ a xs, v = .ref a ∧ SqT K H a xs ∧ xs.length = as.length ∧ ∀ (j : Nat) (x : V) (y : α), xs[j]? = some x → as[j]? = some y → P x y
def EqP (K : Frag) (H : Hp) (n : Nat) {α : Type} [DecidableEq α] (P : V → α → Prop) : Prop := ∀ x y a b, P x a → P y b → EqD K H n x y (decide (a = b))
theorem eqp_int {K : Frag} {H : Hp} {n : Nat} : EqP K H n IsI := by
  rintro x y a b rfl rfl
  have := EqD.flat (K := K) (H := H) (n := n) (x := .int a) (y := .int b) rfl rfl
  have e : eqV (.int a) (.int b) = decide (a = b) := by simp [eqV, Bool.beq_eq_decide_eq]
  rw [← e]; exact this
theorem all_eq {α : Type} [DecidableEq α] (as bs : List α) (h : as.length = bs.length) : (List.range as.length).all (fun j => decide (as[j]? = bs[j]?)) = decide (as = bs) := by
  rw [Bool.eq_iff_iff, List.all_eq_true, decide_eq_true_iff]
  constructor
  · intro q
    refine List.ext_getElem? fun j => ?_
    by_cases hj : j < as.length
    · simpa using q j (List.mem_range.mpr hj)
    · rw [List.getElem?_eq_none (by omega), List.getElem?_eq_none (by omega)]
  · rintro rfl j _; simp
theorem eqp_lst {K : Frag} {H : Hp} {n : Nat} {α : Type} [DecidableEq α] {P : V → α → Prop} (h : EqP K H n P) : EqP K H (n + 1) (IsL K H P) := by
  rintro x y as bs ⟨a, xs, rfl, hx, lx, px⟩ ⟨b, ys, rfl, hy, ly, py⟩
  by_cases hl : as.length = bs.length
  · rw [← all_eq as bs hl, ← lx]
    refine .lst _ hx hy (by omega) fun j x y h1 h2 => ?_
    have j1 := (List.getElem?_eq_some_iff.mp h1).1
    have j2 := (List.getElem?_eq_some_iff.mp h2).1
    have ha : as[j]? = some as[j] := List.getElem?_eq_getElem (by omega)
    have hb : bs[j]? = some bs[j] := List.getElem?_eq_getElem (by omega)
    have := h x y _ _ (px j _ _ h1 ha) (py j _ _ h2 hb)
    rw [ha, hb]
    simpa using this
  · have e : decide (as = bs) = false := by simp; intro z; exact hl (congrArg List.length z)
    rw [e]
    exact .len hx hy (by omega)
theorem eqp_tup {K : Frag} {H : Hp} {n : Nat} {α : Type} [DecidableEq α] {P : V → α → Prop} (h : EqP K H n P) : EqP K H (n + 1) (IsT K H P) := by
  rintro x y as bs ⟨a, xs, rfl, hx, lx, px⟩ ⟨b, ys, rfl, hy, ly, py⟩
  have key := EqD.tup (K := K) (H := H) (n := n) (fun j => decide (as[j]? = bs[j]?)) hx hy fun j x y h1 h2 => by
    have j1 := (List.getElem?_eq_some_iff.mp h1).1
    have j2 := (List.getElem?_eq_some_iff.mp h2).1
    have ha : as[j]? = some as[j] := List.getElem?_eq_getElem (by omega)
    have hb : bs[j]? = some bs[j] := List.getElem?_eq_getElem (by omega)
    have := h x y _ _ (px j _ _ h1 ha) (py j _ _ h2 hb)
    rw [ha, hb]
    simpa using this
  have e : ((List.range (min xs.length ys.length)).all (fun j => decide (as[j]? = bs[j]?)) && xs.length == ys.length) = decide (as = bs) := by
    rw [lx, ly]
    by_cases hl : as.length = bs.length
    · rw [← hl, Nat.min_self, all_eq as bs hl]; simp
    · have e : decide (as = bs) = false := by simp; intro z; exact hl (congrArg List.length z)
      rw [e]
      simp [hl]
  rw [e] at key
  exact key
theorem isL_ints {K : Frag} {H : Hp} {a : Addr} {ns : List Int} (h : SqL K H a (ns.map V.int)) : IsL K H IsI (.ref a) ns := ⟨a, _, rfl, h, by simp, fun j x y h1 h2 => by
  rw [List.getElem?_map, h2] at h1
  exact (Option.some.inj h1).symm⟩
theorem isT_ints {K : Frag} {H : Hp} {a : Addr} {ns : List Int} (h : SqT K H a (ns.map V.int)) : IsT K H IsI (.ref a) ns := ⟨a, _, rfl, h, by simp, fun j x y h1 h2 => by
  rw [List.getElem?_map, h2] at h1
  exact (Option.some.inj h1).symm⟩
end L2


set_option Elab.async false
set_option linter.all false
set_option maxRecDepth 100000
set_option maxHeartbeats 1000000
namespace L2
open PySem PySem.Spec PyProof.Rows PySem.W


section
variable {X : Cx}
def tRngV (ta : TA) : TE := fun σ H Q => ta σ H fun vs H1 => ∃ j : Int, vs = [.int j] ∧ -(2 ^ 62) ≤ j ∧ j < 2 ^ 62 ∧ ∀ p, H1 p = none → Q (.ref p) (upd H1 p (.rng 0 j))
theorem pe_range1 {a : Expr} {ta : TA} {p pos : Pos} (hg : Gl X "range") (hm : X.mg "range" = none) (ha : PA X [a] ta) (hs : starEach [a] X.env = [(false, eval a X.env)] := by rfl) : PE X (.Call (.Name "range" p) [a] [] pos) (tRngV ta) := by
  intro pins s σ H Q I h
  refine wpAny_Call_Name_kw (ld_blt I hg hm boot_range (PyProof.Rows.callWith_type1 (thn (ha pos pins s σ H _ I h) fun us s1 ⟨vs, H1, I1, r1, q1⟩ => ?_) hs rfl))
  obtain ⟨j, e, q1, q2, q⟩ := q1
  subst e
  obtain ⟨u, rfl, ru⟩ := r1.one
  obtain ⟨t, rfl⟩ := ru
  refine call_range_1 ⟨.ref s1.heap.objs.size, _, I1.laid (fun b o e => Heap.get?_push_of_some _ e) (Nat.le_refl _) ?_, rfl, q _ (I1.hok.fresh (Nat.le_refl _))⟩
  exact ⟨_, _, _, Heap.get?_push_size _ rfl⟩
def rLstR : List V → Hp → VK → Prop := fun xs H Q => ∃ p j, xs = [.ref p] ∧ H p = some (.rng 0 j) ∧ 0 ≤ j ∧ j ≤ 1000 ∧ ∀ l, H l = none → Q (.ref l) (upd H l (.lst ((List.range j.toNat).map fun (i : Nat) => V.int (i : Int))))
theorem vals_of {g : Nat → V} {P : Nat → Value → Prop} (hP : ∀ i v, P i v → RelV (g i) v) : ∀ (n : Nat) (us : List Value), us.length = n → (∀ (j : Nat) (v : Value), us[j]? = some v → P j v) → Vals ((List.range n).map g) us := by
  intro n
  induction n with
  | zero =>
    intro us hl _
    cases us with
    | nil => exact .nil
    | cons _ _ => cases hl
  | succ n ih =>
    intro us hl h
    have hne : us ≠ [] := fun z => by rw [z] at hl; cases hl
    rw [List.range_succ, List.map_append, ← List.dropLast_concat_getLast hne]
    have hl2 : us.dropLast.length = n := by rw [List.length_dropLast, hl]; rfl
    refine (ih us.dropLast hl2 fun j v hj => ?_).append (.cons ?_ .nil)
    · have hj2 := (List.getElem?_eq_some_iff.mp hj).1
      refine h j v ?_
      rw [List.getElem?_dropLast] at hj
      split at hj
      · exact hj
      · cases hj
    · refine hP n _ (h n _ ?_)
      rw [List.getLast_eq_getElem]
      rw [List.getElem?_eq_some_iff]
      refine ⟨by omega, ?_⟩
      congr 1
      omega
def rAll (K : Frag) : List V → Hp → VK → Prop := fun xs H Q => ∃ (p : Addr) (bs : List Bool), xs = [.ref p] ∧ SqL K H p (bs.map V.bl) ∧ Q (.bl (bs.all id)) H
def rAny (K : Frag) : List V → Hp → VK → Prop := fun xs H Q => ∃ (p : Addr) (bs : List Bool), xs = [.ref p] ∧ SqL K H p (bs.map V.bl) ∧ Q (.bl (bs.any id)) H
theorem all_ix (bs : List Bool) : (List.range bs.length).all (fun i => bs.getD i false) = bs.all id := by
  rw [Bool.eq_iff_iff, List.all_eq_true, List.all_eq_true]
  constructor
  · intro h x hx
    obtain ⟨j, hj, rfl⟩ := List.getElem_of_mem hx
    have := h j (List.mem_range.mpr hj)
    simpa [List.getD_eq_getElem?_getD, hj] using this
  · intro h j hj
    have hj' := List.mem_range.mp hj
    have := h _ (List.getElem_mem hj')
    simpa [List.getD_eq_getElem?_getD, hj'] using this
theorem any_ix (bs : List Bool) : (List.range bs.length).any (fun i => bs.getD i false) = bs.any id := by
  rw [Bool.eq_iff_iff, List.any_eq_true, List.any_eq_true]
  constructor
  · rintro ⟨j, hj, e⟩
    have hj' := List.mem_range.mp hj
    exact ⟨_, List.getElem_mem hj', by simpa [List.getD_eq_getElem?_getD, hj'] using e⟩
  · rintro ⟨x, hx, e⟩
    obtain ⟨j, hj, rfl⟩ := List.getElem_of_mem hx
    exact ⟨j, List.mem_range.mpr hj, by simpa [List.getD_eq_getElem?_getD, hj] using e⟩
theorem truth_bools {prog : Program} {w : World} {A : Around} {bs : List Bool} {its : List Value} (r : Vals (bs.map V.bl) its) : TruthOf prog w A (fun i v => its.toArray[i]? = some v) (fun i => bs.getD i false) := by
  intro i v s Q E hv hq
  have hv' : its[i]? = some v := by simpa using hv
  have hl := r.length
  have hi : i < bs.length := by
    have := (List.getElem?_eq_some_iff.mp hv').1
    rw [List.length_map] at hl; omega
  obtain ⟨u, hu, ru⟩ := r.get (i := i) (x := V.bl bs[i]) (by rw [List.getElem?_map, List.getElem?_eq_getElem hi]; rfl)
  rw [hv'] at hu
  cases hu
  cases ru
  refine wpAny_truthy_bool ?_
  simpa [List.getD_eq_getElem?_getD, hi] using hq
theorem call_all {K : Frag} (hK : X.K = K) (hc : X.calm = true) : CallR X (.builtin "all") (rAll K) := by
  subst hK
  intro pins s σ H xs us Q I r h
  obtain ⟨p, bs, rfl, hp, q⟩ := h
  obtain ⟨u, rfl, ru⟩ := r.one
  cases (show u = Value.ref p from ru)
  obtain ⟨its, r', pl, hz⟩ := I.list hp
  have hl := r'.length
  refine call_all_walk (wpAny_pyIter_list pl.isList ?_)
  have hne : p ≠ s.heap.objs.size := by obtain ⟨o, e, _⟩ := pl.isList; exact Nat.ne_of_lt (Heap.lt_size e)
  refine ⟨s.heap.objs.size, _, _, _, _, _, fun i => bs.getD i false, rfl, Walks.list (A := X.A.in1) (show X.A.in1.handled = none from I.ok.hd hc) _ p hne its.toArray, ⟨⟨_, Heap.get?_push_size _ rfl, rfl, rfl⟩, pl.isList.push _⟩, truth_bools r', fun h' tk kp => ?_⟩
  have e1 : its.toArray.size = bs.length := by rw [List.size_toArray]; rw [List.length_map] at hl; omega
  rw [e1, all_ix]
  exact ⟨.bl _, H, I.kept (t' := tk) fun b o e => kp b o (by simp; exact Nat.ne_of_lt (Heap.lt_size e)) (Heap.get?_push_of_some _ e), rfl, q⟩
theorem call_any {K : Frag} (hK : X.K = K) (hc : X.calm = true) : CallR X (.builtin "any") (rAny K) := by
  subst hK
  intro pins s σ H xs us Q I r h
  obtain ⟨p, bs, rfl, hp, q⟩ := h
  obtain ⟨u, rfl, ru⟩ := r.one
  cases (show u = Value.ref p from ru)
  obtain ⟨its, r', pl, hz⟩ := I.list hp
  have hl := r'.length
  refine call_any_walk (wpAny_pyIter_list pl.isList ?_)
  have hne : p ≠ s.heap.objs.size := by obtain ⟨o, e, _⟩ := pl.isList; exact Nat.ne_of_lt (Heap.lt_size e)
  refine ⟨s.heap.objs.size, _, _, _, _, _, fun i => bs.getD i false, rfl, Walks.list (A := X.A.in1) (show X.A.in1.handled = none from I.ok.hd hc) _ p hne its.toArray, ⟨⟨_, Heap.get?_push_size _ rfl, rfl, rfl⟩, pl.isList.push _⟩, truth_bools r', fun h' tk kp => ?_⟩
  have e1 : its.toArray.size = bs.length := by rw [List.size_toArray]; rw [List.length_map] at hl; omega
  rw [e1, any_ix]
  exact ⟨.bl _, H, I.kept (t' := tk) fun b o e => kp b o (by simp; exact Nat.ne_of_lt (Heap.lt_size e)) (Heap.get?_push_of_some _ e), rfl, q⟩
def ipM : TIp := fun x y H Q => ∃ i j, x = .int i ∧ y = .int j ∧ IntMulOk i j ∧ Q (.int (i * j)) H
def rIxQ (K : Frag) : R2 := fun x y H Q => ∃ p xs i v, x = .ref p ∧ y = .int i ∧ (SqL K H p xs ∨ SqT K H p xs) ∧ atI xs i = some v ∧ Q v H
theorem ix_q {K : Frag} (hK : X.K = K) : IxR X (rIxQ K) := by
  subst hK
  intro value slice pins s σ H x y v u Q I rx ry h hs
  refine (ix_list.or ix_tup) (value := value) (slice := slice) pins s σ H x y v u Q I rx ry ?_ hs
  obtain ⟨p, xs, i, v, rfl, rfl, hq, ha, q⟩ := h
  rcases hq with hq | hq
  · exact .inl ⟨p, xs, i, v, rfl, rfl, hq, ha, q⟩
  · exact .inr ⟨p, xs, i, v, rfl, rfl, hq, ha, q⟩
theorem bt_all : bootBuiltins "all" = some (.builtin "all") := by decide +kernel
theorem bt_any : bootBuiltins "any" = some (.builtin "any") := by decide +kernel
end
end L2


set_option Elab.async false
set_option linter.all false
set_option maxRecDepth 100000
set_option maxHeartbeats 1000000
namespace L2
open PySem PySem.Spec PyProof.Rows PySem.W


def IsLow (f : Nat → Int) (a b p : Nat) : Prop := a ≤ p ∧ p ≤ b ∧ (∀ q, a ≤ q → q < p → f p < f q) ∧ ∀ q, p < q → q ≤ b → f p ≤ f q
theorem IsLow.unique {f : Nat → Int} {a b p q : Nat} (h : IsLow f a b p) (k : IsLow f a b q) : p = q := by
  obtain ⟨h1, h2, h3, h4⟩ := h
  obtain ⟨k1, k2, k3, k4⟩ := k
  rcases Nat.lt_trichotomy p q with z | z | z
  · have := k3 p h1 z
    have := h4 q z k2
    omega
  · exact z
  · have := h3 q k1 z
    have := k4 p z h2
    omega
theorem IsLow.join {f : Nat → Int} {a m a' b p q : Nat} (h : IsLow f a m p) (k : IsLow f a' b q) (h1 : a ≤ a') (h2 : a' ≤ m + 1) (h3 : m ≤ b) : IsLow f a b (if f q < f p then q else p) := by
  obtain ⟨p1, p2, p3, p4⟩ := h
  obtain ⟨q1, q2, q3, q4⟩ := k
  have pm : ∀ r, a ≤ r → r ≤ m → f p ≤ f r := fun r r1 r2 => by
    rcases Nat.lt_trichotomy r p with z | z | z
    · exact Int.le_of_lt (p3 r r1 z)
    · rw [z]; exact Int.le_refl _
    · exact p4 r z r2
  have qm : ∀ r, a' ≤ r → r ≤ b → f q ≤ f r := fun r r1 r2 => by
    rcases Nat.lt_trichotomy r q with z | z | z
    · exact Int.le_of_lt (q3 r r1 z)
    · rw [z]; exact Int.le_refl _
    · exact q4 r z r2
  split
  · rename_i hlt
    refine ⟨by omega, q2, fun r r1 r2 => ?_, fun r r1 r2 => qm r (by omega) r2⟩
    by_cases z : a' ≤ r
    · exact q3 r z r2
    · have := pm r r1 (by omega); omega
  · rename_i hle
    refine ⟨p1, by omega, p3, fun r r1 r2 => ?_⟩
    by_cases z : r ≤ m
    · exact p4 r r1 z
    · have := qm r (by omega) r2; omega
def lowF (f : Nat → Int) (a : Nat) : Nat → Nat
  | 0 => a
  | c + 1 => if f (a + c + 1) < f (lowF f a c) then a + c + 1 else lowF f a c
theorem isLow_one (f : Nat → Int) (a : Nat) : IsLow f a a a := ⟨Nat.le_refl _, Nat.le_refl _, fun q h1 h2 => by omega, fun q h1 h2 => by omega⟩
theorem lowF_is (f : Nat → Int) (a c : Nat) : IsLow f a (a + c) (lowF f a c) := by
  induction c with
  | zero => exact isLow_one f a
  | succ c ih =>
    rw [lowF]
    exact ih.join (isLow_one f (a + c + 1)) (by omega) (by omega) (by omega)
def nth (ns : List Int) (i : Nat) : Int := ns.getD i 0
theorem nth_at {ns : List Int} {i : Nat} (h : i < ns.length) : atI (ns.map V.int) (i : Int) = some (V.int (nth ns i)) := by
  rw [atI_at rfl (by simpa using h)]
  simp [nth, List.getD_eq_getElem?_getD, h]
def Tall (n i : Nat) : Prop := n < 2 ^ i ∧ ∀ j, j < i → 2 ^ j ≤ n
theorem Tall.unique {n i j : Nat} (h : Tall n i) (k : Tall n j) : i = j := by
  rcases Nat.lt_trichotomy i j with z | z | z
  · have := k.2 i z; have := h.1; omega
  · exact z
  · have := h.2 j z; have := k.1; omega

def WI (N : Nat) (Pv : Nat → St → Hp → Prop) (m : Nat) (σ : St) (H : Hp) : Prop := ∃ i, m = N - i ∧ i ≤ N ∧ Pv i σ H
theorem WI.next {N : Nat} {Pv : Nat → St → Hp → Prop} {i : Nat} : ∀ σ' H', (i + 1 ≤ N ∧ Pv (i + 1) σ' H') → ∃ m', m' < N - i ∧ WI N Pv m' σ' H' := fun σ' H' h => ⟨N - (i + 1), by omega, i + 1, rfl, h.1, h.2⟩
theorem while_i {c : TT} {tb : TS} {D : Ends} {σ : St} {H : Hp} (N : Nat) (Pv : Nat → St → Hp → Prop) (h0 : Pv 0 σ H)
    (hs : ∀ i σ H, i ≤ N → Pv i σ H → c σ H fun b H1 => if b = true then ∃ Nx : St → Hp → Prop, (∀ σ' H', Nx σ' H' → ∃ m', m' < N - i ∧ WI N Pv m' σ' H') ∧ tb { D with nx := Nx, ct := Nx, bk := D.nx } σ H1 else D.nx σ H1) : WhileR c tb D σ H := by
  refine ⟨WI N Pv, ⟨N, 0, rfl, Nat.zero_le _, h0⟩, ?_⟩
  rintro m σ H ⟨i, rfl, hi, p⟩
  exact hs i σ H hi p
theorem Same.seqT {K : Frag} {H H' : Hp} {a : Addr} {xs : List V} (e : Same H H') (h : SqT K H a xs) : SqT K H' a xs := by
  rcases h with (h | ⟨o, h⟩) | h
  · exact .inl (.inl (e _ _ h))
  · exact .inl (.inr ⟨o, e _ _ h⟩)
  · exact .inr h
theorem Same.q {K : Frag} {H H' : Hp} {a : Addr} {xs : List V} (e : Same H H') (h : SqL K H a xs ∨ SqT K H a xs) : SqL K H' a xs ∨ SqT K H' a xs := h.imp e.seq e.seqT
theorem Exc.trans {p : Addr} {H H1 H2 : Hp} (a : Exc p H H1) (b : Exc p H1 H2) : Exc p H H2 := fun c o n z => b c o n (a c o n z)
theorem Exc.free {p q : Addr} {H H' : Hp} (e : Exc p H H') (n : q ≠ p) (h : H' q = none) : H q = none := by
  cases z : H q with
  | none => rfl
  | some o => rw [e q o n z] at h; cases h
theorem Exc.updN {p q : Addr} {H H' : Hp} {o : HO} (e : Exc p H H') (h : H q = none) : Exc p H (L2.upd H' q o) := fun b u n z => by
  rw [upd_ne (ne_of_none z h)]; exact e b u n z
theorem Exc.same {p : Addr} {H H1 H2 : Hp} (a : Exc p H H1) (s : Same H1 H2) : Exc p H H2 := a.trans s.toExc

def RowsN (H0 H : Hp) (l : Addr) (rs : List (List Int)) : Prop := ∃ as : List Addr, H l = some (.lst (as.map V.ref)) ∧ l ∉ as ∧ as.length = rs.length ∧ (∀ i (h1 : i < as.length) (h2 : i < rs.length), H as[i] = some (.lst (rs[i].map V.int))) ∧ H0 l = none ∧ ∀ a ∈ as, H0 a = none
theorem RowsN.same {H0 H H' : Hp} {l : Addr} {rs : List (List Int)} (R : RowsN H0 H l rs) (s : Same H H') : RowsN H0 H' l rs := by
  obtain ⟨as, e, n, hl, h, z⟩ := R
  exact ⟨as, s _ _ e, n, hl, fun i h1 h2 => s _ _ (h i h1 h2), z⟩
theorem RowsN.from {H0 H1 H : Hp} {l : Addr} {rs : List (List Int)} (R : RowsN H1 H l rs) (s : Same H0 H1) : RowsN H0 H l rs := by
  obtain ⟨as, e, n, hl, h, z1, z2⟩ := R
  exact ⟨as, e, n, hl, h, s.free z1, fun a ha => s.free (z2 a ha)⟩
theorem RowsN.push {H0 H : Hp} {l p : Addr} {rs : List (List Int)} {r : List Int} {as : List Addr} (e : H l = some (.lst (as.map V.ref))) (n : l ∉ as) (hl : as.length = rs.length) (h : ∀ i (h1 : i < as.length) (h2 : i < rs.length), H as[i] = some (.lst (rs[i].map V.int)))
    (z1 : H0 l = none) (z2 : ∀ a ∈ as, H0 a = none) (hp : H p = some (.lst (r.map V.int))) (np : p ≠ l) (zp : H0 p = none) : RowsN H0 (upd H l (.lst (as.map V.ref ++ [.ref p]))) l (rs ++ [r]) := by
  obtain ⟨bs, q1, q2, q3, q4⟩ := Rows.push e n hl h hp np
  rw [upd_same] at q1
  have e2 : bs = as ++ [p] := by
    have q1' : (as ++ [p]).map V.ref = bs.map V.ref := by
      have := HO.lst.inj (Option.some.inj q1)
      simpa using this
    have inj : ∀ (u v : List Addr), u.map V.ref = v.map V.ref → u = v := by
      intro u
      induction u with
      | nil => intro v hv; cases v with | nil => rfl | cons _ _ => cases hv
      | cons x u ih =>
        intro v hv
        cases v with
        | nil => cases hv
        | cons y v =>
          rw [List.map_cons, List.map_cons] at hv
          injection hv with h1 h2
          injection h1 with h1
          rw [h1, ih v h2]
    exact (inj _ _ q1').symm
  subst e2
  refine ⟨as ++ [p], upd_same.trans (by simp), q2, q3, q4, z1, fun a ha => ?_⟩
  rcases List.mem_append.mp ha with ha | ha
  · exact z2 a ha
  · have : a = p := by simpa using ha
    rw [this]; exact zp
theorem RowsN.nil {H : Hp} {p : Addr} (hp : H p = none) : RowsN H (upd H p (.lst [])) p [] := ⟨[], upd_same, by simp, rfl, fun i h1 h2 => absurd h1 (by simp), hp, fun a ha => nomatch ha⟩
end L2


set_option Elab.async false
set_option linter.all false
set_option maxRecDepth 100000
set_option maxHeartbeats 1000000
namespace L2
open PySem PySem.Spec PyProof.Rows PySem.W


section
variable {X : Cx} {a b c d : Expr} {ta tb tc td : TE} {pos : Pos}
def tChain3 (r r' r'' : R2) (ta tb tc td : TE) : TE := fun σ H Q => ta σ H fun x H1 => tb σ H1 fun y H2 => r x y H2 fun z H3 => ∃ k, z = .bl k ∧
  (if k = true then tc σ H3 fun y' H4 => r' y y' H4 fun z' H5 => ∃ k', z' = .bl k' ∧ (if k' = true then td σ H5 fun y'' H6 => r'' y' y'' H6 Q else Q (.bl false) H5) else Q (.bl false) H3)
def rBits : V → List V → Hp → VK → Prop := fun x vs H Q => ∃ i, x = .int i ∧ vs = [] ∧ Q (.int (Builtin.Int.intBits i : Nat)) H
def iSeq (K : Frag) (tl : TE) : TI := fun σ H R => tl σ H fun x H1 => ∃ a, x = .ref a ∧ (((∃ xs, SqL K H1 a xs) ∧ R (Itl K a) H1) ∨ ((∃ xs, SqT K H1 a xs) ∧ R (Itt K a) H1))
end

def CA (n : Nat) (Pv : Nat → List V → Hp → Prop) (i m : Nat) (acc : List V) (H : Hp) : Prop := m = n - i ∧ i ≤ n ∧ acc.length ≤ i ∧ Pv i acc H
theorem CA.take {n : Nat} {Pv : Nat → List V → Hp → Prop} {i : Nat} {acc : List V} {v : V} {H : Hp} (hi : i < n) (hl : acc.length ≤ i) (h : Pv (i + 1) (acc ++ [v]) H) : ∃ m', m' < n - i ∧ CA n Pv (i + 1) m' (acc ++ [v]) H := ⟨n - (i + 1), by omega, rfl, hi, by simp; omega, h⟩
theorem CA.skip {n : Nat} {Pv : Nat → List V → Hp → Prop} {i : Nat} {acc : List V} {H : Hp} (hi : i < n) (hl : acc.length ≤ i) (h : Pv (i + 1) acc H) : ∃ m', m' < n - i ∧ CA n Pv (i + 1) m' acc H := ⟨n - (i + 1), by omega, rfl, hi, by omega, h⟩
theorem comp_inv {J : It} {n : Nat} {H1 : Hp} {g : TG} {tt : TT} {te : TE} {σ0 : St} {Q : VK} (Pv : Nat → List V → Hp → Prop) (hn : n < sizeLine) (h0 : Pv 0 [] H1) (hgo : ∀ i acc H, Pv i acc H → i < n → J.go i H) (hstop : ∀ acc H, Pv n acc H → J.stop n H)
    (hb : ∀ i x acc H H', i < n → acc.length ≤ i → Pv i acc H → J.yld i H x H' → g x σ0 H' fun σ2 H2 => tt σ2 H2 fun b H3 => if b = true then te σ2 H3 fun v H4 => ∃ m', m' < n - i ∧ CA n Pv (i + 1) m' (acc ++ [v]) H4 else ∃ m', m' < n - i ∧ CA n Pv (i + 1) m' acc H3)
    (hk : ∀ l acc H', Pv n acc H' → acc.length ≤ n → H' l = none → Q (.ref l) (upd H' l (.lst acc))) : CompR J g tt te σ0 Q H1 := by
  refine ⟨CA n Pv, ⟨n, rfl, Nat.zero_le _, Nat.le_refl _, h0⟩, ?_⟩
  rintro i m acc H ⟨rfl, hi, hl, p⟩
  by_cases h : i < n
  · exact .inr ⟨hgo i acc H p h, by omega, fun x H' y => hb i x acc H H' h hl p y⟩
  · have e : i = n := by omega
    subst e
    exact .inl ⟨hstop acc H p, by omega, fun q hq => hk q acc H p hl hq⟩

def IsQ (K : Frag) (H : Hp) {α : Type} (P : V → α → Prop) (v : V) (as : List α) : Prop := ∃ a xs, v = .ref a ∧ (SqL K H a xs ∨ SqT K H a xs) ∧ xs.length = as.length ∧ ∀ (j : Nat) (x : V) (y : α), xs[j]? = some x → as[j]? = some y → P x y
theorem IsQ.mono {K : Frag} {H H' : Hp} {α : Type} {P P' : V → α → Prop} {v : V} {as : List α} (h : IsQ K H P v as) (s : Same H H') (hp : ∀ x y, P x y → P' x y) : IsQ K H' P' v as := by
  obtain ⟨a, xs, e, q, l, r⟩ := h
  exact ⟨a, xs, e, s.q q, l, fun j x y h1 h2 => hp _ _ (r j x y h1 h2)⟩
theorem IsI.list {xs : List V} {ns : List Int} (hl : xs.length = ns.length) (h : ∀ (j : Nat) (x : V) (y : Int), xs[j]? = some x → ns[j]? = some y → IsI x y) : xs = ns.map V.int := by
  refine List.ext_getElem (by simpa using hl) fun j h1 h2 => ?_
  have h2' : j < ns.length := by simpa using h2
  rw [List.getElem_map]
  exact h j _ _ (List.getElem?_eq_getElem h1) (List.getElem?_eq_getElem h2')
theorem IsQ.at {K : Frag} {H : Hp} {α : Type} {P : V → α → Prop} {a : Addr} {as : List α} (h : IsQ K H P (.ref a) as) {j : Nat} (hj : j < as.length) : ∃ xs x, (SqL K H a xs ∨ SqT K H a xs) ∧ atI xs (j : Int) = some x ∧ P x as[j] := by
  obtain ⟨b, xs, e, q, l, r⟩ := h
  cases e
  have hj' : j < xs.length := by omega
  exact ⟨xs, xs[j], q, atI_at rfl hj', r j _ _ (List.getElem?_eq_getElem hj') (List.getElem?_eq_getElem hj)⟩

def ItemsOf2 (F : List V → HO) (H : Hp) (rs : List (List Int)) (acc : List V) : Prop := acc.length = rs.length ∧ ∀ (j : Nat) (x : V) (ns : List Int), acc[j]? = some x → rs[j]? = some ns → ∃ a, x = .ref a ∧ H a = some (F (ns.map V.int))
theorem Rows.walk {K : Frag} {H1 : Hp} {d : Addr} {rs : List (List Int)} (R : Rows H1 d rs) : (∀ i H, Same H1 H → i < rs.length → (Itl K d).go i H) ∧ (∀ H, Same H1 H → (Itl K d).stop rs.length H) ∧
    ∀ i x H H' (h : i < rs.length), Same H1 H → (Itl K d).yld i H x H' → H' = H ∧ ∃ a, x = .ref a ∧ H a = some (.lst (rs[i].map V.int)) := by
  obtain ⟨as, e, n, hl, hh⟩ := R
  refine ⟨fun i H s hi => ⟨_, V.ref (as[i]'(by omega)), SqL.of (s _ _ e), by simp [show i < as.length by omega]⟩, fun H s => ⟨_, SqL.of (s _ _ e), by simp [hl]⟩, fun i x H H' hi s y => ?_⟩
  obtain ⟨e1, y⟩ := y
  have h1 := y _ (SqL.of (s _ _ e))
  have hia : i < as.length := by omega
  rw [List.getElem?_map, List.getElem?_eq_getElem hia] at h1
  exact ⟨e1, as[i], (Option.some.inj h1).symm, s _ _ (hh i hia hi)⟩
theorem IsQ.same {K : Frag} {H H' : Hp} {v : V} {rs : List (List Int)} (h : IsQ K H (IsQ K H IsI) v rs) (s : Same H H') : IsQ K H' (IsQ K H' IsI) v rs := h.mono s fun x y q => q.mono s fun _ _ z => z

theorem IsQ.walk {K : Frag} {H1 : Hp} {l : Addr} {rs : List (List Int)} {R : It → Hp → Prop} (h : IsQ K H1 (IsQ K H1 IsI) (.ref l) rs)
    (hk : ∀ J : It, (∀ i H, Same H1 H → i < rs.length → J.go i H) → (∀ H, Same H1 H → J.stop rs.length H) → (∀ i x H H' (h : i < rs.length), Same H1 H → J.yld i H x H' → H' = H ∧ IsQ K H IsI x rs[i]) → R J H1) :
    ((∃ xs, SqL K H1 l xs) ∧ R (Itl K l) H1) ∨ ((∃ xs, SqT K H1 l xs) ∧ R (Itt K l) H1) := by
  obtain ⟨b, xs, e, q, hl, r⟩ := h
  cases e
  rcases q with q | q
  · refine .inl ⟨⟨_, q⟩, hk _ (fun i H s hi => ⟨xs, xs[i]'(by omega), s.seq q, List.getElem?_eq_getElem (by omega)⟩) (fun H s => ⟨xs, s.seq q, by omega⟩) fun i x H H' hi s y => ?_⟩
    obtain ⟨e1, y⟩ := y
    exact ⟨e1, (r i x _ (y _ (s.seq q)) (List.getElem?_eq_getElem hi)).mono s fun _ _ z => z⟩
  · refine .inr ⟨⟨_, q⟩, hk _ (fun i H s hi => ⟨xs, xs[i]'(by omega), s.seqT q, List.getElem?_eq_getElem (by omega)⟩) (fun H s => ⟨xs, s.seqT q, by omega⟩) fun i x H H' hi s y => ?_⟩
    obtain ⟨e1, y⟩ := y
    exact ⟨e1, (r i x _ (y _ (s.seqT q)) (List.getElem?_eq_getElem hi)).mono s fun _ _ z => z⟩

theorem ItemsOf2.same {F : List V → HO} {H H' : Hp} {rs : List (List Int)} {acc : List V} (h : ItemsOf2 F H rs acc) (s : Same H H') : ItemsOf2 F H' rs acc := ⟨h.1, fun j x ns h1 h2 => by obtain ⟨a, e1, e2⟩ := h.2 j x ns h1 h2; exact ⟨a, e1, s _ _ e2⟩⟩
theorem PoolAt.some {H : Hp} {p : Addr} (P : PoolAt H p) : H p ≠ none := fun z => by obtain ⟨x, y, e, _⟩ := P; rw [z] at e; cases e
end L2


set_option Elab.async false
set_option linter.all false
set_option maxRecDepth 100000
set_option maxHeartbeats 1000000
namespace L2
open PySem PySem.Spec PyProof.Rows PySem.W


section
variable {X : Cx}
def rInsert : V → List V → Hp → VK → Prop := fun x vs H Q => ∃ l xs i y, x = .ref l ∧ vs = [.int i, y] ∧ H l = some (.lst xs) ∧ 0 ≤ i ∧ i < 2 ^ 62 ∧ xs.length < sizeLine ∧ Q .non (upd H l (.lst (xs.take i.toNat ++ y :: xs.drop i.toNat)))
theorem Vals.takeN : ∀ {xs : List V} {us : List Value} (k : Nat), Vals xs us → Vals (xs.take k) (us.take k)
  | _, _, 0, _ => by simp; exact .nil
  | _, _, _ + 1, .nil => .nil
  | _, _, k + 1, .cons r h => .cons r (Vals.takeN k h)
theorem Vals.dropN : ∀ {xs : List V} {us : List Value} (k : Nat), Vals xs us → Vals (xs.drop k) (us.drop k)
  | _, _, 0, h => by simpa using h
  | _, _, _ + 1, .nil => .nil
  | _, _, k + 1, .cons _ h => Vals.dropN k h
theorem mt_insert : MtM X "list.insert" rInsert := by
  intro pins s σ H x vs v us Q I rx rv h
  obtain ⟨l, xs, i, y, rfl, rfl, hH, h1, h2, hz, q⟩ := h
  cases rx
  obtain ⟨u, u2, rfl, ru, ru2⟩ := rv.two
  obtain ⟨t, rfl⟩ := ru
  obtain ⟨z, its, n, r, hl, e⟩ := I.lstM hH
  have hf : ¬ (!Builtin.List.listFitsIndex i) = true := by
    unfold Builtin.List.listFitsIndex
    have a1 : decide (-(2 ^ 63 : Int) ≤ i) = true := decide_eq_true (by omega)
    have a2 : decide (i < (2 ^ 63 : Int)) = true := decide_eq_true (by omega)
    rw [a1, a2]; decide
  refine call_meets F.slot_list_insert ⟨_, e, rfl⟩ F.entry_list_insert (F.args_list_insert_3 _ _ _) (AutoListH.list_insert_list_int_val_1 l its.toArray n i t u2 hf (by rw [List.size_toArray]; omega)) ⟨e, ?_⟩
  refine ⟨.non, _, I.lset (its' := its.take i.toNat ++ u2 :: its.drop i.toNat) (ys := xs.take i.toNat ++ y :: xs.drop i.toNat) hH e ?_ ((r.takeN _).append (.cons ru2 (r.dropN _))) ?_, rfl, q⟩
  · show ((its.toArray.extract 0 (if i < 0 then (i + ((its.toArray.size : Nat) : Int)).toNat else min i.toNat its.toArray.size)).push u2 ++ its.toArray.extract (if i < 0 then (i + ((its.toArray.size : Nat) : Int)).toNat else min i.toNat its.toArray.size)) = _
    rw [if_neg (by omega)]
    have e1 : its.take (min i.toNat its.length) = its.take i.toNat := by
      by_cases hh : i.toNat ≤ its.length
      · rw [Nat.min_eq_left hh]
      · rw [Nat.min_eq_right (by omega), List.take_of_length_le (by omega), List.take_of_length_le (by omega)]
    have e2 : its.drop (min i.toNat its.length) = its.drop i.toNat := by
      by_cases hh : i.toNat ≤ its.length
      · rw [Nat.min_eq_left hh]
      · rw [Nat.min_eq_right (by omega), List.drop_of_length_le (by omega), List.drop_of_length_le (by omega)]
    apply Array.ext'
    simp [e1, e2]
    exact List.take_of_length_le (by rw [List.length_drop]; omega)
  · rw [List.length_append, List.length_cons, List.length_take, List.length_drop]; omega
def rIndex (K : Frag) : V → List V → Hp → VK → Prop := fun x vs H Q => ∃ (l : Addr) (ns : List Int) (k : Int), x = .ref l ∧ vs = [.int k] ∧ SqL K H l (ns.map V.int) ∧ ns.length ≤ 100000 ∧ k ∈ ns ∧ Q (.int (ns.idxOf k : Nat)) H
theorem mt_index {K : Frag} (hK : X.K = K) : MtM X "list.index" (rIndex K) := by
  subst hK
  intro pins s σ H x vs v us Q I rx rv h
  obtain ⟨l, ns, k, rfl, rfl, hH, hz, hk, q⟩ := h
  cases rx
  obtain ⟨u, rfl, ru⟩ := rv.one
  obtain ⟨t, rfl⟩ := ru
  obtain ⟨its, r, pl, _⟩ := I.list hH
  have hi : IntsAre its ns := intsAre_of r
  have hlen := r.length
  rw [List.length_map] at hlen
  obtain ⟨⟨cls, dd, data, sl⟩, ho, hc, n, hd⟩ := pl.isList
  simp only at hc hd
  subst hc hd
  have hj : ns.idxOf k < ns.length := List.idxOf_lt_length_iff.mpr hk
  refine call_meets F.slot_list_index ⟨_, ho, rfl⟩ F.entry_list_index (F.args_list_index_2 _ _)
    (SeqAt.list_indexAt l its.toArray n dd sl (.int k t) (isInt k) (ns.idxOf k) (by rw [List.size_toArray]; omega) (by omega) ?_ ?_) ⟨ho, fun y hy => (eq_isInt k t hi y (by simpa using hy)).at _ _, ⟨.int _, H, I.tok _, ⟨_, rfl⟩, q⟩⟩
  · show isInt k its[ns.idxOf k] = true
    rw [isInt_at k hi _ (by omega) hj]
    simpa using List.getElem_idxOf hj
  · intro j hjs hlt
    show isInt k its[j] = false
    rw [isInt_at k hi j (by simpa using hjs) (by omega)]
    exact ne_of_lt_idxOf hlt _
end
def rIntB : List V → Hp → VK → Prop := fun xs H Q => ∃ k, xs = [.bl k] ∧ Q (.int (if k = true then 1 else 0)) H
theorem call_intB {X : Cx} : CallR X (.type "int") rIntB := fun pins s σ H xs us Q I r h => call_int1 pins s σ H xs us Q I r (.inr h)
def PotAt (H : Hp) (p : Addr) : Prop := ∃ x : Int, H p = some (.lst [.int x]) ∧ 0 ≤ x
theorem PotAt.ne {H : Hp} {p q : Addr} (P : PotAt H p) (h : H q = none) : q ≠ p := by
  obtain ⟨x, e, _⟩ := P
  exact (ne_of_none e h).symm
theorem PotAt.same {H H' : Hp} {p : Addr} (P : PotAt H p) (s : Same H H') : PotAt H' p := by
  obtain ⟨x, e, r⟩ := P
  exact ⟨x, s _ _ e, r⟩
theorem PotAt.upd {H : Hp} {p q : Addr} {o : HO} (P : PotAt H p) (h : H q = none) : PotAt (L2.upd H q o) p := P.same ((Same.refl H).upd h)
theorem PotAt.updN {H : Hp} {p q : Addr} {o : HO} (P : PotAt H p) (h : q ≠ p) : PotAt (L2.upd H q o) p := by
  obtain ⟨x, e, r⟩ := P
  exact ⟨x, by rw [upd_ne h.symm]; exact e, r⟩
theorem PotAt.some {H : Hp} {p : Addr} (P : PotAt H p) : H p ≠ none := fun z => by obtain ⟨x, e, _⟩ := P; rw [z] at e; cases e
theorem cp60 : CPow 10 60 := by unfold CPow; decide
theorem qm1 : IntMulOk (10 ^ Int.toNat 60) (10 ^ Int.toNat 60) := big_mul (by decide +kernel) (by decide +kernel)
theorem qm2 : IntMulOk (10 ^ Int.toNat 60 * 10 ^ Int.toNat 60) (10 ^ Int.toNat 60) := big_mul (by decide +kernel) (by decide +kernel)
theorem qm3 : IntMulOk (10 ^ Int.toNat 60 * 10 ^ Int.toNat 60 * 10 ^ Int.toNat 60) (10 ^ Int.toNat 60) := big_mul (by decide +kernel) (by decide +kernel)
theorem qm4 : (0 : Int) < 10 ^ Int.toNat 60 * 10 ^ Int.toNat 60 * 10 ^ Int.toNat 60 * 10 ^ Int.toNat 60 := by decide +kernel
end L2


set_option Elab.async false
set_option linter.all false
set_option maxRecDepth 100000
set_option maxHeartbeats 1000000
namespace L2


def IsPrev (f : Nat → Int) (p q : Nat) : Prop := q < p ∧ f q ≤ f p ∧ ∀ r, q < r → r < p → f p < f r
def IsNext (f : Nat → Int) (n p r : Nat) : Prop := p < r ∧ r < n ∧ f r < f p ∧ ∀ s, p < s → s < r → f p ≤ f s
def NoPrev (f : Nat → Int) (p : Nat) : Prop := ∀ q, q < p → f p < f q
def NoNext (f : Nat → Int) (n p : Nat) : Prop := ∀ r, p < r → r < n → f p ≤ f r

def ElderIs (f : Nat → Int) (n p : Nat) (e : Int) : Prop :=
  (NoPrev f p ∧ NoNext f n p ∧ e = -1) ∨ (∃ q, IsPrev f p q ∧ NoNext f n p ∧ e = q) ∨ (∃ r, NoPrev f p ∧ IsNext f n p r ∧ e = r) ∨
  ∃ q r, IsPrev f p q ∧ IsNext f n p r ∧ e = if f q ≤ f r then (r : Int) else q
theorem exists_last {P : Nat → Prop} [DecidablePred P] (i : Nat) : ∀ d r, r + d = i → P r → ∃ t, r ≤ t ∧ t ≤ i ∧ P t ∧ ∀ s, t < s → s ≤ i → ¬ P s := by
  intro d
  induction d with
  | zero => intro r e h; exact ⟨r, Nat.le_refl _, by omega, h, fun s h1 h2 => by omega⟩
  | succ d ih =>
    intro r e h
    by_cases hx : ∃ t, r < t ∧ t ≤ i ∧ P t
    · obtain ⟨t, h1, h2, h3⟩ := hx
      -- step to r + 1 by cases
      by_cases h4 : P (r + 1)
      · obtain ⟨u, u1, u2, u3, u4⟩ := ih (r + 1) (by omega) h4
        exact ⟨u, by omega, u2, u3, u4⟩
      · -- go on from the next one
        have gen : ∀ k t, t + k = i → r < t → P t → ∃ u, r ≤ u ∧ u ≤ i ∧ P u ∧ ∀ s, u < s → s ≤ i → ¬ P s := by
          intro k
          induction k with
          | zero => intro t e h1 h3; exact ⟨t, by omega, by omega, h3, fun s h1 h2 => by omega⟩
          | succ k ihk =>
            intro t e h1 h3
            by_cases hy : ∃ s, t < s ∧ s ≤ i ∧ P s
            · -- the last one of the rest
              have key : ∀ m, m ≤ i → (∃ s, t < s ∧ s ≤ m ∧ P s) → ∃ u, t < u ∧ u ≤ m ∧ P u ∧ ∀ s, u < s → s ≤ m → ¬ P s := by
                intro m
                induction m with
                | zero => rintro _ ⟨s, h5, h6, _⟩; omega
                | succ m ihm =>
                  rintro hm ⟨s, h5, h6, h7⟩
                  by_cases hp : P (m + 1)
                  · exact ⟨m + 1, by omega, Nat.le_refl _, hp, fun s h1 h2 => by omega⟩
                  · have hs : s ≤ m := by
                      rcases Nat.lt_or_ge m s with z | z
                      · have : s = m + 1 := by omega
                        rw [this] at h7; exact absurd h7 hp
                      · exact z
                    obtain ⟨u, u1, u2, u3, u4⟩ := ihm (by omega) ⟨s, h5, hs, h7⟩
                    refine ⟨u, u1, by omega, u3, fun s' h1 h2 => ?_⟩
                    by_cases e : s' = m + 1
                    · rw [e]; exact hp
                    · exact u4 s' h1 (by omega)
              obtain ⟨u, u1, u2, u3, u4⟩ := key i (Nat.le_refl _) hy
              exact ⟨u, by omega, u2, u3, u4⟩
            · exact ⟨t, by omega, by omega, h3, fun s h1 h2 h5 => hy ⟨s, h1, h2, h5⟩⟩
        exact gen (i - t) t (by omega) h1 h3
    · exact ⟨r, Nat.le_refl _, by omega, h, fun s h1 h2 h3 => hx ⟨s, h1, h2, h3⟩⟩

theorem last_below {P : Nat → Prop} [DecidablePred P] {n r : Nat} (hr : r < n) (h : P r) : ∃ t, r ≤ t ∧ t < n ∧ P t ∧ ∀ s, t < s → s < n → ¬ P s := by
  obtain ⟨t, h1, h2, h3, h4⟩ := exists_last (P := P) (n - 1) (n - 1 - r) r (by omega) h
  exact ⟨t, h1, by omega, h3, fun s a b => h4 s a (by omega)⟩
def Spine (f : Nat → Int) (i : Nat) (sp : List Nat) : Prop := sp.Pairwise (· < ·) ∧ ∀ q, q ∈ sp ↔ q < i ∧ ∀ r, q < r → r < i → f q ≤ f r
theorem prev_or (f : Nat → Int) (p : Nat) : NoPrev f p ∨ ∃ q, IsPrev f p q := by
  by_cases h : ∃ q, q < p ∧ f q ≤ f p
  · obtain ⟨q, h1, h2⟩ := h
    obtain ⟨t, _, t2, t3, t4⟩ := last_below (P := fun q => f q ≤ f p) h1 h2
    exact .inr ⟨t, t2, t3, fun r a b => by have := t4 r a b; omega⟩
  · exact .inl fun q hq => by
      have : ¬ (f q ≤ f p) := fun z => h ⟨q, hq, z⟩
      omega

theorem prev_open {f : Nat → Int} {i p q : Nat} (hp : p < i) (ho : ∀ r, p < r → r < i → f p ≤ f r) (h : IsPrev f p q) : (∀ r, q < r → r < i → f q ≤ f r) ∧ ∀ s, q < s → s < p → ¬ ∀ r, s < r → r < i → f s ≤ f r := by
  obtain ⟨h1, h2, h3⟩ := h
  refine ⟨fun r a b => ?_, fun s a b z => ?_⟩
  · rcases Nat.lt_trichotomy r p with c | c | c
    · have := h3 r a c; omega
    · rw [c]; exact h2
    · have := ho r c b; omega
  · have := z p b hp
    have := h3 s a b
    omega
theorem spine_step {f : Nat → Int} {i : Nat} {A B : List Nat} (hs : Spine f i (A ++ B)) (hA : ∀ q ∈ A, f q ≤ f i) (hB : ∀ q ∈ B, f i < f q) :
    Spine f (i + 1) (A ++ [i]) ∧ ElderIs f (i + 1) i (match A.getLast? with | some q => (q : Int) | none => -1) ∧ ∀ p e, p < i → ElderIs f i p e → ElderIs f (i + 1) p (if B.head? = some p then (i : Int) else e) := by
  obtain ⟨hso, hm⟩ := hs
  have hAB := List.pairwise_append.mp hso
  have noNx : NoNext f (i + 1) i := fun r a b => by omega
  refine ⟨⟨?_, fun q => ?_⟩, ?_, fun p e hp he => ?_⟩
  · refine List.pairwise_append.mpr ⟨hAB.1, List.pairwise_singleton _ _, fun a ha b hb => ?_⟩
    have : b = i := by simpa using hb
    rw [this]
    exact ((hm a).mp (List.mem_append_left _ ha)).1
  · rw [List.mem_append, List.mem_singleton]
    constructor
    · rintro (h | h)
      · obtain ⟨h1, h2⟩ := (hm q).mp (List.mem_append_left _ h)
        refine ⟨by omega, fun r a b => ?_⟩
        by_cases e : r = i
        · rw [e]; exact hA q h
        · exact h2 r a (by omega)
      · subst h; exact ⟨by omega, fun r a b => by omega⟩
    · rintro ⟨h1, h2⟩
      by_cases e : q = i
      · exact .inr e
      · have hq : q ∈ A ++ B := (hm q).mpr ⟨by omega, fun r a b => h2 r a (by omega)⟩
        rcases List.mem_append.mp hq with h | h
        · exact .inl h
        · have := hB q h
          have := h2 i (by omega) (by omega)
          omega
  · -- the elder of i
    rcases prev_or f i with h | ⟨q, h⟩
    · have hA0 : A = [] := by
        cases A with
        | nil => rfl
        | cons a r =>
          have h1 := ((hm a).mp (by simp)).1
          have := hA a (by simp)
          have := h a h1
          omega
      rw [hA0]
      exact .inl ⟨h, noNx, rfl⟩
    · have ho : ∀ r, q < r → r < i → f q ≤ f r := fun r a b => by have := h.2.2 r a b; have := h.2.1; omega
      have hqA : q ∈ A := by
        rcases List.mem_append.mp ((hm q).mpr ⟨h.1, ho⟩) with z | z
        · exact z
        · have := hB q z; have := h.2.1; omega
      have hlast : A.getLast? = some q := by
        have hne : A ≠ [] := fun z => by rw [z] at hqA; cases hqA
        rw [List.getLast?_eq_some_getLast hne]
        congr 1
        have hl : A.getLast hne ∈ A := List.getLast_mem hne
        -- q ≤ last, and last is not past q
        by_cases e : A.getLast hne = q
        · exact e
        · exfalso
          have hlt : q < A.getLast hne := by
            have hd := List.dropLast_concat_getLast hne
            have hq2 : q ∈ A.dropLast := by
              rw [← hd] at hqA
              rcases List.mem_append.mp hqA with z | z
              · exact z
              · exact absurd (by simpa using z) (Ne.symm e)
            have hp2 := hAB.1
            rw [← hd] at hp2
            exact (List.pairwise_append.mp hp2).2.2 q hq2 _ (by simp)
          have h1 := ((hm (A.getLast hne)).mp (List.mem_append_left _ hl)).1
          have := h.2.2 _ hlt h1
          have := hA _ hl
          omega
      rw [hlast]
      exact .inr (.inl ⟨q, h, noNx, rfl⟩)
  · -- the elder of an earlier place
    have nxt : ∀ r, IsNext f i p r → IsNext f (i + 1) p r := fun r ⟨a, b, c, d⟩ => ⟨a, by omega, c, d⟩
    by_cases hop : NoNext f i p
    · have hmem : p ∈ A ++ B := (hm p).mpr ⟨hp, hop⟩
      by_cases hlt : f i < f p
      · have hnx : IsNext f (i + 1) p i := ⟨hp, by omega, hlt, fun s a b => hop s a b⟩
        have hpB : p ∈ B := by
          rcases List.mem_append.mp hmem with z | z
          · have := hA p z; omega
          · exact z
        obtain ⟨b0, Br, rfl⟩ : ∃ b0 Br, B = b0 :: Br := by
          cases B with
          | nil => cases hpB
          | cons b0 Br => exact ⟨b0, Br, rfl⟩
        have hhead : (b0 :: Br).head? = some b0 := rfl
        rw [hhead]
        rcases prev_or f p with hn | ⟨q, hq⟩
        · -- nothing ahead: p is the first of all
          have e0 : b0 = p := by
            by_cases z : b0 = p
            · exact z
            · exfalso
              have hpr : p ∈ Br := by
                rcases List.mem_cons.mp hpB with y | y
                · exact absurd y.symm z
                · exact y
              have hlt2 : b0 < p := (List.pairwise_cons.mp hAB.2.1).1 p hpr
              have := ((hm b0).mp (by simp)).2 p hlt2 hp
              have := hn b0 hlt2
              omega
          rw [if_pos (by rw [e0])]
          exact .inr (.inr (.inl ⟨i, hn, hnx, rfl⟩))
        · obtain ⟨hq1, hq2⟩ := prev_open hp hop hq
          have hqm : q ∈ A ++ b0 :: Br := (hm q).mpr ⟨Nat.lt_trans hq.1 hp, hq1⟩
          by_cases hqi : f q ≤ f i
          · -- q is kept: p is the first of B
            have e0 : b0 = p := by
              by_cases z : b0 = p
              · exact z
              · exfalso
                have hpr : p ∈ Br := by
                  rcases List.mem_cons.mp hpB with y | y
                  · exact absurd y.symm z
                  · exact y
                have hlt2 : b0 < p := (List.pairwise_cons.mp hAB.2.1).1 p hpr
                have hb0 := (hm b0).mp (by simp)
                have hqA : q ∈ A := by
                  rcases List.mem_append.mp hqm with y | y
                  · exact y
                  · have := hB q y; omega
                have hqb : q < b0 := hAB.2.2 q hqA b0 (by simp)
                exact hq2 b0 hqb hlt2 hb0.2
            rw [if_pos (by rw [e0])]
            refine .inr (.inr (.inr ⟨q, i, hq, hnx, ?_⟩))
            rw [if_pos hqi]
          · -- q goes, too: the elder stays
            have hqB : q ∈ b0 :: Br := by
              rcases List.mem_append.mp hqm with y | y
              · exact absurd (hA q y) hqi
              · exact y
            have hne : b0 ≠ p := by
              intro z
              subst z
              rcases List.mem_cons.mp hqB with y | y
              · have := hq.1; omega
              · have := (List.pairwise_cons.mp hAB.2.1).1 q y
                have := hq.1; omega
            rw [if_neg (by intro z; exact hne (Option.some.inj z))]
            have ee : e = q := by
              rcases he with ⟨h1, _, _⟩ | ⟨q', h1, _, h3⟩ | ⟨r, h1, _, _⟩ | ⟨q', r, _, h2, _⟩
              · have := h1 q hq.1; have := hq.2.1; omega
              · have : q' = q := by
                  rcases Nat.lt_trichotomy q' q with y | y | y
                  · have := h1.2.2 q y hq.1; have := hq.2.1; omega
                  · exact y
                  · have := hq.2.2 q' y h1.1; have := h1.2.1; omega
                rw [h3, this]
              · have := h1 q hq.1; have := hq.2.1; omega
              · have := hop r h2.1 h2.2.1; have := h2.2.2.1; omega
            refine .inr (.inr (.inr ⟨q, i, hq, hnx, ?_⟩))
            rw [if_neg hqi, ee]
      · -- still open: not of B
        have hnn : NoNext f (i + 1) p := fun r a b => by
          by_cases z : r = i
          · rw [z]; omega
          · exact hop r a (by omega)
        have hne : B.head? ≠ some p := fun z => by
          have : p ∈ B := List.mem_of_head? z
          have := hB p this
          omega
        rw [if_neg hne]
        rcases he with ⟨h1, _, h3⟩ | ⟨q, h1, _, h3⟩ | ⟨r, _, h2, _⟩ | ⟨q, r, _, h2, _⟩
        · exact .inl ⟨h1, hnn, h3⟩
        · exact .inr (.inl ⟨q, h1, hnn, h3⟩)
        · have := hop r h2.1 h2.2.1; have := h2.2.2.1; omega
        · have := hop r h2.1 h2.2.1; have := h2.2.2.1; omega
    · -- shut already
      have hne : B.head? ≠ some p := fun z => hop ((hm p).mp (List.mem_append_right _ (List.mem_of_head? z))).2
      rw [if_neg hne]
      rcases he with ⟨_, h2, _⟩ | ⟨q, _, h2, _⟩ | ⟨r, h1, h2, h3⟩ | ⟨q, r, h1, h2, h3⟩
      · exact absurd h2 hop
      · exact absurd h2 hop
      · exact .inr (.inr (.inl ⟨r, h1, nxt r h2, h3⟩))
      · exact .inr (.inr (.inr ⟨q, r, h1, nxt r h2, h3⟩))
end L2


set_option Elab.async false
set_option linter.all false
set_option maxRecDepth 100000
set_option maxHeartbeats 1000000
namespace L2
open PySem PySem.Spec PyProof.Rows PySem.W


theorem fm_congr {α β : Type} {f g : α → Option β} : ∀ {l : List α}, (∀ x ∈ l, f x = g x) → l.filterMap f = l.filterMap g
  | [], _ => rfl
  | x :: r, h => by rw [List.filterMap_cons, List.filterMap_cons, h x (List.mem_cons_self ..), fm_congr fun y hy => h y (List.mem_cons_of_mem _ hy)]
theorem keep_take (its : List Value) (k : Nat) (hk : k ≤ its.length) (start : Nat) : (its.zipIdx start).filterMap (fun xk => if (decide (((start + k : Nat) : Int) ≤ (xk.2 : Int)) && decide ((xk.2 : Int) < ((start + its.length : Nat) : Int)) && (((xk.2 : Int) - ((start + k : Nat) : Int)) % 1 == 0)) = true then none else some xk.1) = its.take k := by
  induction its generalizing k start with
  | nil => simp
  | cons x r ih =>
    rw [List.zipIdx_cons, List.filterMap_cons]
    cases k with
    | zero =>
      have h1 : (decide (((start + 0 : Nat) : Int) ≤ (start : Int)) && decide ((start : Int) < ((start + (x :: r).length : Nat) : Int)) && (((start : Int) - ((start + 0 : Nat) : Int)) % 1 == 0)) = true := by
        simp; omega
      simp only [h1, if_true]
      have := ih 0 (by omega) (start + 1)
      rw [List.take_zero] at this ⊢
      rw [← this]
      refine fm_congr fun xk hxk => ?_
      have hm := List.mem_zipIdx hxk
      have e1 : (decide (((start + 0 : Nat) : Int) ≤ (xk.2 : Int))) = (decide (((start + 1 + 0 : Nat) : Int) ≤ (xk.2 : Int))) := by
        rw [decide_eq_decide]; omega
      have e2 : ((start + (x :: r).length : Nat) : Int) = ((start + 1 + r.length : Nat) : Int) := by simp; omega
      have e3 : (((xk.2 : Int) - ((start + 0 : Nat) : Int)) % 1 == 0) = (((xk.2 : Int) - ((start + 1 + 0 : Nat) : Int)) % 1 == 0) := by simp [Int.emod_one]
      rw [e1, e2, e3]
    | succ k =>
      have h1 : (decide (((start + (k + 1) : Nat) : Int) ≤ (start : Int)) && decide ((start : Int) < ((start + (x :: r).length : Nat) : Int)) && (((start : Int) - ((start + (k + 1) : Nat) : Int)) % 1 == 0)) = false := by
        have : decide (((start + (k + 1) : Nat) : Int) ≤ (start : Int)) = false := decide_eq_false (by omega)
        rw [this]; rfl
      simp only [h1, Bool.false_eq_true, if_false]
      rw [List.take_succ_cons]
      congr 1
      have := ih k (by simpa using hk) (start + 1)
      rw [← this]
      refine fm_congr fun xk hxk => ?_
      have e1 : ((start + (k + 1) : Nat) : Int) = ((start + 1 + k : Nat) : Int) := by omega
      have e2 : ((start + (x :: r).length : Nat) : Int) = ((start + 1 + r.length : Nat) : Int) := by simp; omega
      rw [e1, e2]
section
variable {X : Cx} {e st : Expr} {te ts : TE} {pos pos1 p2 : Pos}
def tDelT (te ts : TE) : TS := fun D σ H => te σ H fun x H1 => ts σ H1 fun z H2 => ∃ (l : Addr) (xs : List V) (k : Nat), x = .ref l ∧ z = .int k ∧ H2 l = some (.lst xs) ∧ k ≤ xs.length ∧ D.nx σ (upd H2 l (.lst (xs.take k)))
theorem ps_delTail (he : PE X e te) (hs : PE X st ts) : PS X (.Delete [.Subscript e (.Slice (some st) none none p2) pos1] pos) (tDelT te ts) := by
  intro pins s σ H D I h
  refine wpAny_Delete (wpAny_deleteEach_cons ?_)
  show wpAny _ _ (eval e X.env >>= fun ov => holding [ov] (eval (.Slice (some st) none none p2) X.env) >>= fun iv => (do standAt pos1; holding [ov, iv] (delItem ov iv); release [ov, iv] [])) _ _ _
  refine wpAny_bind (thn (he pins s σ H _ I h) fun v s1 ⟨x, H1, I1, r1, q1⟩ => ?_)
  refine wpAny_bind (wpAny_holding ?_)
  refine wpAny_Slice ?_
  rw [evalPart_some]
  refine thn (hs pins s1 σ H1 _ I1 q1) fun vs s2 ⟨z, H2, I2, r2, l, xs, k, e1, e2, hx, hk, q⟩ => ?_
  subst e1 e2
  obtain ⟨tk, rfl⟩ := r2
  cases r1
  rw [evalPart_none]
  refine wpAny_pure ?_
  refine wpAny_pure ?_
  have I4 : Inv X pins σ H2 { s2 with heap := s2.heap.push { cls := .type "slice", data := .fields #[.int k tk, .none, .none] } } := I2.kept (t' := s2.toks) fun b ob q => Heap.get?_push_of_some _ q
  have hsl : ({ s2 with heap := s2.heap.push { cls := .type "slice", data := .fields #[.int k tk, .none, .none] } } : Shared).heap.get? s2.heap.objs.size = some { cls := .type "slice", data := .fields #[.int k tk, .none, .none] } := Heap.get?_push_size _ rfl
  obtain ⟨z, its, n, r, hlen, hob⟩ := I4.lstM hx
  generalize ({ s2 with heap := s2.heap.push { cls := .type "slice", data := .fields #[.int k tk, .none, .none] } } : Shared) = s4 at I4 hsl hob ⊢
  have hT : s4.TypeIs (.ref l) "list" := ⟨_, hob, rfl⟩
  have hTs : s4.TypeIs (.ref s2.heap.objs.size) "slice" := ⟨_, hsl, rfl⟩
  refine wpAny_bind (wpAny_standAt (wpAny_bind (wpAny_holding ?_)))
  refine wpAny_delItem_slot hT (by decide) F.slot_list_delitem (wpAny_call_entry F.slot_list_delitem hT F.entry_list_delitem ?_ (F.args_list_delitem_2 _ _))
  show wpAny _ _ (Builtin.List.listSubscript? (.ref s2.heap.objs.size) >>= _) _ _ s4
  refine wpAny_bind ?_; unfold Builtin.List.listSubscript?; refine wpAny_bind (wpAny_specialOf hTs slice_no_index ?_)
  simp only [Option.isNone_none, if_true]; refine wpAny_pure ?_
  show wpAny _ _ (typeOf (.ref s2.heap.objs.size) >>= _) _ _ s4
  refine wpAny_bind (wpAny_typeOf hTs ?_); rw [if_neg (by decide), listSliceParts_eq]
  refine wpAny_bind (wpAny_bind (wpAny_field hsl rfl (x := .none) rfl (wpAny_bind (wpAny_listPart (k := none) .none ?_)))); rw [if_neg (show ¬ ((rawPart none == rawInt 0) = true) from Bool.false_ne_true)]
  refine wpAny_bind (wpAny_field hsl rfl (x := .int k tk) rfl (wpAny_bind (wpAny_listPart (.int (k : Int) tk) ?_)))
  refine wpAny_bind (wpAny_field hsl rfl (x := .none) rfl (wpAny_bind (wpAny_listPart (k := none) .none (wpAny_pure ?_))))
  refine wpAny_bind (m := Builtin.List.listItems (.ref l)) ?_; unfold Builtin.List.listItems
  refine wpAny_bind (wpAny_seqItems hob rfl (wpAny_pure ?_)); refine wpAny_bind (wpAny_of_eq (sliceIndices_raw (some (k : Int)) none none its.toArray.size (by simp)) (wpAny_bind (wpAny_rule ?_)))
  have hb : sliceBounds (some (k : Int)) none none its.toArray.size = ((k : Int), ((its.length : Nat) : Int), 1) := by
    unfold sliceBounds
    simp
    omega
  rw [hb]
  have hf : ∀ f : Array Value → Array Value, (∀ ys : Array Value, f ys = (ys.toList.zipIdx.filterMap fun xk => if (decide ((k : Int) ≤ (xk.2 : Int)) && decide ((xk.2 : Int) < ((its.length : Nat) : Int)) && (((xk.2 : Int) - (k : Int)) % 1 == 0)) = true then none else some xk.1).toArray) → f its.toArray = (its.take k).toArray := fun f h => by
    rw [h]
    congr 1
    have := keep_take its k (by omega) 0
    simpa using this
  refine wpAny_bind (m := updateSeq l _) ?_
  refine wpAny_updateSeq (n := n) hob rfl ?_ (by rw [List.size_toArray]; omega) ?_
  · refine wpAny_bind (wpAny_letGo (wpAny_pure ⟨_, rfl, ?_⟩))
    refine wpAny_release (wpAny_deleteEach_nil ⟨σ, _, I4.lset hx hob (hf _ fun ys => rfl) (r.takeN k) ?_, q⟩)
    rw [List.length_take]; omega
  · rw [List.size_toArray]
    refine Nat.le_trans (List.length_filterMap_le _ _) ?_
    rw [List.length_zipIdx]
    show its.length ≤ sizeLine + 1
    omega
end
end L2


set_option Elab.async false
set_option linter.all false
set_option maxRecDepth 100000
set_option maxHeartbeats 1000000
namespace L2
open PySem PySem.Spec PyProof.Rows PySem.W


theorem IsPrev.unique {f : Nat → Int} {p q q' : Nat} (h : IsPrev f p q) (k : IsPrev f p q') : q = q' := by
  rcases Nat.lt_trichotomy q q' with z | z | z
  · have := h.2.2 q' z k.1; have := k.2.1; omega
  · exact z
  · have := k.2.2 q z h.1; have := h.2.1; omega
theorem IsNext.unique {f : Nat → Int} {n p r r' : Nat} (h : IsNext f n p r) (k : IsNext f n p r') : r = r' := by
  rcases Nat.lt_trichotomy r r' with z | z | z
  · have := k.2.2.2 r h.1 z; have := h.2.2.1; omega
  · exact z
  · have := h.2.2.2 r' k.1 z; have := k.2.2.1; omega
theorem IsPrev.no {f : Nat → Int} {p q : Nat} (h : IsPrev f p q) (k : NoPrev f p) : False := by have := k q h.1; have := h.2.1; omega
theorem IsNext.no {f : Nat → Int} {n p r : Nat} (h : IsNext f n p r) (k : NoNext f n p) : False := by have := k r h.1 h.2.1; have := h.2.2.1; omega
theorem ElderIs.unique {f : Nat → Int} {n p : Nat} {e e' : Int} (h : ElderIs f n p e) (k : ElderIs f n p e') : e = e' := by
  rcases h with ⟨h1, h2, h3⟩ | ⟨q, h1, h2, h3⟩ | ⟨r, h1, h2, h3⟩ | ⟨q, r, h1, h2, h3⟩ <;>
  rcases k with ⟨k1, k2, k3⟩ | ⟨q', k1, k2, k3⟩ | ⟨r', k1, k2, k3⟩ | ⟨q', r', k1, k2, k3⟩
  · rw [h3, k3]
  · exact (k1.no h1).elim
  · exact (k2.no h2).elim
  · exact (k1.no h1).elim
  · exact (h1.no k1).elim
  · rw [h3, k3, h1.unique k1]
  · exact (h1.no k1).elim
  · exact (k2.no h2).elim
  · exact (h2.no k2).elim
  · exact (k1.no h1).elim
  · rw [h3, k3, h2.unique k2]
  · exact (k1.no h1).elim
  · exact (h1.no k1).elim
  · exact (h2.no k2).elim
  · exact (h1.no k1).elim
  · rw [h3, k3, h1.unique k1, h2.unique k2]
def TreeIs (ns : List Int) (es : List Int) : Prop := es.length = ns.length ∧ ∀ p, p < ns.length → ElderIs (nth ns) ns.length p (es.getD p 0)
theorem TreeIs.unique {ns es es' : List Int} (h : TreeIs ns es) (k : TreeIs ns es') : es = es' := by
  refine List.ext_getElem (by rw [h.1, k.1]) fun j h1 h2 => ?_
  have hj : j < ns.length := by rw [← h.1]; exact h1
  have := (h.2 j hj).unique (k.2 j hj)
  simpa [List.getD_eq_getElem?_getD, h1, h2] using this

def GoodS (f : Nat → Int) (n : Nat) (a b e : Int) : Prop := 0 ≤ a ∧ a ≤ b + 1 ∧ b < n ∧ (∀ k : Nat, a = ((k + 1 : Nat) : Int) → ∀ q : Nat, a ≤ q → (q : Int) ≤ b → f k ≤ f q) ∧ (∀ k : Nat, b + 1 = (k : Int) → k < n → ∀ q : Nat, a ≤ q → (q : Int) ≤ b → f k < f q) ∧
  e = (if a = 0 then (if b + 1 = n then -1 else b + 1) else if b + 1 = n then a - 1 else if f (a - 1).toNat ≤ f (b + 1).toNat then b + 1 else a - 1)
theorem GoodS.elder {f : Nat → Int} {n : Nat} {a c : Nat} {e : Int} (h : GoodS f n a ((a + c : Nat) : Int) e) : ElderIs f n (lowF f a c) e := by
  obtain ⟨h0, h1, h2, h3, h4, h5⟩ := h
  obtain ⟨l1, l2, l3, l4⟩ := lowF_is f a c
  generalize lowF f a c = p at l1 l2 l3 l4
  have prevA : ∀ k, a = k + 1 → IsPrev f p k := fun k hk => ⟨by omega, h3 k (by omega) p (by omega) (by omega), fun r r1 r2 => l3 r (by omega) r2⟩
  have prev0 : a = 0 → NoPrev f p := fun z q hq => l3 q (by omega) hq
  have nextB : a + c + 1 < n → IsNext f n p (a + c + 1) := fun z => ⟨by omega, z, h4 (a + c + 1) (by omega) z p (by omega) (by omega), fun s s1 s2 => l4 s s1 (by omega)⟩
  have next0 : a + c + 1 = n → NoNext f n p := fun z r r1 r2 => l4 r r1 (by omega)
  by_cases za : a = 0
  · by_cases zb : a + c + 1 = n
    · refine .inl ⟨prev0 za, next0 zb, ?_⟩
      rw [h5, if_pos (by omega), if_pos (by omega)]
    · refine .inr (.inr (.inl ⟨a + c + 1, prev0 za, nextB (by omega), ?_⟩))
      rw [h5, if_pos (by omega), if_neg (by omega)]; omega
  · obtain ⟨k, hk⟩ : ∃ k, a = k + 1 := ⟨a - 1, by omega⟩
    by_cases zb : a + c + 1 = n
    · refine .inr (.inl ⟨k, prevA k hk, next0 zb, ?_⟩)
      rw [h5, if_neg (by omega), if_pos (by omega)]; omega
    · refine .inr (.inr (.inr ⟨k, a + c + 1, prevA k hk, nextB (by omega), ?_⟩))
      have e1 : ((a : Int) - 1).toNat = k := by omega
      have e2 : (((a + c : Nat) : Int) + 1).toNat = a + c + 1 := by omega
      rw [h5, if_neg (by omega), if_neg (by omega), e1, e2]
      split <;> omega
theorem GoodS.ahead {f : Nat → Int} {n : Nat} {a c : Nat} {e : Int} (h : GoodS f n a ((a + c : Nat) : Int) e) : GoodS f n a ((lowF f a c : Int) - 1) (lowF f a c) := by
  obtain ⟨h0, h1, h2, h3, h4, h5⟩ := h
  obtain ⟨l1, l2, l3, l4⟩ := lowF_is f a c
  generalize lowF f a c = p at l1 l2 l3 l4
  refine ⟨h0, by omega, by omega, fun k hk q q1 q2 => h3 k hk q q1 (by omega), fun k hk hkn q q1 q2 => ?_, ?_⟩
  · have : k = p := by omega
    subst this
    exact l3 q (by omega) (by omega)
  · by_cases za : a = 0
    · rw [if_pos (by omega), if_neg (by omega)]; omega
    · rw [if_neg (by omega), if_neg (by omega)]
      have e2 : ((p : Int) - 1 + 1).toNat = p := by omega
      have := h3 (a - 1) (by omega) p (by omega) (by omega)
      have e1 : ((a : Int) - 1).toNat = a - 1 := by omega
      rw [e1, e2, if_pos this]; omega
theorem GoodS.behind {f : Nat → Int} {n : Nat} {a c : Nat} {e : Int} (h : GoodS f n a ((a + c : Nat) : Int) e) : GoodS f n ((lowF f a c : Int) + 1) ((a + c : Nat) : Int) (lowF f a c) := by
  obtain ⟨h0, h1, h2, h3, h4, h5⟩ := h
  obtain ⟨l1, l2, l3, l4⟩ := lowF_is f a c
  generalize lowF f a c = p at l1 l2 l3 l4
  refine ⟨by omega, by omega, h2, fun k hk q q1 q2 => ?_, fun k hk hkn q q1 q2 => h4 k hk hkn q (by omega) q2, ?_⟩
  · have : k = p := by omega
    subst this
    exact l4 q (by omega) (by omega)
  · rw [if_neg (by omega)]
    by_cases zb : a + c + 1 = n
    · rw [if_pos (by omega)]; omega
    · rw [if_neg (by omega)]
      have e1 : ((p : Int) + 1 - 1).toNat = p := by omega
      have e2 : (((a + c : Nat) : Int) + 1).toNat = a + c + 1 := by omega
      have := h4 (a + c + 1) (by omega) (by omega) p (by omega) (by omega)
      rw [e1, e2, if_neg (by omega)]; omega

theorem elder_lists {f : Nat → Int} {n p : Nat} (hp : p < n) : ElderIs f n p
    (match ((List.range p).filter fun q => decide (f q ≤ f p)).getLast?, ((List.range (n - (p + 1))).filter fun j => decide (f (p + 1 + j) < f p)).head? with
      | none, none => -1
      | none, some j => ((p + 1 + j : Nat) : Int)
      | some q, none => q
      | some q, some j => if f q ≤ f (p + 1 + j) then ((p + 1 + j : Nat) : Int) else q) := by
  have hA : (((List.range p).filter fun q => decide (f q ≤ f p)).getLast? = none ∧ NoPrev f p) ∨ ∃ q, ((List.range p).filter fun q => decide (f q ≤ f p)).getLast? = some q ∧ IsPrev f p q := by
    induction p with
    | zero => exact .inl ⟨rfl, fun q hq => by omega⟩
    | succ p _ =>
      generalize p + 1 = P
      have key : ∀ m, m ≤ P → (((List.range m).filter fun q => decide (f q ≤ f P)).getLast? = none ∧ ∀ q, q < m → f P < f q) ∨ ∃ q, ((List.range m).filter fun q => decide (f q ≤ f P)).getLast? = some q ∧ q < m ∧ f q ≤ f P ∧ ∀ r, q < r → r < m → f P < f r := by
        intro m
        induction m with
        | zero => intro _; exact .inl ⟨rfl, fun q hq => by omega⟩
        | succ m ih =>
          intro hm
          rw [List.range_succ, List.filter_append]
          by_cases hle : f m ≤ f P
          · refine .inr ⟨m, ?_, by omega, hle, fun r r1 r2 => by omega⟩
            simp [hle]
          · have e : List.filter (fun q => decide (f q ≤ f P)) [m] = [] := by simp [hle]
            rw [e, List.append_nil]
            rcases ih (by omega) with ⟨i1, i2⟩ | ⟨q, i1, i2, i3, i4⟩
            · refine .inl ⟨i1, fun q hq => ?_⟩
              by_cases z : q = m
              · rw [z]; omega
              · exact i2 q (by omega)
            · refine .inr ⟨q, i1, by omega, i3, fun r r1 r2 => ?_⟩
              by_cases z : r = m
              · rw [z]; omega
              · exact i4 r r1 (by omega)
      rcases key P (Nat.le_refl _) with ⟨i1, i2⟩ | ⟨q, i1, i2, i3, i4⟩
      · exact .inl ⟨i1, i2⟩
      · exact .inr ⟨q, i1, i2, i3, i4⟩
  have hB : (((List.range (n - (p + 1))).filter fun j => decide (f (p + 1 + j) < f p)).head? = none ∧ NoNext f n p) ∨ ∃ j, ((List.range (n - (p + 1))).filter fun j => decide (f (p + 1 + j) < f p)).head? = some j ∧ IsNext f n p (p + 1 + j) := by
    have key : ∀ m, (((List.range m).filter fun j => decide (f (p + 1 + j) < f p)).head? = none ∧ ∀ j, j < m → f p ≤ f (p + 1 + j)) ∨ ∃ j, ((List.range m).filter fun j => decide (f (p + 1 + j) < f p)).head? = some j ∧ j < m ∧ f (p + 1 + j) < f p ∧ ∀ i, i < j → f p ≤ f (p + 1 + i) := by
      intro m
      induction m with
      | zero => exact .inl ⟨rfl, fun q hq => by omega⟩
      | succ m ih =>
        rw [List.range_succ, List.filter_append]
        rcases ih with ⟨i1, i2⟩ | ⟨j, i1, i2, i3, i4⟩
        · have e0 : List.filter (fun j => decide (f (p + 1 + j) < f p)) (List.range m) = [] := List.head?_eq_none_iff.mp i1
          rw [e0, List.nil_append]
          by_cases hlt : f (p + 1 + m) < f p
          · refine .inr ⟨m, by simp [hlt], by omega, hlt, fun i hi => i2 i hi⟩
          · refine .inl ⟨by simp [hlt], fun j hj => ?_⟩
            by_cases z : j = m
            · rw [z]; omega
            · exact i2 j (by omega)
        · refine .inr ⟨j, ?_, by omega, i3, i4⟩
          rw [List.head?_append, i1]; rfl
    rcases key (n - (p + 1)) with ⟨i1, i2⟩ | ⟨j, i1, i2, i3, i4⟩
    · refine .inl ⟨i1, fun r r1 r2 => ?_⟩
      have := i2 (r - (p + 1)) (by omega)
      have e : p + 1 + (r - (p + 1)) = r := by omega
      rw [e] at this; exact this
    · refine .inr ⟨j, i1, by omega, by omega, i3, fun s s1 s2 => ?_⟩
      have := i4 (s - (p + 1)) (by omega)
      have e : p + 1 + (s - (p + 1)) = s := by omega
      rw [e] at this; exact this
  rcases hA with ⟨a1, a2⟩ | ⟨q, a1, a2⟩ <;> rcases hB with ⟨b1, b2⟩ | ⟨j, b1, b2⟩ <;> rw [a1, b1]
  · exact .inl ⟨a2, b2, rfl⟩
  · exact .inr (.inr (.inl ⟨_, a2, b2, rfl⟩))
  · exact .inr (.inl ⟨_, a2, b2, rfl⟩)
  · exact .inr (.inr (.inr ⟨_, _, a2, b2, rfl⟩))

def StackAt (H : Hp) (l : Addr) (st : List (Int × Int × Int)) : Prop := ∃ qs : List Addr, H l = some (.lst (qs.map V.ref)) ∧ qs.length = st.length ∧ ∀ (j : Nat) (q : Addr) (x : Int × Int × Int), qs[j]? = some q → st[j]? = some x → H q = some (.tup [.int x.1, .int x.2.1, .int x.2.2])
theorem StackAt.same {H H' : Hp} {l : Addr} {st : List (Int × Int × Int)} (S : StackAt H l st) (s : Same H H') : StackAt H' l st := by
  obtain ⟨qs, h1, h2, h3⟩ := S
  exact ⟨qs, s _ _ h1, h2, fun j q x a b => s _ _ (h3 j q x a b)⟩
theorem StackAt.other {H : Hp} {l e : Addr} {st : List (Int × Int × Int)} {zs : List V} {o : HO} (S : StackAt H l st) (hne : e ≠ l) (he : H e = some (.lst zs)) : StackAt (upd H e o) l st := by
  obtain ⟨qs, h1, h2, h3⟩ := S
  refine ⟨qs, by rw [upd_ne hne.symm]; exact h1, h2, fun j q x a b => ?_⟩
  have h := h3 j q x a b
  rw [upd_ne]
  · exact h
  · intro z; subst z; rw [he] at h; cases h
theorem StackAt.push {H : Hp} {l q : Addr} {st : List (Int × Int × Int)} {x : Int × Int × Int} (S : StackAt H l st) (hq : H q = some (.tup [.int x.1, .int x.2.1, .int x.2.2])) : ∃ xs : List V, H l = some (.lst xs) ∧ xs.length = st.length ∧ StackAt (upd H l (.lst (xs ++ [V.ref q]))) l (st ++ [x]) := by
  obtain ⟨qs, h1, h2, h3⟩ := S
  have ql : q ≠ l := fun z => by rw [z, h1] at hq; cases hq
  refine ⟨_, h1, by simp [h2], qs ++ [q], by rw [upd_same]; simp, by simp [h2], fun j p y a b => ?_⟩
  by_cases hj : j < qs.length
  · rw [List.getElem?_append_left hj] at a
    rw [List.getElem?_append_left (by omega)] at b
    have h := h3 j p y a b
    rw [upd_ne]
    · exact h
    · intro z; rw [z, h1] at h; cases h
  · have hjl := (List.getElem?_eq_some_iff.mp a).1
    have e : j = qs.length := by simp at hjl; omega
    subst e
    rw [List.getElem?_append_right (Nat.le_refl _)] at a
    rw [h2, List.getElem?_append_right (Nat.le_refl _)] at b
    simp at a b
    rw [← a, ← b, upd_ne ql]; exact hq
theorem while_m {c : TT} {tb : TS} {D : Ends} {σ : St} {H : Hp} (Pv : Nat → St → Hp → Prop) (m0 : Nat) (h0 : Pv m0 σ H)
    (hs : ∀ m σ H, Pv m σ H → c σ H fun b H1 => if b = true then ∃ Nx : St → Hp → Prop, (∀ σ' H', Nx σ' H' → ∃ m', m' < m ∧ Pv m' σ' H') ∧ tb { D with nx := Nx, ct := Nx, bk := D.nx } σ H1 else D.nx σ H1) : WhileR c tb D σ H := ⟨Pv, ⟨m0, h0⟩, hs⟩
end L2


set_option Elab.async false
set_option linter.all false
set_option maxRecDepth 100000
set_option maxHeartbeats 1000000
namespace L2


def Over (f : Nat → Int) (o p : Nat) : Prop := (o < p ∧ ∀ r, o < r → r ≤ p → f o ≤ f r) ∨ (p < o ∧ ∀ r, p ≤ r → r < o → f o < f r)
theorem Over.irrefl {f : Nat → Int} {p : Nat} : ¬ Over f p p := by rintro (⟨h, _⟩ | ⟨h, _⟩) <;> omega
theorem Over.ne {f : Nat → Int} {o p : Nat} (h : Over f o p) : o ≠ p := fun z => Over.irrefl (z ▸ h)
theorem Over.trans {f : Nat → Int} {o e p : Nat} (h : Over f o e) (k : Over f e p) : Over f o p := by
  rcases h with ⟨h1, h2⟩ | ⟨h1, h2⟩ <;> rcases k with ⟨k1, k2⟩ | ⟨k1, k2⟩
  · refine .inl ⟨by omega, fun r r1 r2 => ?_⟩
    by_cases z : r ≤ e
    · exact h2 r r1 z
    · have := k2 r (by omega) r2; have := h2 e h1 (Nat.le_refl _); omega
  · have he := h2 e h1 (Nat.le_refl _)
    rcases Nat.lt_trichotomy o p with z | z | z
    · exact .inl ⟨z, fun r r1 r2 => h2 r r1 (by omega)⟩
    · have := k2 p (Nat.le_refl _) k1; subst z; omega
    · exact .inr ⟨z, fun r r1 r2 => by have := k2 r r1 (by omega); omega⟩
  · have he := h2 e (Nat.le_refl _) h1
    rcases Nat.lt_trichotomy o p with z | z | z
    · exact .inl ⟨z, fun r r1 r2 => by have := k2 r (by omega) r2; omega⟩
    · have := k2 p k1 (Nat.le_refl _); subst z; omega
    · exact .inr ⟨z, fun r r1 r2 => h2 r (by omega) r2⟩
  · refine .inr ⟨by omega, fun r r1 r2 => ?_⟩
    by_cases z : r < e
    · have := k2 r r1 z; have := h2 e (Nat.le_refl _) h1; omega
    · exact h2 r (by omega) r2
theorem elder_over {f : Nat → Int} {n p : Nat} {e : Int} (hp : p < n) (h : ElderIs f n p e) : e = -1 ∨ ∃ q : Nat, e = q ∧ q < n ∧ Over f q p := by
  have pv : ∀ q, IsPrev f p q → Over f q p := fun q h => .inl ⟨h.1, fun r r1 r2 => by
    by_cases z : r = p
    · rw [z]; exact h.2.1
    · have := h.2.2 r r1 (by omega); have := h.2.1; omega⟩
  have nx : ∀ q, IsNext f n p q → Over f q p := fun q h => .inr ⟨h.1, fun r r1 r2 => by
    by_cases z : r = p
    · rw [z]; exact h.2.2.1
    · have := h.2.2.2 r (by omega) r2; have := h.2.2.1; omega⟩
  rcases h with ⟨_, _, h⟩ | ⟨q, h1, _, h⟩ | ⟨r, _, h1, h⟩ | ⟨q, r, h1, h2, h⟩
  · exact .inl h
  · exact .inr ⟨q, h, by have := h1.1; omega, pv q h1⟩
  · exact .inr ⟨r, h, h1.2.1, nx r h1⟩
  · by_cases z : f q ≤ f r
    · rw [if_pos z] at h; exact .inr ⟨r, h, h2.2.1, nx r h2⟩
    · rw [if_neg z] at h; exact .inr ⟨q, h, by have := h1.1; omega, pv q h1⟩
theorem over_step {f : Nat → Int} {n p o : Nat} {e : Int} (hp : p < n) (ho : o < n) (h : ElderIs f n p e) (hO : Over f o p) : ∃ q : Nat, e = q ∧ q < n ∧ (o = q ∨ Over f o q) := by
  rcases hO with ⟨o1, o2⟩ | ⟨o1, o2⟩
  · have op := o2 p o1 (Nat.le_refl _)
    have pv : ∀ q, IsPrev f p q → o = q ∨ (o < q ∧ Over f o q ∧ f o ≤ f q) := fun q h => by
      rcases Nat.lt_trichotomy o q with z | z | z
      · have := h.1; exact .inr ⟨z, .inl ⟨z, fun r r1 r2 => o2 r r1 (by omega)⟩, o2 q z (by omega)⟩
      · exact .inl z
      · have := h.2.2 o z o1; omega
    rcases h with ⟨h1, _, h⟩ | ⟨q, h1, _, h⟩ | ⟨r, h1, _, h⟩ | ⟨q, r, h1, h2, h⟩
    · have := h1 o o1; omega
    · refine ⟨q, h, by have := h1.1; omega, ?_⟩
      rcases pv q h1 with z | z
      · exact .inl z
      · exact .inr z.2.1
    · have := h1 o o1; omega
    · by_cases z : f q ≤ f r
      · rw [if_pos z] at h
        refine ⟨r, h, h2.2.1, .inr (.inl ⟨by have := h2.1; omega, fun s s1 s2 => ?_⟩)⟩
        by_cases sp : s ≤ p
        · exact o2 s s1 sp
        · by_cases sr : s = r
          · rw [sr]
            rcases pv q h1 with y | y
            · rw [y]; exact z
            · have := y.2.2; omega
          · have := h2.2.2.2 s (by omega) (by omega); omega
      · rw [if_neg z] at h
        refine ⟨q, h, by have := h1.1; omega, ?_⟩
        rcases pv q h1 with z | z
        · exact .inl z
        · exact .inr z.2.1
  · have op := o2 p (Nat.le_refl _) o1
    have nx : ∀ r, IsNext f n p r → o = r ∨ (r < o ∧ Over f o r ∧ f o < f r) := fun r h => by
      rcases Nat.lt_trichotomy o r with z | z | z
      · have := h.2.2.2 o o1 z; omega
      · exact .inl z
      · have := h.1; exact .inr ⟨z, .inr ⟨z, fun s s1 s2 => o2 s (by omega) s2⟩, o2 r (by omega) z⟩
    rcases h with ⟨_, h1, h⟩ | ⟨q, _, h1, h⟩ | ⟨r, _, h1, h⟩ | ⟨q, r, h1, h2, h⟩
    · have := h1 o o1 ho; omega
    · have := h1 o o1 ho; omega
    · refine ⟨r, h, h1.2.1, ?_⟩
      rcases nx r h1 with z | z
      · exact .inl z
      · exact .inr z.2.1
    · by_cases z : f q ≤ f r
      · rw [if_pos z] at h
        refine ⟨r, h, h2.2.1, ?_⟩
        rcases nx r h2 with z | z
        · exact .inl z
        · exact .inr z.2.1
      · rw [if_neg z] at h
        refine ⟨q, h, by have := h1.1; omega, .inr (.inr ⟨by have := h1.1; omega, fun s s1 s2 => ?_⟩)⟩
        by_cases sp : p ≤ s
        · exact o2 s sp s2
        · by_cases sq : s = q
          · rw [sq]
            rcases nx r h2 with y | y
            · rw [y]; omega
            · have := y.2.2; omega
          · have := h1.2.2 s (by omega) (by omega); omega
theorem over_iff {f : Nat → Int} {n p o q : Nat} (hp : p < n) (ho : o < n) (h : ElderIs f n p (q : Int)) : Over f o p ↔ o = q ∨ Over f o q := by
  refine ⟨fun k => ?_, fun k => ?_⟩
  · obtain ⟨q', e, _, z⟩ := over_step hp ho h k
    have : q' = q := by omega
    rw [this] at z; exact z
  · rcases elder_over hp h with z | ⟨q', e, _, z⟩
    · omega
    · have : q' = q := by omega
      rw [this] at z
      rcases k with k | k
      · rw [k]; exact z
      · exact k.trans z
theorem over_none {f : Nat → Int} {n p o : Nat} (hp : p < n) (ho : o < n) (h : ElderIs f n p (-1)) : ¬ Over f o p := fun k => by
  obtain ⟨q', e, _, z⟩ := over_step hp ho h k
  omega


theorem count_same {P Q : Nat → Bool} : ∀ n, (∀ o, o < n → P o = Q o) → (List.range n).countP P = (List.range n).countP Q
  | 0, _ => rfl
  | n + 1, h => by
    rw [List.range_succ, List.countP_append, List.countP_append, count_same n (fun o ho => h o (by omega))]
    simp [List.countP_cons, h n (by omega)]
theorem count_step {P Q : Nat → Bool} {e : Nat} : ∀ n, e < n → (∀ o, o < n → (P o = true ↔ o = e ∨ Q o = true)) → Q e = false → (List.range n).countP P = (List.range n).countP Q + 1
  | 0, h, _, _ => by omega
  | n + 1, h, hi, hq => by
    rw [List.range_succ, List.countP_append, List.countP_append]
    by_cases z : e = n
    · have e1 : (List.range n).countP P = (List.range n).countP Q := count_same n fun o ho => by
        have := hi o (by omega)
        cases hP : P o <;> cases hQ : Q o <;> simp [hP, hQ] at this <;> first | rfl | omega
      have hPn : P n = true := (hi n (by omega)).mpr (.inl z.symm)
      rw [z] at hq
      rw [e1]; simp [List.countP_cons, hPn, hq]
    · rw [count_step n (by omega) (fun o ho => hi o (by omega)) hq]
      have := hi n (by omega)
      have hn : P n = Q n := by
        cases hP : P n <;> cases hQ : Q n <;> simp [hP, hQ] at this <;> first | rfl | omega
      simp [List.countP_cons, hn]; omega
theorem count_lt {P : Nat → Bool} {e n : Nat} (he : e < n) (h : P e = false) : (List.range n).countP P < n := by
  have h1 := count_step (P := fun o => decide (o = e) || P o) (Q := P) n he (fun o _ => by simp) h
  have h2 := List.countP_le_length (p := fun o => decide (o = e) || P o) (l := List.range n)
  rw [h1, List.length_range] at h2
  omega


def wayF (T : List Int) : Nat → Int → List Nat
  | 0, _ => []
  | k + 1, at_ => if 0 ≤ at_ ∧ at_ < T.length then at_.toNat :: wayF T k (nth T at_.toNat) else []
open Classical in
noncomputable def dep (f : Nat → Int) (n p : Nat) : Nat := (List.range n).countP fun o => decide (Over f o p)
theorem dep_lt {f : Nat → Int} {n p : Nat} (hp : p < n) : dep f n p < n := by
  classical
  exact count_lt hp (by simpa using Over.irrefl)
theorem dep_elder {f : Nat → Int} {n p q : Nat} (hp : p < n) (h : ElderIs f n p (q : Int)) : dep f n p = dep f n q + 1 := by
  classical
  have hq : q < n := by
    rcases elder_over hp h with z | ⟨q', e, z, _⟩ <;> omega
  exact count_step n hq (fun o ho => by simpa using over_iff hp ho h) (by simpa using Over.irrefl)
theorem dep_top {f : Nat → Int} {n p : Nat} (hp : p < n) (h : ElderIs f n p (-1)) : dep f n p = 0 := by
  classical
  unfold dep
  rw [List.countP_eq_zero]
  intro o ho
  simpa using over_none hp (by simpa using ho) h
theorem count_mono {P Q : Nat → Bool} : ∀ n, (∀ o, o < n → P o = true → Q o = true) → (List.range n).countP P ≤ (List.range n).countP Q
  | 0, _ => Nat.le_refl _
  | n + 1, h => by
    rw [List.range_succ, List.countP_append, List.countP_append]
    have := count_mono n (fun o ho => h o (by omega))
    have hn := h n (by omega)
    cases hP : P n <;> cases hQ : Q n <;> simp [List.countP_cons, hP, hQ] at hn ⊢ <;> omega
theorem dep_over {f : Nat → Int} {n p q : Nat} (hp : p < n) (hq : q < n) (h : Over f q p) : dep f n q < dep f n p := by
  classical
  have h1 := count_step (P := fun o => decide (o = q) || decide (Over f o q)) (Q := fun o => decide (Over f o q)) (e := q) n hq (fun o _ => by simp) (by simpa using Over.irrefl)
  have h2 := count_mono (P := fun o => decide (o = q) || decide (Over f o q)) (Q := fun o => decide (Over f o p)) n (fun o _ ho => by
    simp at ho ⊢
    rcases ho with z | z
    · rw [z]; exact h
    · exact z.trans h)
  rw [h1] at h2
  exact h2
theorem way_tree {ns T : List Int} (hT : TreeIs ns T) : ∀ k p, p < ns.length → dep (nth ns) ns.length p ≤ k → (∀ o, o ∈ wayF T k (nth T p) ↔ o < ns.length ∧ Over (nth ns) o p) ∧ (wayF T k (nth T p)).length = dep (nth ns) ns.length p
  | k, p, hp, hk => by
    have hE : ElderIs (nth ns) ns.length p (nth T p) := hT.2 p hp
    rcases elder_over hp hE with z | ⟨q, e, hq, hO⟩
    · have e0 : wayF T k (nth T p) = [] := by
        cases k with
        | zero => rfl
        | succ k => rw [wayF, if_neg (by omega)]
      rw [e0]
      rw [z] at hE
      exact ⟨fun o => ⟨fun h => by simp at h, fun h => absurd h.2 (over_none hp h.1 hE)⟩, by rw [dep_top hp hE]; rfl⟩
    · rw [e] at hE
      have hd := dep_elder hp hE
      obtain ⟨k', rfl⟩ : ∃ k', k = k' + 1 := ⟨k - 1, by omega⟩
      have ih := way_tree hT k' q hq (by omega)
      have eT : ((q : Nat) : Int).toNat = q := by omega
      rw [wayF, e, if_pos ⟨by omega, by rw [hT.1]; omega⟩, eT]
      refine ⟨fun o => ?_, by simp [ih.2, hd]⟩
      rw [List.mem_cons, ih.1 o]
      refine ⟨fun h => ?_, fun h => ?_⟩
      · rcases h with h | h
        · rw [h]; exact ⟨hq, hO⟩
        · exact ⟨h.1, h.2.trans hO⟩
      · rcases (over_iff hp h.1 hE).mp h.2 with z | z
        · exact .inl z
        · exact .inr ⟨h.1, z⟩
def deps (T : List Int) : List Int := (List.range T.length).map fun p => ((wayF T T.length (nth T p)).length : Int)
theorem deps_len (T : List Int) : (deps T).length = T.length := by simp [deps]
theorem deps_nth {T : List Int} {p : Nat} (h : p < T.length) : nth (deps T) p = (wayF T T.length (nth T p)).length := by
  simp [nth, deps, List.getD_eq_getElem?_getD, h]
theorem deps_tree {ns T : List Int} (hT : TreeIs ns T) : TreeIs (deps T) T := by
  have eL : T.length = ns.length := hT.1
  have hd : ∀ p, p < ns.length → nth (deps T) p = (dep (nth ns) ns.length p : Int) := fun p hp => by
    rw [deps_nth (by omega), eL, (way_tree hT ns.length p hp (Nat.le_of_lt (dep_lt hp))).2]
  refine ⟨(deps_len T).symm, fun p hp => ?_⟩
  rw [deps_len, eL] at hp ⊢
  have lt : ∀ q p, q < ns.length → p < ns.length → Over (nth ns) q p → nth (deps T) q < nth (deps T) p := fun q p hq hp h => by
    rw [hd q hq, hd p hp]
    have := dep_over hp hq h; omega
  generalize nth (deps T) = g at lt
  clear hd
  have pv : ∀ q, IsPrev (nth ns) p q → IsPrev g p q := fun q h => by
    refine ⟨h.1, Int.le_of_lt (lt q p (by have := h.1; omega) hp (.inl ⟨h.1, fun r r1 r2 => ?_⟩)), fun r r1 r2 => lt p r hp (by omega) (.inr ⟨r2, fun s s1 s2 => h.2.2 s (by omega) s2⟩)⟩
    by_cases z : r = p
    · rw [z]; exact h.2.1
    · have := h.2.2 r r1 (by omega); have := h.2.1; omega
  have nx : ∀ r, IsNext (nth ns) ns.length p r → IsNext g ns.length p r := fun q h => by
    refine ⟨h.1, h.2.1, lt q p h.2.1 hp (.inr ⟨h.1, fun r r1 r2 => ?_⟩), fun s s1 s2 => Int.le_of_lt (lt p s hp (by have := h.2.1; omega) (.inl ⟨s1, fun r r1 r2 => h.2.2.2 r r1 (by omega)⟩))⟩
    by_cases z : r = p
    · rw [z]; exact h.2.2.1
    · have := h.2.2.2 r (by omega) r2; have := h.2.2.1; omega
  have np : NoPrev (nth ns) p → NoPrev g p := fun h q hq => lt p q hp (by omega) (.inr ⟨hq, fun r r1 r2 => h r r2⟩)
  have nn : NoNext (nth ns) ns.length p → NoNext g ns.length p := fun h r r1 r2 => Int.le_of_lt (lt p r hp r2 (.inl ⟨r1, fun s s1 s2 => h s s1 (by omega)⟩))
  have hE : ElderIs (nth ns) ns.length p (T.getD p 0) := hT.2 p hp
  rcases hE with ⟨h1, h2, h⟩ | ⟨q, h1, h2, h⟩ | ⟨r, h1, h2, h⟩ | ⟨q, r, h1, h2, h⟩
  · exact .inl ⟨np h1, nn h2, h⟩
  · exact .inr (.inl ⟨q, pv q h1, nn h2, h⟩)
  · exact .inr (.inr (.inl ⟨r, np h1, nx r h2, h⟩))
  · refine .inr (.inr (.inr ⟨q, r, pv q h1, nx r h2, ?_⟩))
    rw [h]
    have hq : q < ns.length := by have := h1.1; omega
    by_cases z : nth ns q ≤ nth ns r
    · have := lt q r hq h2.2.1 (.inl ⟨by have := h1.1; have := h2.1; omega, fun s s1 s2 => by
        by_cases y : s = r
        · rw [y]; exact z
        · by_cases y2 : s = p
          · rw [y2]; exact h1.2.1
          · have := h1.2.1
            by_cases y3 : s < p
            · have := h1.2.2 s s1 y3; omega
            · have := h2.2.2.2 s (by omega) (by omega); omega⟩)
      rw [if_pos z, if_pos (by omega)]
    · have := lt r q h2.2.1 hq (.inr ⟨by have := h1.1; have := h2.1; omega, fun s s1 s2 => by
        have := h1.2.1; have := h2.2.2.1
        by_cases y : s = q
        · rw [y]; omega
        · by_cases y2 : s = p
          · rw [y2]; omega
          · by_cases y3 : s < p
            · have := h1.2.2 s (by omega) y3; omega
            · have := h2.2.2.2 s (by omega) (by omega); omega⟩)
      rw [if_neg z, if_neg (by omega)]


inductive StT (T : Nat → Int) : Int → Int → Int → Prop
  | nil {a b e : Int} : b < a → StT T a b e
  | node {a b e : Int} (h : Nat) : a ≤ h → (h : Int) ≤ b → T h = e → (∀ q : Nat, a ≤ q → (q : Int) ≤ b → T q = e → q = h) → StT T a ((h : Int) - 1) h → StT T ((h : Int) + 1) b h → StT T a b e
theorem GoodS.out {f : Nat → Int} {n : Nat} {a b e : Int} (h : GoodS f n a b e) : e < a ∨ b < e := by
  obtain ⟨h0, h1, h2, h3, h4, h5⟩ := h
  rw [h5]
  split
  · split <;> omega
  · split
    · omega
    · split <;> omega
inductive StG (T g : Nat → Int) : Int → Int → Int → Int → Prop
  | nil {a b e m : Int} : b < a → StG T g a b e m
  | node {a b e m : Int} (h : Nat) : a ≤ h → (h : Int) ≤ b → T h = e → g h = m → StG T g a ((h : Int) - 1) h (m + 1) → StG T g ((h : Int) + 1) b h (m + 1) → StG T g a b e m
theorem StG.congr {T g g' : Nat → Int} {a b e m : Int} (S : StG T g a b e m) : (∀ q : Nat, a ≤ q → (q : Int) ≤ b → g q = g' q) → StG T g' a b e m := by
  induction S with
  | nil z => intro _; exact .nil z
  | node h h1 h2 h3 h4 _ _ ih1 ih2 =>
    intro k
    exact .node h h1 h2 h3 (by rw [← k h h1 h2]; exact h4) (ih1 fun q q1 q2 => k q q1 (by omega)) (ih2 fun q q1 q2 => k q (by omega) q2)
theorem StT.row {T : Nat → Int} {a b e : Int} (S : StT T a b e) : ∀ m, ∃ g, StG T g a b e m := by
  induction S with
  | nil z => intro m; exact ⟨fun _ => 0, .nil z⟩
  | node h h1 h2 h3 h4 _ _ ih1 ih2 =>
    intro m
    obtain ⟨g1, k1⟩ := ih1 (m + 1)
    obtain ⟨g2, k2⟩ := ih2 (m + 1)
    refine ⟨fun q => if q < h then g1 q else if q = h then m else g2 q, .node h h1 h2 h3 ?_ (k1.congr fun q q1 q2 => ?_) (k2.congr fun q q1 q2 => ?_)⟩
    · show (if h < h then g1 h else if h = h then m else g2 h) = m
      rw [if_neg (by omega), if_pos rfl]
    · show g1 q = if q < h then g1 q else if q = h then m else g2 q
      rw [if_pos (by omega)]
    · show g2 q = if q < h then g1 q else if q = h then m else g2 q
      rw [if_neg (by omega), if_neg (by omega)]
theorem StG.ge {T g : Nat → Int} {a b e m : Int} (S : StG T g a b e m) : ∀ q : Nat, a ≤ q → (q : Int) ≤ b → m ≤ g q := by
  induction S with
  | nil z => intro q h1 h2; omega
  | node h h1 h2 h3 h4 _ _ ih1 ih2 =>
    intro q q1 q2
    rcases Nat.lt_trichotomy q h with y | y | y
    · have := ih1 q q1 (by omega); omega
    · rw [y]; omega
    · have := ih2 q (by omega) q2; omega
theorem StG.elder {T g : Nat → Int} {n : Nat} {a b e m : Int} (S : StG T g a b e m) : 0 ≤ a → a ≤ b + 1 → b < n → (∀ k : Nat, a = ((k + 1 : Nat) : Int) → g k < m) → (∀ k : Nat, b + 1 = (k : Int) → k < n → g k < m) →
    e = (if a = 0 then (if b + 1 = n then -1 else b + 1) else if b + 1 = n then a - 1 else if g (a - 1).toNat ≤ g (b + 1).toNat then b + 1 else a - 1) → ∀ p : Nat, a ≤ p → (p : Int) ≤ b → ElderIs g n p (T p) := by
  induction S with
  | nil z => intro _ _ _ _ _ _ p h1 h2; omega
  | @node a b e m h h1 h2 h3 h4 s1 s2 ih1 ih2 =>
    intro c0 c1 c2 c3 c4 c5 p p1 p2
    obtain ⟨a0, rfl⟩ : ∃ a0 : Nat, a = a0 := ⟨a.toNat, by omega⟩
    obtain ⟨c, rfl⟩ : ∃ c : Nat, b = ((a0 + c : Nat) : Int) := ⟨(b - a0).toNat, by omega⟩
    have hge := (StG.node h h1 h2 h3 h4 s1 s2).ge
    have g1 := s1.ge
    have g2 := s2.ge
    have hG : GoodS g n a0 ((a0 + c : Nat) : Int) e := ⟨c0, c1, c2, fun k hk q q1 q2 => by have := c3 k hk; have := hge q q1 q2; omega, fun k hk hkn q q1 q2 => by have := c4 k hk hkn; have := hge q q1 q2; omega, c5⟩
    have hlow : lowF g a0 c = h := by
      have : IsLow g a0 (a0 + c) h := ⟨by omega, by omega, fun r r1 r2 => by have := g1 r (by omega) (by omega); omega, fun r r1 r2 => by have := g2 r (by omega) (by omega); omega⟩
      exact (lowF_is g a0 c).unique this
    rcases Nat.lt_trichotomy p h with y | y | y
    · refine ih1 (by omega) (by omega) (by omega) (fun k hk => by have := c3 k hk; omega) (fun k hk hkn => ?_) ?_ p p1 (by omega)
      · have : k = h := by omega
        rw [this]; omega
      · by_cases z : (a0 : Int) = 0
        · rw [if_pos z, if_neg (by omega)]; omega
        · rw [if_neg z, if_neg (by omega), if_pos ?_]
          · omega
          · have e1 : (((h : Int) - 1 + 1)).toNat = h := by omega
            have := c3 ((a0 : Int) - 1).toNat (by omega)
            rw [e1]; omega
    · rw [y, h3, ← hlow]; exact hG.elder
    · refine ih2 (by omega) (by omega) (by omega) (fun k hk => ?_) (fun k hk hkn => by have := c4 k hk hkn; omega) ?_ p (by omega) p2
      · have : k = h := by omega
        rw [this]; omega
      · rw [if_neg (by omega)]
        by_cases z : ((a0 + c : Nat) : Int) + 1 = n
        · rw [if_pos z]; omega
        · rw [if_neg z, if_neg ?_]
          · omega
          · have e1 : (((h : Int) + 1 - 1)).toNat = h := by omega
            have := c4 (((a0 + c : Nat) : Int) + 1).toNat (by omega) (by omega)
            rw [e1]; omega
theorem tree_deps (T : List Int) : (∃ ns, TreeIs ns T) ↔ TreeIs (deps T) T := ⟨fun ⟨_, h⟩ => deps_tree h, fun h => ⟨_, h⟩⟩
end L2


set_option Elab.async false
set_option linter.all false
set_option maxRecDepth 100000
set_option maxHeartbeats 1000000
namespace L2
open PySem PySem.Spec PyProof.Rows PySem.W
def setE (es : List Int) (A B : List Nat) (i : Nat) : List Int := match A.getLast? with
  | some q => (match B.head? with | some b => es.set b i | none => es).set i (q : Int)
  | none => match B.head? with | some b => es.set b i | none => es
def natsV (l : List Nat) : List V := l.map fun q => V.int (q : Nat)
theorem getD_set (l : List Int) (a p : Nat) (v : Int) (h : p < l.length) : (l.set a v).getD p 0 = if a = p then v else l.getD p 0 := by
  rw [List.getD_eq_getElem?_getD, List.getD_eq_getElem?_getD]
  by_cases e : a = p
  · subst e; rw [if_pos rfl, List.getElem?_set_self h]; rfl
  · rw [if_neg e, List.getElem?_set_ne e]
theorem setE_len (es : List Int) (A B : List Nat) (i : Nat) : (setE es A B i).length = es.length := by
  unfold setE
  cases A.getLast? <;> cases B.head? <;> simp
theorem setE_at (es : List Int) (A B : List Nat) (i p : Nat) (hp : p < es.length) (hb : ∀ b, B.head? = some b → b ≠ i) : (setE es A B i).getD p 0 = if p = i then (match A.getLast? with | some q => (q : Int) | none => es.getD i 0) else if B.head? = some p then (i : Int) else es.getD p 0 := by
  unfold setE
  cases hA : A.getLast? with
  | none =>
    cases hB : B.head? with
    | none =>
      by_cases e : p = i
      · rw [if_pos e, e]
      · rw [if_neg e, if_neg (by simp)]
    | some b =>
      show (es.set b i).getD p 0 = _
      rw [getD_set _ _ _ _ hp]
      by_cases e : p = i
      · rw [if_pos e, if_neg (by rw [e]; exact hb b hB), e]
      · rw [if_neg e]
        by_cases e2 : b = p
        · rw [if_pos e2, if_pos (by rw [e2])]
        · rw [if_neg e2, if_neg (by intro z; exact e2 (Option.some.inj z))]
  | some q =>
    cases hB : B.head? with
    | none =>
      show (es.set i q).getD p 0 = _
      rw [getD_set _ _ _ _ hp]
      by_cases e : p = i
      · rw [if_pos e, if_pos e.symm]
      · rw [if_neg e, if_neg (fun z => e z.symm), if_neg (by simp)]
    | some b =>
      show ((es.set b i).set i q).getD p 0 = _
      rw [getD_set _ _ _ _ (by simpa using hp), getD_set _ _ _ _ hp]
      by_cases e : p = i
      · rw [if_pos e, if_pos e.symm]
      · rw [if_neg e, if_neg (fun z => e z.symm)]
        by_cases e2 : b = p
        · rw [if_pos e2, if_pos (by rw [e2])]
        · rw [if_neg e2, if_neg (by intro z; exact e2 (Option.some.inj z))]
theorem pw_len : ∀ (l : List Nat) (i lo : Nat), l.Pairwise (· < ·) → (∀ q ∈ l, lo ≤ q ∧ q < i) → l.length + lo ≤ i ∨ l = []
  | [], _, _, _, _ => .inr rfl
  | q :: r, i, lo, h, hq => by
    have h1 := hq q (by simp)
    have hr := List.pairwise_cons.mp h
    rcases pw_len r i (q + 1) hr.2 (fun x hx => ⟨hr.1 x hx, (hq x (by simp [hx])).2⟩) with z | z
    · left; simp; omega
    · left; rw [z]; simp; omega
theorem natsV_len (l : List Nat) : (natsV l).length = l.length := by simp [natsV]
theorem natsV_app (a b : List Nat) : natsV (a ++ b) = natsV a ++ natsV b := by simp [natsV]
theorem natsV_at {l : List Nat} {j q : Nat} (h : l[j]? = some q) : atI (natsV l) (j : Int) = some (V.int (q : Nat)) := by
  have hj := (List.getElem?_eq_some_iff.mp h).1
  have e := (List.getElem?_eq_some_iff.mp h).2
  rw [atI_at rfl (by rw [natsV_len]; exact hj)]
  simp [natsV, e]
theorem ixN_nat {n j : Nat} (h : j < n) : ixN n (j : Int) = some j := by
  unfold ixN
  rw [if_pos (by omega), if_pos (by omega)]; simp
end L2


set_option Elab.async false
set_option linter.all false
set_option maxRecDepth 100000
set_option maxHeartbeats 1000000
namespace L2
open PySem PySem.Spec PyProof.Rows PySem.W
section
variable {X : Cx}

def tRngV2 (ta : TA) : TE := fun σ H Q => ta σ H fun vs H1 => ∃ i j : Int, vs = [.int i, .int j] ∧ -(2 ^ 62) ≤ i ∧ i < 2 ^ 62 ∧ -(2 ^ 62) ≤ j ∧ j < 2 ^ 62 ∧ ∀ p, H1 p = none → Q (.ref p) (upd H1 p (.rng i j))
def rLstR2 : List V → Hp → VK → Prop := fun xs H Q => ∃ p i j, xs = [.ref p] ∧ H p = some (.rng i j) ∧ -(2 ^ 62) ≤ i ∧ i < 2 ^ 62 ∧ -(2 ^ 62) ≤ j ∧ j < 2 ^ 62 ∧ j - i ≤ 1000 ∧ ∀ l, H l = none → Q (.ref l) (upd H l (.lst ((List.range (j - i).toNat).map fun (k : Nat) => V.int (i + (k : Int)))))
end
end L2


set_option Elab.async false
set_option linter.all false
set_option maxRecDepth 100000
set_option maxHeartbeats 1000000
namespace L2
open PySem PySem.Spec PyProof.Rows PySem.W

def wayI (T : List Int) (p : Nat) : List Int := (wayF T T.length (nth T p)).map fun q => ((q : Nat) : Int)
def GoodT (T : List Int) : Prop := T.length ≤ 40 ∧ ∃ ns, TreeIs ns T
theorem wayF_len (T : List Int) : ∀ k a, (wayF T k a).length ≤ k
  | 0, _ => by simp [wayF]
  | k + 1, a => by
    rw [wayF]
    split
    · have := wayF_len T k (nth T a.toNat); simp; omega
    · simp

def wayAt (T : List Int) : Nat → Int → Int
  | 0, a => a
  | j + 1, a => if 0 ≤ a ∧ a < T.length then wayAt T j (nth T a.toNat) else a
theorem wayF_snoc (T : List Int) : ∀ j a, 0 ≤ wayAt T j a → wayAt T j a < T.length → (wayF T j a).length = j → wayF T (j + 1) a = wayF T j a ++ [(wayAt T j a).toNat] ∧ wayAt T (j + 1) a = nth T (wayAt T j a).toNat
  | 0, a, h0, h1, _ => by
    have h0' : 0 ≤ a := h0
    have h1' : a < T.length := h1
    constructor
    · simp [wayF, wayAt, h0', h1']
    · simp [wayAt, h0', h1']
  | j + 1, a, h0, h1, hl => by
    rw [wayF] at hl
    by_cases z : 0 ≤ a ∧ a < T.length
    · rw [if_pos z] at hl
      have e1 : wayAt T (j + 1) a = wayAt T j (nth T a.toNat) := by rw [wayAt, if_pos z]
      rw [e1] at h0 h1
      have ih := wayF_snoc T j (nth T a.toNat) h0 h1 (by simpa using hl)
      constructor
      · rw [wayF, if_pos z, ih.1, wayF.eq_def T (j + 1) a]
        simp only [if_pos z, e1]; simp
      · rw [wayAt, if_pos z, ih.2, e1]
    · rw [if_neg z] at hl; simp at hl
theorem wayF_stop (T : List Int) : ∀ j k a, j ≤ k → (wayF T j a).length = j → ¬ (0 ≤ wayAt T j a ∧ wayAt T j a < T.length) → wayF T k a = wayF T j a
  | 0, k, a, _, _, h => by
    have h' : ¬ (0 ≤ a ∧ a < T.length) := h
    cases k with
    | zero => rfl
    | succ k => rw [show wayF T 0 a = [] from rfl, wayF, if_neg h']
  | j + 1, k, a, hk, hl, h => by
    rw [wayF] at hl
    by_cases z : 0 ≤ a ∧ a < T.length
    · rw [if_pos z] at hl
      rw [wayAt, if_pos z] at h
      obtain ⟨k', rfl⟩ : ∃ k', k = k' + 1 := ⟨k - 1, by omega⟩
      rw [wayF, if_pos z, wayF_stop T j k' _ (by omega) (by simpa using hl) h, wayF, if_pos z]
    · rw [if_neg z] at hl; simp at hl
section
variable {X : Cx}
theorem op_inK {K : Frag} (hK : X.K = K) : OpR X (compareOp .In) (rIn K false) := hK ▸ op_in_seq
theorem op_notInK {K : Frag} (hK : X.K = K) : OpR X (compareOp .NotIn) (rIn K true) := hK ▸ op_notIn_seq
end
theorem flat_ints (xs : List Int) : (xs.map V.int).all flatV = true := by
  induction xs with
  | nil => rfl
  | cons x r ih => rw [List.map_cons, List.all_cons, ih]; rfl
theorem in_ints (x : Int) (xs : List Int) : inV (.int x) (xs.map V.int) = decide (x ∈ xs) := by
  induction xs with
  | nil => rfl
  | cons y r ih =>
    have : inV (.int x) ((y :: r).map V.int) = (decide (y = x) || inV (.int x) (r.map V.int)) := rfl
    rw [this, ih]
    by_cases z : y = x
    · simp [z]
    · have : ¬ x = y := fun h => z h.symm
      simp [z, this]
end L2


set_option Elab.async false
set_option linter.all false
set_option maxRecDepth 100000
set_option maxHeartbeats 1000000
namespace L2
open PySem PySem.Spec PyProof.Rows PySem.W

section
variable {prog : Program} {w : World} {A : Around} {E : Value → Shared → Prop} {s : Shared}
end
section
variable {X : Cx}
def gSubSl (to tl tu : TE) : TG := fun v σ H Q => to σ H fun x H1 => tl σ H1 fun y H2 => tu σ H2 fun z H3 => ∃ (l b : Addr) (xs ys : List V) (a c : Int), x = .ref l ∧ v = .ref b ∧ y = .int a ∧ z = .int c ∧ H3 l = some (.lst xs) ∧ H3 b = some (.lst ys) ∧ l ≠ b ∧ 0 ≤ a ∧ a ≤ c ∧ a ≤ xs.length ∧ xs.length + ys.length ≤ sizeLine ∧ Q σ (upd H3 l (.lst (xs.take a.toNat ++ ys ++ xs.drop c.toNat)))
end
end L2


set_option Elab.async false
set_option linter.all false
set_option maxRecDepth 100000
set_option maxHeartbeats 1000000
namespace L2
open PySem PySem.Spec PyProof.Rows PySem.W

theorem seqR {a b : TS} {D : Ends} {σ : St} {H : Hp} (Mid : St → Hp → Prop) (h1 : ∀ R : St → Hp → Prop, (∀ σ' H', Mid σ' H' → R σ' H') → a { D with nx := R } σ H) (h2 : ∀ σ' H', Mid σ' H' → b D σ' H') : tSeq a b D σ H := h1 _ h2
theorem cut_to (xs : List V) (j : Nat) : cutV xs none (some (j : Int)) = xs.take j := by
  have h : ¬ ((j : Int) < 0) := by omega
  unfold cutV HT.sIx
  simp only [if_neg h, List.drop_zero, Nat.sub_zero]
  rw [List.take_eq_take_iff]
  omega
theorem ty_bb {K : Frag} {H : Hp} {b : Bool} : tyIs K H (.bl b) (.type "bool") true := .inl ⟨_, .bl b, by with_unfolding_all rfl⟩
end L2


set_option Elab.async false
set_option linter.all false
set_option maxRecDepth 100000
set_option maxHeartbeats 1000000
namespace L2
open PySem PySem.Spec PyProof.Rows


structure CellsOf (cl : List (Str × Addr)) (n0 : Nat) (cs : List (Str × Addr)) (h0 h : Heap) (done : List (Str × NameKind)) : Prop where
  old : ∀ b o, h0.get? b = some o → h.get? b = some o
  sz : n0 ≤ h.objs.size
  mem : ∀ p ∈ cs, p ∈ cl ∨ (n0 ≤ p.2 ∧ p.2 < h.objs.size ∧ h.IsCell p.2 none)
  inj : ∀ p ∈ cs, ∀ q ∈ cs, n0 ≤ p.2 → p.2 = q.2 → p.1 = q.1
  own : ∀ y ∈ done, y.2 = .cell → ∃ c, cs.lookup y.1 = some c ∧ n0 ≤ c
  oth : ∀ x, (∀ y ∈ done, y.2 = .cell → y.1 ≠ x) → cs.lookup x = cl.lookup x
theorem cells_run {M : Model} {A : Around} {E : Value → Shared → Prop} {cl : List (Str × Addr)} {n0 : Nat} {h0 : Heap} (hcl : ∀ p ∈ cl, p.2 < n0) : ∀ (names : List (Str × NameKind)) (cs : List (Str × Addr)) (done : List (Str × NameKind)) (s : Shared), CellsOf cl n0 cs h0 s.heap done →
    wpAny M A (forIn names cs fun (x : Str × NameKind) (r : List (Str × Addr)) => (match x with
      | (name, kind) => if (kind == NameKind.cell) = true then do
          let a ← alloc { cls := .type "cell", data := .cell none }
          pure (ForInStep.yield ((name, a) :: r))
        else pure (ForInStep.yield r) : Sem (ForInStep (List (Str × Addr))))) (fun cs' s' => ∃ h', s' = { s with heap := h' } ∧ CellsOf cl n0 cs' h0 h' (done ++ names)) E s
  | [], cs, done, s, I => by
    rw [List.forIn_nil, List.append_nil]
    exact wpAny_pure ⟨s.heap, rfl, I⟩
  | (n, k) :: r, cs, done, s, I => by
    rw [List.forIn_cons]
    by_cases hk : k = .cell
    · subst hk
      simp only [beq_self_eq_true, if_true]
      refine wpAny_bind (wpAny_bind (wpAny_alloc (wpAny_pure ?_)))
      have hget : (s.heap.push { cls := .type "cell", data := .cell none }).get? s.heap.objs.size = some { cls := .type "cell", data := .cell none } := Heap.get?_push_size _ rfl
      have I' : CellsOf cl n0 ((n, s.heap.objs.size) :: cs) h0 (s.heap.push { cls := .type "cell", data := .cell none }) (done ++ [(n, .cell)]) := by
        refine ⟨fun b o e => Heap.get?_push_of_some _ (I.old b o e), by rw [Heap.size_push]; exact Nat.le_succ_of_le I.sz, fun p hp => ?_, fun p hp q hq hn e => ?_, fun y hy hc => ?_, fun x hx => ?_⟩
        · rcases List.mem_cons.mp hp with z | z
          · subst z
            exact .inr ⟨I.sz, by rw [Heap.size_push]; exact Nat.lt_succ_self _, _, hget, rfl⟩
          · rcases I.mem p z with w | ⟨w1, w2, o, w3, w4⟩
            · exact .inl w
            · exact .inr ⟨w1, by rw [Heap.size_push]; exact Nat.lt_succ_of_lt w2, o, Heap.get?_push_of_some _ w3, w4⟩
        · have lt : ∀ p ∈ cs, p.2 < s.heap.objs.size := fun p hp => by
            rcases I.mem p hp with w | w
            · exact Nat.lt_of_lt_of_le (hcl p w) I.sz
            · exact w.2.1
          rcases List.mem_cons.mp hp with z | z <;> rcases List.mem_cons.mp hq with z' | z'
          · rw [z, z']
          · subst z; exact absurd (show s.heap.objs.size < s.heap.objs.size from (show s.heap.objs.size = q.2 from e) ▸ lt q z') (Nat.lt_irrefl _)
          · subst z'; exact absurd (show s.heap.objs.size < s.heap.objs.size from (show p.2 = s.heap.objs.size from e) ▸ lt p z) (Nat.lt_irrefl _)
          · exact I.inj p z q z' hn e
        · rcases List.mem_append.mp hy with z | z
          · obtain ⟨c, e1, e2⟩ := I.own y z hc
            by_cases hx : y.1 = n
            · exact ⟨s.heap.objs.size, by rw [hx]; simp, I.sz⟩
            · have hb : (y.1 == n) = false := by simpa using hx
              exact ⟨c, by simp only [List.lookup_cons, hb]; exact e1, e2⟩
          · have : y = (n, .cell) := by simpa using z
            subst this
            exact ⟨s.heap.objs.size, by simp, I.sz⟩
        · have hxn : n ≠ x := hx (n, .cell) (by simp) rfl
          have hb : (x == n) = false := by simpa using hxn.symm
          simp only [List.lookup_cons, hb]
          exact I.oth x fun y hy => hx y (List.mem_append_left _ hy)
      refine thn (cells_run hcl r _ _ { s with heap := s.heap.push { cls := .type "cell", data := .cell none } } I') fun cs' s' ⟨h', e1, e2⟩ => ⟨h', e1, ?_⟩
      rw [List.append_assoc] at e2
      exact e2
    · have e1 : (k == NameKind.cell) = false := by cases k <;> first | rfl | exact absurd rfl hk
      simp only [e1, Bool.false_eq_true, if_false]
      refine wpAny_bind (wpAny_pure ?_)
      have I' : CellsOf cl n0 cs h0 s.heap (done ++ [(n, k)]) := by
        refine ⟨I.old, I.sz, I.mem, I.inj, fun y hy hc => ?_, fun x hx => I.oth x fun y hy => hx y (List.mem_append_left _ hy)⟩
        rcases List.mem_append.mp hy with z | z
        · exact I.own y z hc
        · have : y = (n, k) := by simpa using z
          subst this
          exact absurd hc hk
      refine thn (cells_run hcl r _ _ s I') fun cs' s' ⟨h', e1, e2⟩ => ⟨h', e1, ?_⟩
      rw [List.append_assoc] at e2
      exact e2
theorem newEnv_own {M : Model} {A : Around} {E : Value → Shared → Prop} {s : Shared} {scope : Scope} {globals : Addr} {cl : List (Str × Addr)} {qual : Str} {around : Env} {Q : Env → Shared → Prop} (hcl : ∀ p ∈ cl, p.2 < s.heap.objs.size)
    (h : ∀ cs h', CellsOf cl (s.heap.objs.size + 1) cs (s.heap.push { cls := .type "dict", data := .dict #[] }) h' scope.names → Q { scope := scope, locals := s.heap.objs.size, globals := globals, cells := cs, qual := qual, func := none, code := around.code, frame := around.frame, builtins := around.builtins } { s with heap := h' }) :
    wpAny M A (newFunctionEnv scope globals cl [] qual none .none (some around)) Q E s := by
  unfold newFunctionEnv
  refine wpAny_bind (wpAny_alloc ?_)
  refine wpAny_bind (thn (cells_run (cl := cl) (n0 := s.heap.objs.size + 1) (h0 := s.heap.push { cls := .type "dict", data := .dict #[] }) (fun p hp => Nat.lt_succ_of_lt (hcl p hp)) scope.names cl [] { s with heap := s.heap.push { cls := .type "dict", data := .dict #[] } } ⟨fun b o e => e, by rw [Heap.size_push]; exact Nat.le_refl _, fun p hp => .inl hp, fun p hp q hq hn e => absurd (hcl p hp) (Nat.not_lt_of_le (Nat.le_of_succ_le hn)), fun y hy => (nomatch hy), fun x hx => rfl⟩) fun cs s' ⟨h', e1, e2⟩ => ?_)
  subst e1
  rw [List.nil_append] at e2
  exact wpAny_bind (wpAny_pure (wpAny_pure (h cs h' e2)))

def compOkN (around scope : Scope) : Bool :=
  scope.kind == .function && around.kind == .function && scope.names.all fun y => match y.2 with
    | .local => scope.names.lookup y.1 == some .local
    | .cell => scope.names.lookup y.1 == some .cell
    | .free => (scope.names.lookup y.1 == some .free) && (around.names.lookup y.1 == some .cell || around.names.lookup y.1 == some .free)
    | _ => true
theorem compOkN_kind {a s : Scope} (h : compOkN a s = true) : s.kind = .function := by
  simp only [compOkN, Bool.and_eq_true, beq_iff_eq] at h; exact h.1.1
theorem compOkN_at {a s : Scope} (h : compOkN a s = true) {y : Str × NameKind} (hy : y ∈ s.names) : (match y.2 with
    | .local => s.names.lookup y.1 == some .local
    | .cell => s.names.lookup y.1 == some .cell
    | .free => (s.names.lookup y.1 == some .free) && (a.names.lookup y.1 == some .cell || a.names.lookup y.1 == some .free)
    | _ => true) = true := by
  simp only [compOkN, Bool.and_eq_true] at h
  exact List.all_eq_true.mp h.2 y hy
theorem compOkN_local {a s : Scope} (h : compOkN a s = true) : ∀ y ∈ s.names, y.2 = .local → s.names.lookup y.1 = some .local := fun y hy e => by
  have q := compOkN_at h hy
  rw [e] at q
  exact beq_iff_eq.mp q
theorem compOkN_cell {a s : Scope} (h : compOkN a s = true) : ∀ y ∈ s.names, y.2 = .cell → s.names.lookup y.1 = some .cell := fun y hy e => by
  have q := compOkN_at h hy
  rw [e] at q
  exact beq_iff_eq.mp q
theorem compOkN_free {a s : Scope} (h : compOkN a s = true) : ∀ y ∈ s.names, y.2 = .free → s.names.lookup y.1 = some .free ∧ (a.names.lookup y.1 = some .cell ∨ a.names.lookup y.1 = some .free) := fun y hy e => by
  have q := compOkN_at h hy
  rw [e] at q
  simp only [Bool.and_eq_true, Bool.or_eq_true, beq_iff_eq] at q
  exact q
def compCxN (X : Cx) (Nc : List Str) (scope : Scope) (cs : List (Str × Addr)) (C : Addr) (s2 : Shared) (H2 : Hp) (fp : List Addr) : Cx :=
  { compCx X Nc scope cs C s2 H2 fp with fn := fun x => scope.names.lookup x == some .cell }
theorem closure_ofN {env : Env} {scope : Scope} (h : ∀ y ∈ scope.names, y.2 = .free → ∃ c, env.cells.lookup y.1 = some c) :
    ∃ cl, closureFor scope env = pure cl ∧ (∀ p ∈ cl, env.cells.lookup p.1 = some p.2) ∧ (∀ y ∈ scope.names, y.2 = .free → ∃ c, cl.lookup y.1 = some c ∧ env.cells.lookup y.1 = some c) := by
  obtain ⟨cl, e, h1, h2, h3⟩ := closure_in (env := env) scope.names [] h
  have up : ∀ p ∈ cl, env.cells.lookup p.1 = some p.2 := fun p q => by
    rcases h1 _ q with z | z
    · cases z
    · exact z
  refine ⟨cl, ?_, up, fun y hy hf => ?_⟩
  · unfold closureFor
    simp only [bind_pure_comp] at e ⊢
    rw [e]
    exact pure_bind _ _
  · obtain ⟨c, hc⟩ := h3 y hy hf
    cases q : cl.lookup y.1 with
    | none => exact absurd (List.lookup_eq_none_iff.mp q _ hc) (by simp)
    | some c' => exact ⟨c', rfl, up _ (PySem.mem_of_lookup q)⟩
section
variable {X : Cx}

theorem comp_startN {pins : List (Addr × Obj)} {σ : St} {H2 : Hp} {s2 : Shared} {Nc : List Str} {js : List (Option Nat)} {scope : Scope} {cs : List (Str × Addr)} {fp : List Addr} {h1 : Heap} {tk : Nat} {D C : Addr} {oD : Obj} {m : Str → Option Value}
    (I : Inv X pins σ H2 s2) (hok : compOkN X.env.scope scope = true) (htk : takesC X.N Nc scope js 0 = true) (up : ∀ x c, cs.lookup x = some c → X.env.cells.lookup x = some c ∨ (C < c ∧ h1.IsCell c none)) (hinj : ∀ x y c, cs.lookup x = some c → cs.lookup y = some c → x = y) (hown : ∀ y ∈ scope.names, y.2 = .cell → ∃ c, cs.lookup y.1 = some c ∧ C < c) (hfr : ∀ y ∈ scope.names, y.2 = .free → ∃ c, cs.lookup y.1 = some c ∧ X.env.cells.lookup y.1 = some c)
    (hfp : ∀ b ∈ fp, FpOk X pins H2 b) (hfl : ∀ b ∈ fp, b < s2.heap.objs.size) (hD : D = s2.heap.objs.size) (hC : C = s2.heap.objs.size + 1) (old : ∀ b o, s2.heap.get? b = some o → h1.get? b = some o) (hns : h1.Ns C m) (hoD : h1.get? D = some oD) (hdD : ∀ v, oD.data ≠ .cell v) :
    Inv (compCxN X Nc scope cs C s2 H2 fp) [(D, oD)] (iniC js σ) H2 { s2 with heap := h1, toks := tk } := by
  have leC : s2.heap.objs.size ≤ C := by rw [hC]; exact Nat.le_succ _
  have leD : s2.heap.objs.size ≤ D := Nat.le_of_eq hD.symm
  have kf : ∀ x, ((compEnvC scope cs C X.env).kindOf x = some .cell ∨ (compEnvC scope cs C X.env).kindOf x = some .free) → ∃ c, cs.lookup x = some c := fun x hx => by
    have : ∃ k, (compEnvC scope cs C X.env).kindOf x = some k ∧ (k = .cell ∨ k = .free) := hx.elim (fun q => ⟨_, q, .inl rfl⟩) fun q => ⟨_, q, .inr rfl⟩
    obtain ⟨k, e, hk⟩ := this
    obtain ⟨k', h1, h2⟩ := lookup_relabel_inv (show (scope.names.map _).lookup x = some k from e)
    have hm := lookup_mem h1
    have : k' = .free ∨ k' = .cell := by
      rcases h2 with q | q
      · subst q
        exact hk.symm
      · exact .inl q.1
    rcases this with z | z
    · subst z
      obtain ⟨c, q, _⟩ := hfr _ hm rfl
      exact ⟨c, q⟩
    · subst z
      obtain ⟨c, q, _⟩ := hown _ hm rfl
      exact ⟨c, q⟩
  have nC : ∀ c x, X.env.cells.lookup x = some c → c < s2.heap.objs.size := fun c x e => by
    obtain ⟨v, q⟩ := I.cell x c e
    exact q.lt
  have noB : ∀ b, b ∈ fp → b ∉ frs X.stack := fun b hb q => by
    rcases List.mem_cons.mp (I.stkSub b q) with z | z
    · exact (hfp b hb).2.1 z
    · exact (hfp b hb).2.2.1 z
  have okX : (compCxN X Nc scope cs C s2 H2 fp).Ok := by
    refine ⟨I.ok.mod, (show scope.kind = .function from compOkN_kind hok), I.ok.glob, I.ok.blt, ?_, fun x y c e1 e2 => hinj x y c e1 e2, fun x hx => ?_, (fun x c e1 e2 => ?_), I.ok.hd, I.ok.frames, .inl rfl, fun b hb => ⟨?_, fun x c e => (up _ _ e).elim (fun z => (hfp b hb).2.2.2.2.1 x c z) fun z => Nat.ne_of_gt (Nat.lt_trans (Nat.lt_of_lt_of_le (hfl b hb) leC) z.1)⟩, I.bs, Nat.le_trans I.ok.bsz I.sz, fun b o e hb => ?_, fun b hb => noB b hb, I.stack, I.stkFree⟩
    · show s2.heap.objs.size ≤ C; exact leC
    · exact kf x hx
    · have hm := lookup_mem (beq_iff_eq.mp (show (scope.names.lookup x == some NameKind.cell) = true from e1))
      obtain ⟨c', q1, q2⟩ := hown _ hm rfl
      have : c = c' := Option.some.inj ((show cs.lookup x = some c from e2).symm.trans q1)
      rw [this]
      exact Nat.le_trans leC (Nat.le_of_lt q2)
    · exact Nat.ne_of_lt (Nat.lt_of_lt_of_le (hfl b hb) leC)
    · rcases (hfp b hb).2.2.2.1 with q | q
      · exact I.ok.noex b o e q
      · exact absurd (Nat.lt_of_lt_of_le (Heap.lt_size e) (Nat.le_trans I.ok.bsz q)) (Nat.lt_irrefl _)
  refine ⟨okX, rfl, I.bare, Un.kept old, ⟨m, hns, fun i x v e1 e2 e3 => ?_⟩, fun x c e => ?_, I.hok.fresh leC, fun x c e => (up _ _ e).elim (fun z => I.freeC x c z) fun z => I.hok.fresh (Nat.le_trans leC (Nat.le_of_lt z.1)), fun p hp => ?_, I.hok.kept old, ?_⟩
  · have e2' : (iniC js σ)[i]? = some (some v) := e2
    unfold iniC at e2'
    rw [List.getElem?_map] at e2'
    cases q : js[i]? with
    | none => rw [q] at e2'; cases e2'
    | some j0 =>
      cases j0 with
      | none => rw [q] at e2'; cases e2'
      | some j =>
        rw [q] at e2'
        simp only [Option.map_some, Option.some.injEq] at e2'
        have e4 : σ[j]? = some (some v) := by
          cases z : σ[j]? with
          | none => rw [z] at e2'; cases e2'
          | some o => rw [z] at e2'; simp only [Option.join_some] at e2'; rw [e2']
        obtain ⟨y, y1, y2, y3⟩ := takesC_at htk q
        rw [Nat.zero_add] at y1
        have : x = y := Option.some.inj ((show Nc[i]? = some x from e1).symm.trans y1)
        subst this
        have hm := lookup_mem y3
        obtain ⟨c, c1, c2⟩ := hfr _ hm rfl
        have hk := (compOkN_free hok _ hm rfl).2
        obtain ⟨m0, hn0, hl0⟩ := I.loc
        obtain ⟨u, r, l⟩ := hl0 j x v y2 e4 (hk.elim (fun z => .inr (.inl z)) fun z => .inr (.inr z))
        refine ⟨u, r, .inr ⟨?_, c, c1, ?_⟩⟩
        · rcases e3 with z | z | z
          · obtain ⟨k', w1, w2⟩ := lookup_relabel_inv (show (scope.names.map _).lookup x = some NameKind.local from z)
            rw [y3] at w1; cases w1
            rcases w2 with w | w
            · cases w
            · cases w.2
          · exact .inl z
          · exact .inr z
        · rcases l with ⟨lk, _⟩ | ⟨_, c', c3, c4⟩
          · rcases hk with z | z
            · rw [show X.env.kindOf x = some .cell from z] at lk; cases lk
            · rw [show X.env.kindOf x = some .free from z] at lk; cases lk
          · rw [c2] at c3; cases c3
            obtain ⟨oc, w1, w2⟩ := c4
            exact ⟨oc, old _ _ w1, w2⟩
  · rcases up _ _ e with z | z
    · obtain ⟨v, oc, w1, w2⟩ := I.cell x c z
      exact ⟨v, oc, old _ _ w1, w2⟩
    · exact ⟨_, z.2⟩
  · have : p = (D, oD) := by
      have hp' : p ∈ ([] ++ [(D, oD)] : List (Addr × Obj)) := hp
      simpa using hp'
    subst this
    refine ⟨hoD, I.hok.fresh leD, (by show D ≠ C; rw [hD, hC]; exact Nat.ne_of_lt (Nat.lt_succ_self _)), fun hb => ?_, hdD⟩
    have hb' : D ∈ frs X.stack := hb
    obtain ⟨_, o, ho, _⟩ := I.stack.mem hb'
    exact absurd (Nat.lt_of_lt_of_le (Heap.lt_size ho) leD) (Nat.lt_irrefl _)
  · have := takesC_len htk
    show (iniC js σ).length = Nc.length
    unfold iniC; rw [List.length_map]; omega


theorem comp_runN {pins : List (Addr × Obj)} {σ : St} {H : Hp} {s : Shared} {tg elt iter : Expr} {ifs : List Expr} {scope : Scope} {pos : Pos} {wi : TI} {g : TG} {tt : TT} {te : TE} {Nc : List Str} {js : List (Option Nat)} {use : Option (Value → Sem Unit)} {Q : VK} {QQ : Value → Shared → Prop}
    (hc : X.calm = true) (hok : compOkN X.env.scope scope = true) (htk : takesC X.N Nc scope js 0 = true) (hi : PI X tg iter wi)
    (hg : ∀ cl C s2 H2 fp, PG (compCxN X Nc scope cl C s2 H2 fp) tg g) (ht : ∀ cl C s2 H2 fp, PIfs (compCxN X Nc scope cl C s2 H2 fp) ifs tt) (he : ∀ cl C s2 H2 fp, PE (compCxN X Nc scope cl C s2 H2 fp) elt te)
    (hs : ∀ x, foldedSetIterable iter X.env x = pure x) {L : List Nat} (ho : OnlyG g L) (hL : (L.all fun k => js[k]? == some none) = true) (I : Inv X pins σ H s) (h : tComp wi g tt te js σ H Q)
    (fin : ∀ (D C : Addr) (H' H2 : Hp) (s2 s' : Shared) (xs : List V) (m : Str → Option Value), Inv X pins σ H2 s2 → H' C = none → C = D + 1 → D = s2.heap.objs.size → s'.heap.Ns C m → (∀ h', Heap.SameBut C s'.heap h' → Inv X pins σ (upd H' D (.lst xs)) { s' with heap := h' }) → Q (.ref D) (upd H' D (.lst xs)) →
      compPost (model X.prog X.w) X.A X.xe use QQ (.ref D) C (.ok .next) s') :
    wpAny (model X.prog X.w) X.A (comprehension (.ListComp elt [⟨tg, iter, ifs, 0⟩] scope pos) scope X.env (firstIterPos [⟨tg, iter, ifs, 0⟩] pos) (newList []) false (eval iter X.env) use) QQ X.xe s := by
  have hcells : ∀ y ∈ scope.names, y.2 = .free → ∃ c, X.env.cells.lookup y.1 = some c := fun y hy hf => I.ok.has y.1 (compOkN_free hok y hy hf).2
  obtain ⟨cl, hcl, upM, hfr0⟩ := closure_ofN hcells
  have hk := compOkN_kind hok
  refine wpAny_comprehension_free (use := use) rfl hs hcl hk (compOkN_local hok) (thn (hi pins s σ H _ I h) fun v s1 h1 => thn h1 fun itv s2 h2 => ?_)
  obtain ⟨it, fp, tn, J, H2, e, I2, T, st2, f2, W, ⟨m0, w0⟩, turn⟩ := h2
  subst e
  have clt : ∀ p ∈ cl, p.2 < s2.heap.objs.size := fun p hp => by
    obtain ⟨v, q⟩ := I2.cell p.1 p.2 (upM p hp)
    exact q.lt
  refine wpAny_newObj_type (newEnv_own (fun p hp => ?_) fun cs h₁ CO => ?_)
  · show p.2 < (s2.heap.push _).objs.size
    rw [Heap.size_push]; exact Nat.lt_succ_of_lt (clt p hp)
  dsimp only at CO ⊢
  generalize hH2 : s2.heap.push { cls := .type "list", dict := none, data := .seq ([] : List Value).toArray } = HH at CO ⊢
  have hC : HH.objs.size = s2.heap.objs.size + 1 := by rw [← hH2, Heap.size_push]
  have hcl' : ∀ p ∈ cl, p.2 < HH.objs.size := fun p hp => by rw [hC]; exact Nat.lt_succ_of_lt (clt p hp)
  have hns₁ : h₁.Ns HH.objs.size (fun _ => none) := ⟨_, #[], _, CO.old _ _ (Heap.get?_push_size _ rfl), rfl, fun e he => absurd he (by simp), fun n => rfl⟩
  have up : ∀ x c, cs.lookup x = some c → X.env.cells.lookup x = some c ∨ (HH.objs.size < c ∧ h₁.IsCell c none) := fun x c e => by
    rcases CO.mem _ (PySem.mem_of_lookup e) with z | z
    · exact .inl (upM _ z)
    · exact .inr ⟨z.1, z.2.2⟩
  have hinj : ∀ x y c, cs.lookup x = some c → cs.lookup y = some c → x = y := fun x y c e1 e2 => by
    have m1 := PySem.mem_of_lookup e1
    have m2 := PySem.mem_of_lookup e2
    rcases CO.mem _ m1 with z | z
    · rcases CO.mem _ m2 with z' | z'
      · exact I2.ok.inj x y c (upM _ z) (upM _ z')
      · exact absurd (hcl' _ z) (Nat.not_lt_of_le (Nat.le_of_succ_le z'.1))
    · exact CO.inj _ m1 _ m2 z.1 rfl
  have hfr : ∀ y ∈ scope.names, y.2 = .free → ∃ c, cs.lookup y.1 = some c ∧ X.env.cells.lookup y.1 = some c := fun y hy hf => by
    obtain ⟨c, q1, q2⟩ := hfr0 y hy hf
    refine ⟨c, ?_, q2⟩
    rw [CO.oth y.1 fun y' hy' hc' z => ?_]
    · exact q1
    · have w1 := compOkN_cell hok y' hy' hc'
      have w2 := (compOkN_free hok y hy hf).1
      rw [z, w2] at w1; cases w1
  have hfl : ∀ b ∈ fp, b < s2.heap.objs.size := fun b hb => by
    obtain ⟨o, ho, _⟩ := T.obj 0 _ st2 b hb
    exact Heap.lt_size ho
  have hDC : s2.heap.objs.size ≠ HH.objs.size := by rw [hC]; exact Nat.ne_of_lt (Nat.lt_succ_self _)
  have old : ∀ b o, s2.heap.get? b = some o → h₁.get? b = some o := fun b o e => CO.old b o (Heap.get?_push_of_some _ (hH2 ▸ Heap.get?_push_of_some _ e))
  have hacc : h₁.get? s2.heap.objs.size = some { cls := .type "list", dict := none, data := .seq ([] : List Value).toArray } := CO.old _ _ (Heap.get?_push_of_some _ (hH2 ▸ Heap.get?_push_size _ rfl))
  have I4 := comp_startN (Nc := Nc) (js := js) (tk := s2.toks) I2 hok htk up hinj (fun y hy hc => CO.own y hy hc) hfr f2 hfl rfl hC old hns₁ hacc (by intro v z; cases z)
  have st4 : tn 0 h₁ := T.keep _ _ _ st2 fun b _ o e => old b o e
  generalize hXc : compCxN X Nc scope cs HH.objs.size s2 H2 fp = Xc at I4
  have hXA : Xc.A = X.A := by rw [← hXc]; rfl
  have hXe : Xc.env = compEnvC scope cs HH.objs.size X.env := by rw [← hXc]; rfl
  have hXp : Xc.prog = X.prog := by rw [← hXc]; rfl
  have hXw : Xc.w = X.w := by rw [← hXc]; rfl
  have hXx : Xc.xe = fun _ _ => False := by rw [← hXc]; rfl
  have hXk : Xc.K = X.K := by rw [← hXc]; rfl
  have hXcalm : Xc.calm = true := by rw [← hXc]; exact hc
  have fpok : ∀ {pl : List (Addr × Obj)} {H' : Hp}, (∀ p ∈ pl, s2.heap.objs.size ≤ p.1) → (∀ b ∈ fp, H' b = none) → ∀ b ∈ fp, FpOk Xc pl H' b := fun {pl H'} hpl hn b hb => by
    have k1 : b ≠ HH.objs.size := Nat.ne_of_lt (by rw [hC]; exact Nat.lt_succ_of_lt (hfl b hb))
    have k2 : b ∉ frs X.stack := fun q => by
      rcases List.mem_cons.mp (I2.stkSub b q) with z | z
      · exact (f2 b hb).2.1 z
      · exact (f2 b hb).2.2.1 z
    rw [← hXc]
    refine ⟨hn b hb, k1, k2, .inl hb, fun x c e => (up _ _ e).elim (fun z => (f2 b hb).2.2.2.2.1 x c z) fun z => Nat.ne_of_gt (Nat.lt_trans (by rw [hC]; exact Nat.lt_succ_of_lt (hfl b hb)) z.1), fun p hp => ?_⟩
    have hp' : p ∈ pl := by simpa [compCxN, compCx] using hp
    exact Nat.ne_of_gt (Nat.lt_of_lt_of_le (hfl b hb) (hpl p hp'))
  have gX : PG Xc tg g := hXc ▸ hg cs HH.objs.size s2 H2 fp
  have tX : PIfs Xc ifs tt := hXc ▸ ht cs HH.objs.size s2 H2 fp
  have eX : PE Xc elt te := hXc ▸ he cs HH.objs.size s2 H2 fp
  have hs0 : Xc.s₀ = s2 := by rw [← hXc]; rfl
  have hh0 : Xc.H₀ = H2 := by rw [← hXc]; rfl
  have hfs : Xc.fs = frs X.stack := by rw [← hXc]; rfl
  have hex : Xc.ex = fp := by rw [← hXc]; rfl
  have loop : codeAny (model X.prog X.w) X.A (.compLoop (.ListComp elt [⟨tg, iter, ifs, 0⟩] scope pos) 0 (.ref it) (.ref s2.heap.objs.size) (compEnvC scope cs HH.objs.size X.env)) (compPost (model X.prog X.w) X.A X.xe use QQ (.ref s2.heap.objs.size) HH.objs.size)
      { s2 with heap := h₁, toks := s2.toks } := by
    refine codeAny_compLoop_all (fun n s' => ∃ i acc its nn H', Inv Xc [(s2.heap.objs.size, { cls := .type "list", dict := none, data := .seq (its : List Value).toArray nn })] (iniC js σ) H' s' ∧ Vals acc its ∧ acc.length ≤ sizeLine ∧ tn i s'.heap ∧ (∀ b ∈ fp, H' b = none) ∧ W i n acc H') ?_ m0
      ⟨0, [], [], 0, H2, I4, .nil, Nat.zero_le _, st4, fun b hb => (f2 b hb).1, w0⟩
    rintro n s3 ⟨i, acc, its, nn, H3, I3, va, hlen, st3, fr3, w3⟩
    have pg : ∀ p ∈ ([(s2.heap.objs.size, { cls := .type "list", dict := none, data := .seq its.toArray nn })] : List (Addr × Obj)), s2.heap.objs.size ≤ p.1 := fun p hp => by
      simp only [List.mem_cons, List.not_mem_nil, or_false] at hp
      subst hp; exact Nat.le_refl _
    rcases turn i n acc H3 w3 with ⟨stop, hl, qn⟩ | ⟨go, hl, step⟩
    · have q := T.done Xc hXp hXw hXk hXcalm i _ s3 (iniC js σ) H3 (fun _ _ => False) I3 (fpok pg fr3) st3 stop
      rw [hXA] at q
      refine thn q fun r s4 ⟨hr, I5⟩ => ?_
      subst hr
      have hpin := I5.pin _ (List.mem_append_right _ (.head _))
      obtain ⟨m5, hn5, _⟩ := I5.loc
      rw [hXe] at hn5
      refine fin _ _ H3 H2 s2 s4 acc m5 I2 (by have := I5.free; rw [hXe] at this; exact this) hC rfl hn5 (fun h' hsb => ?_) (qn _ hpin.2.1)
      have same : ∀ b o, b ≠ HH.objs.size → s4.heap.get? b = some o → h'.get? b = some o := fun b o hb e => hsb.extBut b o hb e
      have un := I5.base
      rw [hfs, hex, hh0, hs0] at un
      have lt : ∀ b o, s2.heap.get? b = some o → b < s2.heap.objs.size := fun b o e => Heap.lt_size e
      have neC : ∀ b o, s2.heap.get? b = some o → b ≠ HH.objs.size := fun b o e => Nat.ne_of_lt (by rw [hC]; exact Nat.lt_succ_of_lt (lt b o e))
      have neD : ∀ b o, s2.heap.get? b = some o → b ≠ s2.heap.objs.size := fun b o e => Nat.ne_of_lt (lt b o e)
      have trkC : ∀ b o, H3 b = some o → b ≠ HH.objs.size := fun b o e z => by
        have := I5.free; rw [hXe] at this; rw [z, show H3 HH.objs.size = none from this] at e; cases e
      refine I2.call' (s' := { s4 with heap := h' }) (ch := fp) (I5.os.trans (by rw [hs0])) ⟨fun b o e n hb hx => same _ _ (neC b o e) (un.keep b o e n hb hx), fun b o e n hb hx => ?_, fun b o e n hx => by rw [upd_ne (neD b o e)]; exact un.free b o e n hx, fun b o e hx => ?_, fun b xs e => ?_, fun b o u e => ?_, fun b ps e => ?_⟩ (fun a o e => ?_) I5.bare fun b hb => ⟨(f2 b hb).2.2.2.1, (f2 b hb).2.1, (f2 b hb).2.2.2.2.1, (f2 b hb).2.2.2.2.2⟩
      · obtain ⟨sl, z⟩ := un.slot b o e n hb hx
        exact ⟨sl, same _ _ (neC b o e) z⟩
      · obtain ⟨o', z⟩ := un.there b o e hx
        exact ⟨o', same _ _ (neC b o e) z⟩
      · rw [upd_ne (Nat.ne_of_lt (I2.hok.lt e))]; exact un.tups b xs e
      · rw [upd_ne (Nat.ne_of_lt (I2.hok.lt e))]; exact un.frzs b o u e
      · obtain ⟨more, z⟩ := un.tbls b ps e
        exact ⟨more, by rw [upd_ne (Nat.ne_of_lt (I2.hok.lt e))]; exact z⟩
      · by_cases ha : a = s2.heap.objs.size
        · subst ha
          rw [upd_same] at e; cases e
          exact ⟨hl, its, nn, va, same _ _ hDC hpin.1⟩
        · rw [upd_ne ha] at e
          have q := I5.hok a o e
          rw [hXp, hXw] at q
          refine q.stay (fun b u hb z => same b u ?_ z) (fun b z => by rw [upd_ne]; exact z; intro y; subst y; rw [hpin.2.1] at z; cases z) (fun b xs z => by rw [upd_ne]; exact z; intro y; subst y; rw [hpin.2.1] at z; cases z) fun b o u z => by rw [upd_ne]; exact z; intro y; subst y; rw [hpin.2.1] at z; cases z
          rcases hb with hb | hb
          · subst hb; exact trkC _ _ e
          · exact trkC _ _ hb
    · have q := T.item Xc hXp hXw hXk hXcalm i _ s3 (iniC js σ) H3 (fun _ _ => False) I3 (fpok pg fr3) st3 go
      rw [hXA] at q
      refine thn q fun r s4 ⟨u, hr, h4⟩ => ?_
      subst hr
      refine thn h4 fun _ s5 ⟨x, H5, I5, r5, y5, st5, fr5⟩ => ?_
      have I5' := I5.pinned (fpok pg fr5) (T.obj _ _ st5)
      have again : ∀ {σ7 : St} {H7 : Hp} {s7 : Shared} {acc7 : List V} {its7 : List Value} {n7 : Nat} {m : Nat}, Inv Xc ([(s2.heap.objs.size, { cls := .type "list", dict := none, data := .seq its7.toArray n7 })] ++ pinsAt fp s5.heap) σ7 H7 s7 → Vals acc7 its7 → acc7.length ≤ sizeLine → W (i + 1) m acc7 H7 → σ7.length = (iniC js σ).length → (∀ (k : Nat) v, (iniC js σ)[k]? = some (some v) → σ7[k]? = some (some v)) →
          ∃ i acc its nn H', Inv Xc [(s2.heap.objs.size, { cls := .type "list", dict := none, data := .seq (its : List Value).toArray nn })] (iniC js σ) H' s7 ∧ Vals acc its ∧ acc.length ≤ sizeLine ∧ tn i s7.heap ∧ (∀ b ∈ fp, H' b = none) ∧ W i m acc H' := fun {σ7 H7 s7 acc7 its7 n7 m} I7 v7 l7 w7 hl7 hw7 => by
        refine ⟨i + 1, acc7, its7, n7, H7, (I7.weak hl7.symm hw7).unpinned, v7, l7, T.keep _ _ _ st5 fun b hb o e => (I7.pin (b, o) (List.mem_append_right _ (List.mem_append_right _ (mem_pinsAt hb e)))).1, fun b hb => ?_, w7⟩
        obtain ⟨o, e, d⟩ := T.obj _ _ st5 b hb
        exact (I7.pin (b, o) (List.mem_append_right _ (List.mem_append_right _ (mem_pinsAt hb e)))).2.1
      have keep : ∀ {σ6 : St}, KeepOn L (iniC js σ) σ6 → σ6.length = (iniC js σ).length ∧ ∀ (k : Nat) v, (iniC js σ)[k]? = some (some v) → σ6[k]? = some (some v) := fun {σ6} hk => ⟨hk.1, fun k v e => by
        rw [hk.2 k]
        · exact e
        · intro z
          have q := List.all_eq_true.mp hL k z
          simp only [beq_iff_eq] at q
          unfold iniC at e
          rw [List.getElem?_map, q] at e
          cases e⟩
      have q6 := gX _ s5 (iniC js σ) H5 x u _ I5' r5 (ho _ _ _ _ _ (fun σ' H' kk z => And.intro kk z) (step x H5 y5))
      rw [hXe, hXA, hXp, hXw, hXx] at q6
      refine thn q6 fun _ s6 ⟨σ6, H6, I6, k6, q6⟩ => ?_
      obtain ⟨kl, kv⟩ := keep k6
      have q7 := tX _ s6 σ6 H6 _ I6 q6
      rw [hXe, hXA, hXp, hXw, hXx] at q7
      refine thn q7 fun b s7 ⟨H7, I7, q7⟩ => ?_
      cases b with
      | false =>
        obtain ⟨m', hm, w7⟩ := q7
        exact ⟨m', hm, again I7 va hlen w7 kl kv⟩
      | true =>
        have q8 := eX _ s7 σ6 H7 _ I7 q7
        rw [hXe, hXA, hXp, hXw, hXx] at q8
        refine thn q8 fun y s8 ⟨v8, H8, I8, r8, m', hm, w8⟩ => ?_
        have pinD := I8.pin _ (List.mem_append_right _ (List.mem_append_left _ (.head _)))
        have hnf : ∀ p ∈ pinsAt fp s5.heap, p.1 ≠ s2.heap.objs.size := fun p hp => by
          obtain ⟨z, _⟩ := of_pinsAt hp
          exact Nat.ne_of_lt (hfl _ z)
        have va' := va.length
        refine call_meets F.slot_list_append ⟨_, pinD.1, rfl⟩ F.entry_list_append (F.args_list_append_2 _ _) (PySem.list_append s2.heap.objs.size its.toArray nn y (by rw [List.size_toArray]; omega)) ⟨pinD.1, ?_⟩
        have e9 := PySem.IsL.update pinD.1 (fun a => a.push y)
        have e9' : its.toArray.push y = (its ++ [y]).toArray := by simp
        dsimp only at e9
        rw [e9'] at e9
        have I8' : Inv Xc (pinsAt fp s5.heap) σ6 H8 s8 := I8.pins_of fun p hp => I8.pin p (List.mem_append_right _ (List.mem_append_right _ hp))
        have hXpn : Xc.pn = [] := by rw [← hXc]; rfl
        have hXs : s2.heap.objs.size ∉ frs X.stack := by rw [← hfs]; exact pinD.2.2.2.1
        have I9 := I8'.turned (t' := s8.toks) (it := s2.heap.objs.size) (h' := s8.heap.update s2.heap.objs.size (Obj.mapSeq fun a => a.push y)) (fun b o hb e => (Heap.get?_update_other s8.heap _ (Ne.symm hb)).trans e) pinD.2.1 pinD.2.2.1
          (.inr (by rw [hs0]; exact Nat.le_refl _)) (fun x c e => by
            rw [hXe] at e
            intro z
            rcases up _ _ e with y | y
            · obtain ⟨v, q⟩ := I2.cell x c y
              exact absurd q.lt (by rw [z]; exact Nat.lt_irrefl _)
            · have := y.1
              rw [z, hC] at this
              exact absurd this (Nat.not_lt_of_le (Nat.le_succ _))) (fun p hp => by rw [hXpn, List.nil_append] at hp; exact hnf p hp)
        have I10 := I9.pins_of (pins' := [(s2.heap.objs.size, { cls := .type "list", dict := none, data := .seq (its ++ [y]).toArray _ })] ++ pinsAt fp s5.heap) fun p hp => by
          rcases List.mem_append.mp hp with z | z
          · simp only [List.mem_cons, List.not_mem_nil, or_false] at z
            subst z
            exact ⟨e9, pinD.2.1, pinD.2.2.1, pinD.2.2.2.1, by intro v z; cases z⟩
          · exact I9.pin p (List.mem_append_right _ z)
        exact ⟨m', hm, again I10 (va.append (.cons r8 .nil)) (by rw [List.length_append, List.length_singleton]; omega) w8 kl kv⟩
  exact codeAny_compStart_list loop (T.self _ 0 _ _ _ st4 loop)

theorem pe_compN {tg elt iter : Expr} {ifs : List Expr} {scope : Scope} {pos : Pos} {wi : TI} {g : TG} {tt : TT} {te : TE} (Nc : List Str) (js : List (Option Nat)) {L : List Nat}
    (hc : X.calm = true) (hok : compOkN X.env.scope scope = true) (htk : takesC X.N Nc scope js 0 = true) (hi : PI X tg iter wi)
    (hg : ∀ cl C s2 H2 fp, PG (compCxN X Nc scope cl C s2 H2 fp) tg g) (ht : ∀ cl C s2 H2 fp, PIfs (compCxN X Nc scope cl C s2 H2 fp) ifs tt) (he : ∀ cl C s2 H2 fp, PE (compCxN X Nc scope cl C s2 H2 fp) elt te)
    (ho : OnlyG g L) (hL : (L.all fun k => js[k]? == some none) = true := by rfl) (hs : ∀ x, foldedSetIterable iter X.env x = pure x := by intro _; rfl) : PE X (.ListComp elt [⟨tg, iter, ifs, 0⟩] scope pos) (tComp wi g tt te js) := by
  intro pins s σ H Q I h
  rw [eval_ListComp]
  exact comp_runN (use := none) hc hok htk hi hg ht he hs ho hL I h fun D C H' H2 s2 s' xs m I2 hHC e1 e2 hn hI q => ⟨m, hn, fun h' hsb => ⟨.ref D, _, hI h' hsb, rfl, q⟩⟩


theorem ps_setCN {i : Nat} {x : Str} {pos' spos : Pos} {tg elt iter : Expr} {ifs : List Expr} {scope : Scope} {pos : Pos} {wi : TI} {g : TG} {tt : TT} {te : TE} (Nc : List Str) (js : List (Option Nat)) {L : List Nat}
    (hN : X.N.Nodup) (hxi : X.N[i]? = some x) (hx : Loc X.env.scope x)
    (hc : X.calm = true) (hok : compOkN X.env.scope scope = true) (htk : takesC X.N Nc scope js 0 = true) (hi : PI X tg iter wi)
    (hg : ∀ cl C s2 H2 fp, PG (compCxN X Nc scope cl C s2 H2 fp) tg g) (ht : ∀ cl C s2 H2 fp, PIfs (compCxN X Nc scope cl C s2 H2 fp) ifs tt) (he : ∀ cl C s2 H2 fp, PE (compCxN X Nc scope cl C s2 H2 fp) elt te)
    (ho : OnlyG g L) (hL : (L.all fun k => js[k]? == some none) = true := by rfl) (hs : ∀ x, foldedSetIterable iter X.env x = pure x := by intro _; rfl)
    (hsw : swapsWith (.ListComp elt [⟨tg, iter, ifs, 0⟩] scope pos) (some (.Name x pos')) spos.line X.env = pure true := by rfl)
    (hf : X.fn x = true ∨ X.env.scope.names.lookup x = some .local := by first | exact .inl rfl | exact .inr rfl | assumption) :
    PS X (.Assign [.Name x pos'] (.ListComp elt [⟨tg, iter, ifs, 0⟩] scope pos) spos) (tAsg (tComp wi g tt te js) (gName i)) := by
  intro pins s σ H D I h
  rw [exec_Assign_Name_used _ _ _ _ hsw]
  refine wpAny_bind (wpAny_standAt (wpAny_bind ?_))
  show wpAny _ _ (comprehension _ _ _ _ _ _ _ _ >>= _) _ _ _
  refine wpAny_bind (thn (Q := fun _ s' => ∃ σ' H', Inv X pins σ' H' s' ∧ D.nx σ' H') (comp_runN (Q := fun v H1 => gName i v σ H1 D.nx) (use := some (assign (.Name x pos') X.env)) hc hok htk hi hg ht he hs ho hL I h ?_) fun _ s' ⟨σ', H', I', q⟩ => wpAny_pure (wpAny_pure ⟨σ', H', I', q⟩))
  intro D' C H' H2 s2 s' xs m I2 hHC e1 e2 hn hI q
  obtain ⟨oC, es, ep, hoC, hdC, hrest⟩ := id hn
  have leC : s2.heap.objs.size ≤ C := by rw [e1, e2]; exact Nat.le_succ _
  have ltC : s2.heap.objs.size < C := by rw [e1, e2]; exact Nat.lt_succ_self _
  have neDC : C ≠ D' := by rw [e2]; exact Nat.ne_of_gt ltC
  have fresh : s2.heap.get? C = none := by
    cases e : s2.heap.get? C with
    | none => rfl
    | some o => exact absurd (Nat.lt_of_lt_of_le (Heap.lt_size e) leC) (Nat.lt_irrefl _)
  have neL : C ≠ X.env.locals := Nat.ne_of_gt (Nat.lt_of_lt_of_le I2.lt leC)
  have nfs : C ∉ X.fs := I2.nofs leC
  have ncl : ∀ x c, X.env.cells.lookup x = some c → c ≠ C := fun x c e z => by
    obtain ⟨v, q⟩ := I2.cell x c e
    exact absurd (Nat.lt_of_lt_of_le q.lt leC) (by rw [z]; exact Nat.lt_irrefl _)
  have npn : ∀ p ∈ X.pn ++ pins, p.1 ≠ C := fun p hp z => by
    have := (I2.pin p hp).1
    rw [z, fresh] at this; cases this
  have hH : (upd H' D' (HO.lst xs)) C = none := by rw [upd_ne neDC]; exact hHC
  have I0 := hI s'.heap sameBut_refl
  have I1 : Inv X (pins ++ [(C, oC)]) σ (upd H' D' (.lst xs)) s' := I0.pins_of fun p hp => by
    rcases List.mem_append.mp hp with z | z
    · exact I0.pin p (List.mem_append_right _ z)
    · simp only [List.mem_cons, List.not_mem_nil, or_false] at z
      subst z
      exact ⟨hoC, hH, neL, nfs, fun v z => by rw [hdC] at z; cases z⟩
  show wpAny _ _ _ _ _ _
  refine thn (pg_name (X := X) (i := i) hN hxi hx hf (pins ++ [(C, oC)]) s' σ _ (.ref D') (.ref D') _ I1 rfl q) fun _ s3 ⟨σ3, H3, I3, q3⟩ => ?_
  have pC := I3.pin (C, oC) (List.mem_append_right _ (List.mem_append_right _ (.head _)))
  refine ⟨m, ⟨oC, es, ep, pC.1, hdC, hrest⟩, fun h' hsb => ⟨σ3, H3, ?_, q3⟩⟩
  exact I3.unpinned.turned (t' := s3.toks) (it := C) (fun b o hb e => hsb.extBut b o hb e) pC.2.1 neL (.inr (Nat.le_trans I2.sz leC)) ncl npn
end
end L2


set_option Elab.async false
set_option linter.all false
set_option maxRecDepth 100000
set_option maxHeartbeats 1000000
namespace L2
open PySem PySem.Spec PyProof.Rows PySem.W

def CF (n : Nat) (P : Nat → Bool) (vals : Nat → V) (H1 : Hp) (i m : Nat) (acc : List V) (H : Hp) : Prop := m = n - i ∧ i ≤ n ∧ acc = ((List.range i).filter P).map vals ∧ Same H1 H
theorem CF.take {n : Nat} {P : Nat → Bool} {vals : Nat → V} {H1 H : Hp} {i : Nat} {v : V} (hi : i < n) (hP : P i = true) (hv : v = vals i) (s : Same H1 H) : ∃ m', m' < n - i ∧ CF n P vals H1 (i + 1) m' (((List.range i).filter P).map vals ++ [v]) H :=
  ⟨n - (i + 1), by omega, rfl, hi, by rw [List.range_succ, List.filter_append, List.map_append, hv]; simp [hP], s⟩
theorem CF.skip {n : Nat} {P : Nat → Bool} {vals : Nat → V} {H1 H : Hp} {i : Nat} (hi : i < n) (hP : P i = false) (s : Same H1 H) : ∃ m', m' < n - i ∧ CF n P vals H1 (i + 1) m' (((List.range i).filter P).map vals) H :=
  ⟨n - (i + 1), by omega, rfl, hi, by rw [List.range_succ, List.filter_append, List.map_append]; simp [hP], s⟩
theorem comp_filt {J : It} {n : Nat} {H1 : Hp} {g : TG} {tt : TT} {te : TE} {σ0 : St} {Q : VK} (P : Nat → Bool) (vals : Nat → V) (hn : n < sizeLine) (hgo : ∀ i H, Same H1 H → i < n → J.go i H) (hstop : ∀ H, Same H1 H → J.stop n H)
    (hb : ∀ i x H H', i < n → Same H1 H → J.yld i H x H' → g x σ0 H' fun σ2 H2 => tt σ2 H2 fun b H3 => if b = true then te σ2 H3 fun v H4 => ∃ m', m' < n - i ∧ CF n P vals H1 (i + 1) m' (((List.range i).filter P).map vals ++ [v]) H4 else ∃ m', m' < n - i ∧ CF n P vals H1 (i + 1) m' (((List.range i).filter P).map vals) H3)
    (hk : ∀ l H', Same H1 H' → H' l = none → Q (.ref l) (upd H' l (.lst (((List.range n).filter P).map vals)))) :
    CompR J g tt te σ0 Q H1 := by
  refine ⟨CF n P vals H1, ⟨n, rfl, Nat.zero_le _, rfl, Same.refl _⟩, ?_⟩
  rintro i m acc H ⟨rfl, hi, rfl, s⟩
  have hlen : (((List.range i).filter P).map vals).length ≤ n := by
    rw [List.length_map]
    have := List.length_filter_le P (List.range i)
    rw [List.length_range] at this
    omega
  by_cases h : i < n
  · exact .inr ⟨hgo i H s h, by omega, fun x H' y => hb i x H H' h s y⟩
  · have : i = n := by omega
    subst this
    exact .inl ⟨hstop H s, by omega, fun p hp => hk p H s hp⟩

def CRv (rs : Nat → List Int) (H1 : Hp) (i : Nat) (acc : List V) (H : Hp) : Prop := Same H1 H ∧ ∃ as : List Addr, acc = as.map V.ref ∧ as.length = i ∧ ∀ (k : Nat) (a : Addr), as[k]? = some a → H a = some (.lst ((rs k).map V.int))
theorem CRv.take {rs : Nat → List Int} {H1 H H' : Hp} {i : Nat} {acc : List V} {a : Addr} (h : CRv rs H1 i acc H) (s : Same H H') (ha : H' a = some (.lst ((rs i).map V.int))) : CRv rs H1 (i + 1) (acc ++ [.ref a]) H' := by
  obtain ⟨s1, as, rfl, hl, h1⟩ := h
  refine ⟨s1.trans s, as ++ [a], by simp, by simp [hl], fun k b hk => ?_⟩
  by_cases z : k < as.length
  · rw [List.getElem?_append_left z] at hk
    exact s _ _ (h1 k b hk)
  · have hk2 := (List.getElem?_eq_some_iff.mp hk).1
    rw [List.length_append] at hk2
    have : k = as.length := by simp at hk2; omega
    subst this
    rw [List.getElem?_append_right (Nat.le_refl _)] at hk
    simp at hk
    rw [← hk, hl]; exact ha
theorem IsLow.over {f : Nat → Int} {a b lo p : Nat} (h : IsLow f a b lo) (h1 : a ≤ p) (h2 : p ≤ b) (hne : p ≠ lo) : Over f lo p := by
  obtain ⟨l1, l2, l3, l4⟩ := h
  rcases Nat.lt_or_gt_of_ne hne with z | z
  · exact .inr ⟨z, fun r r1 r2 => l3 r (by omega) r2⟩
  · exact .inl ⟨z, fun r r1 r2 => l4 r r1 (by omega)⟩
theorem IsLow.top {f : Nat → Int} {a b lo o : Nat} (h : IsLow f a b lo) (h1 : a ≤ o) (h2 : o ≤ b) : ¬ Over f o lo := by
  obtain ⟨l1, l2, l3, l4⟩ := h
  rintro (⟨z, k⟩ | ⟨z, k⟩)
  · have := k lo z (Nat.le_refl _); have := l3 o h1 z; omega
  · have := k lo (Nat.le_refl _) z; have := l4 o z h2; omega
theorem tree_row {ns T : List Int} {g : Nat → Int} (hT : TreeIs ns T) (hg : ∀ q p, q < ns.length → p < ns.length → Over (nth ns) q p → (q < p → g q ≤ g p) ∧ (p < q → g q < g p)) : ∀ p, p < ns.length → ElderIs g ns.length p (T.getD p 0) := by
  intro p hp
  have pv : ∀ q, IsPrev (nth ns) p q → IsPrev g p q := fun q h => by
    refine ⟨h.1, (hg q p (by have := h.1; omega) hp (.inl ⟨h.1, fun r r1 r2 => ?_⟩)).1 h.1, fun r r1 r2 => (hg p r hp (by omega) (.inr ⟨r2, fun s s1 s2 => h.2.2 s (by omega) s2⟩)).2 r2⟩
    by_cases z : r = p
    · rw [z]; exact h.2.1
    · have := h.2.2 r r1 (by omega); have := h.2.1; omega
  have nx : ∀ r, IsNext (nth ns) ns.length p r → IsNext g ns.length p r := fun q h => by
    refine ⟨h.1, h.2.1, (hg q p h.2.1 hp (.inr ⟨h.1, fun r r1 r2 => ?_⟩)).2 h.1, fun s s1 s2 => (hg p s hp (by have := h.2.1; omega) (.inl ⟨s1, fun r r1 r2 => h.2.2.2 r r1 (by omega)⟩)).1 s1⟩
    by_cases z : r = p
    · rw [z]; exact h.2.2.1
    · have := h.2.2.2 r (by omega) r2; have := h.2.2.1; omega
  have np : NoPrev (nth ns) p → NoPrev g p := fun h q hq => (hg p q hp (by omega) (.inr ⟨hq, fun r r1 r2 => h r r2⟩)).2 hq
  have nn : NoNext (nth ns) ns.length p → NoNext g ns.length p := fun h r r1 r2 => (hg p r hp r2 (.inl ⟨r1, fun s s1 s2 => h s s1 (by omega)⟩)).1 r1
  have hE : ElderIs (nth ns) ns.length p (T.getD p 0) := hT.2 p hp
  rcases hE with ⟨h1, h2, h⟩ | ⟨q, h1, h2, h⟩ | ⟨r, h1, h2, h⟩ | ⟨q, r, h1, h2, h⟩
  · exact .inl ⟨np h1, nn h2, h⟩
  · exact .inr (.inl ⟨q, pv q h1, nn h2, h⟩)
  · exact .inr (.inr (.inl ⟨r, np h1, nx r h2, h⟩))
  · refine .inr (.inr (.inr ⟨q, r, pv q h1, nx r h2, ?_⟩))
    rw [h]
    have hq : q < ns.length := by have := h1.1; omega
    have hqr : q < r := by have := h1.1; have := h2.1; omega
    by_cases z : nth ns q ≤ nth ns r
    · have := (hg q r hq h2.2.1 (.inl ⟨hqr, fun s s1 s2 => by
        by_cases y : s = r
        · rw [y]; exact z
        · by_cases y2 : s = p
          · rw [y2]; exact h1.2.1
          · have := h1.2.1
            by_cases y3 : s < p
            · have := h1.2.2 s s1 y3; omega
            · have := h2.2.2.2 s (by omega) (by omega); omega⟩)).1 hqr
      rw [if_pos z, if_pos (by omega)]
    · have := (hg r q h2.2.1 hq (.inr ⟨hqr, fun s s1 s2 => by
        have := h1.2.1; have := h2.2.2.1
        by_cases y : s = q
        · rw [y]; omega
        · by_cases y2 : s = p
          · rw [y2]; omega
          · by_cases y3 : s < p
            · have := h1.2.2 s (by omega) y3; omega
            · have := h2.2.2.2 s (by omega) (by omega); omega⟩)).2 hqr
      rw [if_neg z, if_neg (by omega)]

theorem atI_m1 {xs : List V} {v : V} (h : 0 < xs.length) (hv : xs[xs.length - 1]? = some v) : atI xs (-1) = some v := by
  have e : ixN xs.length (-1) = some (xs.length - 1) := by
    unfold ixN
    rw [if_neg (by omega), if_pos (by omega)]
    congr 1
    omega
  unfold atI
  rw [e]
  exact hv
end L2


set_option Elab.async false
set_option linter.all false
set_option maxRecDepth 100000
set_option maxHeartbeats 1000000
namespace HT
open PySem PyProof.Rows
section
open PySem.SeqAt
open PySem.AutoSeq1 (wpAny_loadPart')
open PySem.MeetsSeq PySem.MeetsSeq2 PySem.MeetsSeq3
variable {prog : Program} {w : World} {A : Around} {E : Value → Shared → Prop} {s : Shared}
end
end HT
namespace L2
open PySem PySem.Spec PyProof.Rows PySem.W
section
variable {X : Cx}

def rSlQ (K : Frag) : V → Option Int → Option Int → Hp → VK → Prop := fun x lo hi H Q => ∃ a xs, x = .ref a ∧ ((SqL K H a xs ∧ ∀ p, H p = none → Q (.ref p) (upd H p (.lst (cutV xs lo hi)))) ∨
  (SqT K H a xs ∧ (HT.sIx xs.length 0 lo = 0 ∧ HT.sIx xs.length xs.length hi = xs.length → Q (.ref a) H) ∧ (¬ (HT.sIx xs.length 0 lo = 0 ∧ HT.sIx xs.length xs.length hi = xs.length) → ∀ p, H p = none → Q (.ref p) (upd H p (.tup (cutV xs lo hi))))))
end
section
variable {X : Cx} {tg l : Expr} {tl : TE}
theorem pi_listK {K : Frag} (hK : X.K = K) (hl : PE X l tl) : PI X tg l (iList K tl) := hK ▸ pi_list hl
end
end L2


set_option Elab.async false
set_option linter.all false
set_option maxRecDepth 100000
set_option maxHeartbeats 1000000
namespace L2
open PySem PySem.Spec PyProof.Rows PySem.W

theorem wayF_ext (T : List Int) : ∀ k a, (wayF T k a).length < k → wayF T (k + 1) a = wayF T k a
  | 0, _, h => by omega
  | k + 1, a, h => by
    rw [wayF] at h ⊢
    by_cases z : 0 ≤ a ∧ a < T.length
    · rw [if_pos z] at h ⊢
      rw [wayF_ext T k _ (by simpa using h), wayF, if_pos z]
    · rw [if_neg z] at h ⊢
      rw [wayF, if_neg z]
def way (T : List Int) (p : Nat) : List Nat := wayF T T.length (nth T p)
theorem way_top {T : List Int} {p : Nat} (h : nth T p = -1) : way T p = [] := by
  unfold way
  rw [h]
  cases T.length with
  | zero => rfl
  | succ k => rw [wayF, if_neg (by omega)]
theorem way_cons {ns T : List Int} (hT : TreeIs ns T) {p q : Nat} (hp : p < ns.length) (h : nth T p = q) : way T p = q :: way T q := by
  have hE : ElderIs (nth ns) ns.length p (q : Int) := h ▸ hT.2 p hp
  have hq : q < ns.length := by
    rcases elder_over hp hE with z | ⟨q', e, z, _⟩ <;> omega
  have hd := dep_elder hp hE
  have hl := dep_lt (f := nth ns) hp
  unfold way
  rw [h, hT.1]
  obtain ⟨k, hk⟩ : ∃ k, ns.length = k + 1 := ⟨ns.length - 1, by omega⟩
  rw [hk, wayF, if_pos ⟨by omega, by rw [hT.1]; omega⟩, show ((q : Nat) : Int).toNat = q by omega]
  rw [wayF_ext T k (nth T q)]
  rw [(way_tree hT k q hq (by omega)).2]
  omega
theorem wayI_way (T : List Int) (p : Nat) : wayI T p = (way T p).map fun q => ((q : Nat) : Int) := rfl

theorem elder_cases {ns T : List Int} (hT : TreeIs ns T) {p : Nat} (hp : p < ns.length) : nth T p = -1 ∨ ∃ q : Nat, nth T p = q ∧ q < ns.length ∧ Over (nth ns) q p ∧ dep (nth ns) ns.length p = dep (nth ns) ns.length q + 1 := by
  rcases elder_over hp (hT.2 p hp) with z | ⟨q, e, hq, hO⟩
  · exact .inl z
  · have e' : nth T p = (q : Int) := e
    have hE : ElderIs (nth ns) ns.length p (q : Int) := e' ▸ hT.2 p hp
    exact .inr ⟨q, e, hq, hO, dep_elder hp hE⟩

def flatN (T : List Int) (p : Nat) : Nat := ((way T p).filter fun o => decide (p < o)).length
def flatI (T : List Int) : List Int := (List.range T.length).map fun p => (flatN T p : Int)
theorem flatI_len (T : List Int) : (flatI T).length = T.length := by simp [flatI]
theorem flatI_nth {T : List Int} {p : Nat} (h : p < T.length) : nth (flatI T) p = flatN T p := by simp [nth, flatI, List.getD_eq_getElem?_getD, h]
theorem filter_len_congr {P Q : Nat → Bool} {l : List Nat} (h : ∀ x ∈ l, P x = Q x) : (l.filter P).length = (l.filter Q).length := by
  rw [List.filter_congr h]
theorem way_over {ns T : List Int} (hT : TreeIs ns T) {p o : Nat} (hp : p < ns.length) : o ∈ way T p ↔ o < ns.length ∧ Over (nth ns) o p := by
  unfold way
  rw [hT.1]
  exact (way_tree hT ns.length p hp (Nat.le_of_lt (dep_lt hp))).1 o
theorem over_side {f : Nat → Int} {o q p : Nat} (h : Over f o q) (k : Over f q p) : (p < q → p < o → q < o) ∧ (q < p → q < o → p < o) := by
  refine ⟨fun h1 h2 => Nat.lt_of_not_le fun z => ?_, fun h1 h2 => Nat.lt_of_not_le fun z => ?_⟩
  · rcases h with ⟨a, b⟩ | ⟨a, b⟩
    · rcases k with ⟨c, d⟩ | ⟨c, d⟩
      · omega
      · have := d o (by omega) a; have := b q a (Nat.le_refl _); omega
    · omega
  · rcases h with ⟨a, b⟩ | ⟨a, b⟩
    · omega
    · rcases k with ⟨c, d⟩ | ⟨c, d⟩
      · have := d o h2 z; have := b q (Nat.le_refl _) a; omega
      · omega
theorem flat_step {ns T : List Int} (hT : TreeIs ns T) {p q : Nat} (hp : p < ns.length) (hq : q < ns.length) (h : nth T p = q) (hO : Over (nth ns) q p) : flatN T p = flatN T q + if p < q then 1 else 0 := by
  unfold flatN
  rw [way_cons hT hp h, List.filter_cons]
  have e : ((way T q).filter fun o => decide (p < o)).length = ((way T q).filter fun o => decide (q < o)).length := by
    refine filter_len_congr fun o ho => ?_
    have ho' := ((way_over hT hq).mp ho).2
    have hs := over_side ho' hO
    have hne := hO.ne
    have hne2 := ho'.ne
    rw [Bool.eq_iff_iff, decide_eq_true_eq, decide_eq_true_eq]
    rcases Nat.lt_or_gt_of_ne hne with z | z
    · exact ⟨fun y => by omega, fun y => hs.2 z y⟩
    · exact ⟨fun y => hs.1 z y, fun y => by omega⟩
  by_cases z : p < q
  · rw [if_pos (by simpa using z), if_pos z, List.length_cons, e]
  · rw [if_neg (by simpa using z), if_neg z, e, Nat.add_zero]

theorem over_ind {ns T : List Int} (hT : TreeIs ns T) {R : Nat → Nat → Prop} (h1 : ∀ p q, p < ns.length → q < ns.length → nth T p = q → Over (nth ns) q p → R q p) (h2 : ∀ o q p, Over (nth ns) o q → Over (nth ns) q p → R o q → R q p → R o p) :
    ∀ d p o, p < ns.length → o < ns.length → dep (nth ns) ns.length p = d → Over (nth ns) o p → R o p := by
  intro d
  induction d with
  | zero =>
    intro p o hp ho hd hO
    rcases elder_cases hT hp with z | ⟨q, e, hq, hOq, hdq⟩
    · exact absurd hO (over_none hp ho (z ▸ hT.2 p hp))
    · omega
  | succ d ih =>
    intro p o hp ho hd hO
    rcases elder_cases hT hp with z | ⟨q, e, hq, hOq, hdq⟩
    · exact absurd hO (over_none hp ho (z ▸ hT.2 p hp))
    · rcases (over_iff hp ho (show ElderIs (nth ns) ns.length p (q : Int) from (show T.getD p 0 = (q : Int) from e) ▸ hT.2 p hp)).mp hO with y | y
      · rw [y]; exact h1 p q hp hq e hOq
      · exact h2 o q p y hOq (ih q o hq ho (by omega) y) (h1 p q hp hq e hOq)
theorem flat_over {ns T : List Int} (hT : TreeIs ns T) {p o : Nat} (hp : p < ns.length) (ho : o < ns.length) (hO : Over (nth ns) o p) : flatN T o ≤ flatN T p ∧ (p < o → flatN T o < flatN T p) := by
  refine over_ind hT (R := fun o p => flatN T o ≤ flatN T p ∧ (p < o → flatN T o < flatN T p)) (fun p q hp hq e hO => ?_) (fun o q p h1 h2 r1 r2 => ?_) _ p o hp ho rfl hO
  · have := flat_step hT hp hq e hO
    refine ⟨by omega, fun z => ?_⟩
    rw [if_pos z] at this; omega
  · refine ⟨Nat.le_trans r1.1 r2.1, fun z => ?_⟩
    by_cases y : p < q
    · have := r2.2 y; have := r1.1; omega
    · have hne := h2.ne
      have := r1.2 (by omega); have := r2.1; omega
end L2


set_option Elab.async false
set_option linter.all false
set_option maxRecDepth 100000
set_option maxHeartbeats 1000000
namespace L2
open PySem PySem.Spec PyProof.Rows PySem.W


section
variable {X : Cx} {pins : List (Addr × Obj)} {σ : St} {H : Hp} {s : Shared} {h' : Heap}

def Ite (K : Frag) (a : Addr) : It :=
  ⟨fun i H => ∃ xs x, SqL K H a xs ∧ xs[i]? = some x,
   fun i H v H' => ∃ p x, H p = none ∧ v = .ref p ∧ H' = upd H p (.tup [.int (i : Int), x]) ∧ ∀ xs, SqL K H a xs → xs[i]? = some x,
   fun i H => ∃ xs, SqL K H a xs ∧ xs.length = i⟩
def iEnum (K : Frag) (ta : TA) : TI := fun σ H R => ta σ H fun vs H1 => ∃ a xs, vs = [.ref a] ∧ SqL K H1 a xs ∧ R (Ite K a) H1
end
end L2


set_option Elab.async false
set_option linter.all false
set_option maxRecDepth 100000
set_option maxHeartbeats 1000000
namespace L2
open PySem PySem.Spec PyProof.Rows PySem.W

section
variable {X : Cx}

def tMaxD (K : Frag) (ta td : TA) : TE := fun σ H Q => ta σ H fun vs H1 => td σ H1 fun zs H2 => ∃ (p : Addr) (ns : List Int) (d : Int), vs = [.ref p] ∧ zs = [.int d] ∧ SqL K H2 p (ns.map V.int) ∧ (ns = [] → Q (.int d) H2) ∧ (ns ≠ [] → ∀ m, m ∈ ns → (∀ a ∈ ns, a ≤ m) → Q (.int m) H2)
end
section
variable {X : Cx}

def tMinD (K : Frag) (ta td : TA) : TE := fun σ H Q => ta σ H fun vs H1 => td σ H1 fun zs H2 => ∃ (p : Addr) (ns : List Int) (d : Int), vs = [.ref p] ∧ zs = [.int d] ∧ SqL K H2 p (ns.map V.int) ∧ (ns = [] → Q (.int d) H2) ∧ (ns ≠ [] → ∀ m, m ∈ ns → (∀ a ∈ ns, m ≤ a) → Q (.int m) H2)
end
end L2


set_option Elab.async false
set_option linter.all false
set_option maxRecDepth 100000
set_option maxHeartbeats 1000000
namespace L2
open PySem PySem.Spec PyProof.Rows PySem.W
section
variable {X : Cx}

def rIndexF (K : Frag) : V → List V → Hp → VK → Prop := fun x vs H Q => ∃ (l : Addr) (xs : List V) (y : V) (j : Nat), x = .ref l ∧ vs = [y] ∧ SqL K H l xs ∧ xs.length ≤ 100000 ∧ xs.all flatV = true ∧ flatV y = true ∧ (∃ z, xs[j]? = some z ∧ eqV z y = true) ∧ (∀ (i : Nat) (z : V), i < j → xs[i]? = some z → eqV z y = false) ∧ Q (.int (j : Nat)) H
end
end L2


set_option Elab.async false
set_option linter.all false
set_option maxRecDepth 100000
set_option maxHeartbeats 1000000
namespace L2
open PySem PySem.Spec PyProof.Rows PySem.W

def LowsEq (f g : Nat → Int) (n : Nat) : Prop := ∀ a c, a + c < n → lowF f a c = lowF g a c
theorem LowsEq.symm {f g : Nat → Int} {n : Nat} (h : LowsEq f g n) : LowsEq g f n := fun a c k => (h a c k).symm
theorem LowsEq.over {f g : Nat → Int} {n o p : Nat} (h : LowsEq f g n) (ho : o < n) (hp : p < n) (k : Over f o p) : Over g o p := by
  rcases k with ⟨z, k⟩ | ⟨z, k⟩
  · have i1 : IsLow f o (o + (p - o)) o := ⟨Nat.le_refl _, by omega, fun q q1 q2 => by omega, fun q q1 q2 => k q q1 (by omega)⟩
    have e := h o (p - o) (by omega)
    rw [(lowF_is f o (p - o)).unique i1] at e
    have i2 := lowF_is g o (p - o)
    rw [← e] at i2
    exact .inl ⟨z, fun r r1 r2 => i2.2.2.2 r r1 (by omega)⟩
  · have i1 : IsLow f p (p + (o - p)) o := ⟨by omega, by omega, fun q q1 q2 => k q q1 q2, fun q q1 q2 => by omega⟩
    have e := h p (o - p) (by omega)
    rw [(lowF_is f p (o - p)).unique i1] at e
    have i2 := lowF_is g p (o - p)
    rw [← e] at i2
    exact .inr ⟨z, fun r r1 r2 => i2.2.2.1 r r1 (by omega)⟩
theorem LowsEq.tree {ns ms T : List Int} (hT : TreeIs ns T) (hl : ms.length = ns.length) (h : LowsEq (nth ns) (nth ms) ns.length) : TreeIs ms T := by
  refine ⟨by rw [hl]; exact hT.1, fun p hp => ?_⟩
  rw [hl] at hp ⊢
  refine tree_row hT (fun q p hq hp hO => ?_) p hp
  rcases h.over hq hp hO with ⟨z, k⟩ | ⟨z, k⟩
  · exact ⟨fun _ => k p z (Nat.le_refl _), fun y => by omega⟩
  · exact ⟨fun y => by omega, fun _ => k p (Nat.le_refl _) z⟩
def cutN (ns : List Int) (a c : Nat) : List Int := (ns.drop a).take c
theorem LowsEq.mono {f g : Nat → Int} {n m : Nat} (h : LowsEq f g n) (k : m ≤ n) : LowsEq f g m := fun a c z => h a c (by omega)

def PartAt (f g : Nat → Int) (x y size a m : Nat) : Prop := a + m < size ∧ (lowF f (x + a) m : Int) - (x + a : Nat) ≠ (lowF g (y + a) m : Int) - (y + a : Nat) ∧ (∀ m', m' < m → ∀ a', a' + m' < size → (lowF f (x + a') m' : Int) - (x + a' : Nat) = (lowF g (y + a') m' : Int) - (y + a' : Nat)) ∧
  ∀ a', a' < a → (lowF f (x + a') m : Int) - (x + a' : Nat) = (lowF g (y + a') m : Int) - (y + a' : Nat)
theorem bt_abs : bootBuiltins "abs" = some (.builtin "abs") := by decide +kernel
theorem first_not {P : Nat → Prop} : ∀ n, ¬ (∀ j, j < n → P j) → ∃ j, j < n ∧ ¬ P j ∧ ∀ i, i < j → P i
  | 0, h => absurd (fun j hj => by omega) h
  | n + 1, h => by
    by_cases z : ∀ j, j < n → P j
    · exact ⟨n, by omega, fun y => h fun j hj => by
        by_cases e : j = n
        · rw [e]; exact y
        · exact z j (by omega), z⟩
    · obtain ⟨j, h1, h2, h3⟩ := first_not n z
      exact ⟨j, by omega, h2, h3⟩
theorem ifR {c : TT} {t u : TS} {D : Ends} {σ : St} {H : Hp} (T U : Hp → Prop) (ht : ∀ H1, T H1 → t D σ H1) (hu : ∀ H1, U H1 → u D σ H1) (hc : ∀ B : Bool → Hp → Prop, (∀ H1, T H1 → B true H1) → (∀ H1, U H1 → B false H1) → c σ H B) : tIfS c t u D σ H :=
  hc _ (fun H1 h => by rw [if_pos rfl]; exact ht H1 h) (fun H1 h => by rw [if_neg (by simp)]; exact hu H1 h)
end L2


set_option Elab.async false
set_option linter.all false
set_option maxRecDepth 100000
set_option maxHeartbeats 1000000
namespace L2
open PySem PySem.Spec PyProof.Rows PySem.W
section
variable {X : Cx}

def rSorted (K : Frag) : List V → Hp → VK → Prop := fun xs H Q => ∃ (p : Addr) (ns : List Int), xs = [.ref p] ∧ SqL K H p (ns.map V.int) ∧ ns.length < 64 ∧ ∀ (ns' : List Int) (l : Addr), ns'.Perm ns → ns'.Pairwise (· ≤ ·) → H l = none → Q (.ref l) (upd H l (.lst (ns'.map V.int)))
def rOr (r1 r2 : R2) : R2 := fun x y H Q => r1 x y H Q ∨ r2 x y H Q
theorem bt_sorted : bootBuiltins "sorted" = some (.builtin "sorted") := by decide +kernel
end

theorem partAt_zero {f g : Nat → Int} {n a m : Nat} (h1 : a + m < n) (h2 : lowF f a m ≠ lowF g a m) (h3 : ∀ m', m' < m → ∀ a', a' + m' < n → lowF f a' m' = lowF g a' m') (h4 : ∀ a', a' < a → lowF f a' m = lowF g a' m) : PartAt f g 0 0 n a m := by
  refine ⟨h1, ?_, fun m' hm' a' ha' => ?_, fun a' ha' => ?_⟩
  · rw [Nat.zero_add]; omega
  · rw [Nat.zero_add, h3 m' hm' a' ha']
  · rw [Nat.zero_add, h4 a' ha']
theorem PartAt.low {f g : Nat → Int} {n a m : Nat} (h : PartAt f g 0 0 n a m) : a + m < n ∧ lowF f a m ≠ lowF g a m ∧ (∀ m', m' < m → ∀ a', a' + m' < n → lowF f a' m' = lowF g a' m') ∧ ∀ a', a' < a → lowF f a' m = lowF g a' m := by
  obtain ⟨h1, h2, h3, h4⟩ := h
  refine ⟨h1, fun e => h2 (by rw [Nat.zero_add, e]), fun m' hm' a' ha' => ?_, fun a' ha' => ?_⟩
  · have := h3 m' hm' a' ha'; rw [Nat.zero_add] at this; omega
  · have := h4 a' ha'; rw [Nat.zero_add] at this; omega
theorem PartAt.symm {f g : Nat → Int} {n a m : Nat} (h : PartAt f g 0 0 n a m) : PartAt g f 0 0 n a m := by
  obtain ⟨h1, h2, h3, h4⟩ := h.low
  exact partAt_zero h1 h2.symm (fun m' hm' a' ha' => (h3 m' hm' a' ha').symm) (fun a' ha' => (h4 a' ha').symm)
theorem PartAt.unique {f g : Nat → Int} {n a m a' m' : Nat} (h : PartAt f g 0 0 n a m) (k : PartAt f g 0 0 n a' m') : a = a' ∧ m = m' := by
  obtain ⟨h1, h2, h3, h4⟩ := h.low
  obtain ⟨k1, k2, k3, k4⟩ := k.low
  have hm : m = m' := by
    rcases Nat.lt_trichotomy m m' with z | z | z
    · exact absurd (k3 m z a h1) h2
    · exact z
    · exact absurd (h3 m' z a' k1) k2
  subst hm
  refine ⟨?_, rfl⟩
  rcases Nat.lt_trichotomy a a' with z | z | z
  · exact absurd (k4 a z) h2
  · exact z
  · exact absurd (h4 a' z) k2
end L2


set_option Elab.async false
set_option linter.all false
set_option maxRecDepth 100000
set_option maxHeartbeats 1000000
namespace L2
open PySem PySem.Spec PyProof.Rows PySem.W
section
variable {prog : Program} {w : World} {A : Around} {E Q : Value → Shared → Prop} {s : Shared} {it t : Addr} {i : Nat} {items : Array Value}
theorem nextOf_tuple_item {x : Value} (hi : s.heap.IsTupleIter it t i) (ht : s.heap.IsTuple t items) (hx : items[i]? = some x) (h : ∀ h', h'.IsTupleIter it t (i + 1) → Heap.SameBut it s.heap h' → Q x { s with heap := h' }) : wpAny (model prog w) A (Builtin.SmallTypes.nextOf (.ref it)) Q E s := by
  obtain ⟨o, ho, hc, hd⟩ := id hi
  obtain ⟨ot, hot, hct, n, hdt⟩ := id ht
  have hT : s.TypeIs (.ref it) "tuple_iterator" := ⟨o, ho, hc⟩
  unfold Builtin.SmallTypes.nextOf
  refine wpAny_bind (wpAny_callSpecial?_slot hT F.slot_tuple_iterator_next (wpAny_call_entry F.slot_tuple_iterator_next hT F.entry_tuple_iterator_next ?_ (F.args_tuple_iterator_next_1 _)))
  show wpAny _ _ (_ >>= _) _ _ _
  refine wpAny_bind (wpAny_of_eq (show slotArgs "__next__" 0 { pos := [.ref it] } = pure (.ref it, []) from rfl) ?_)
  refine wpAny_bind (wpAny_field ho hd (x := .ref t) rfl ?_)
  rw [if_neg (by simp)]
  refine wpAny_bind (wpAny_field ho hd (x := .int (i : Int) 0) rfl ?_)
  refine wpAny_bind (wpAny_seqItems hot hdt ?_)
  dsimp only
  rw [Int.toNat_natCast, hx]
  refine wpAny_bind (wpAny_setField ho hd (by show 1 < 2; decide) (wpAny_pure ⟨x, rfl, ?_⟩))
  refine wpAny_pure (h _ ?_ ⟨by simp, fun b hb => Heap.get?_update_other _ _ (Ne.symm hb)⟩)
  obtain ⟨cls, dict, data, slots⟩ := o
  simp only at hc hd
  subst hc hd
  exact ⟨_, Heap.get?_update_self _ ho rfl, rfl, rfl⟩
theorem nextOf_tuple_end (hA : A.handled = none) (hi : s.heap.IsTupleIter it t i) (ht : s.heap.IsTuple t items) (hx : items[i]? = none) (h : ∀ h' e, Heap.ExtBut it s.heap h' → (∃ o, h'.get? e = some o ∧ o.cls = .type "StopIteration") → E (.ref e) { s with heap := h' }) : wpAny (model prog w) A (Builtin.SmallTypes.nextOf (.ref it)) Q E s := by
  obtain ⟨o, ho, hc, hd⟩ := id hi
  obtain ⟨ot, hot, hct, n, hdt⟩ := id ht
  have hT : s.TypeIs (.ref it) "tuple_iterator" := ⟨o, ho, hc⟩
  unfold Builtin.SmallTypes.nextOf
  refine wpAny_bind (wpAny_callSpecial?_slot hT F.slot_tuple_iterator_next (wpAny_call_entry F.slot_tuple_iterator_next hT F.entry_tuple_iterator_next ?_ (F.args_tuple_iterator_next_1 _)))
  show wpAny _ _ (_ >>= _) _ _ _
  refine wpAny_bind (wpAny_of_eq (show slotArgs "__next__" 0 { pos := [.ref it] } = pure (.ref it, []) from rfl) ?_)
  refine wpAny_bind (wpAny_field ho hd (x := .ref t) rfl ?_)
  rw [if_neg (by simp)]
  refine wpAny_bind (wpAny_field ho hd (x := .int (i : Int) 0) rfl ?_)
  refine wpAny_bind (wpAny_seqItems hot hdt ?_)
  dsimp only
  rw [Int.toNat_natCast, hx]
  refine wpAny_bind (wpAny_rule (wpAny_bind (wpAny_setField ho hd (by show 0 < 2; decide) ?_)))
  unfold Builtin.SmallTypes.stopIteration
  refine wpAny_bind ?_
  unfold newExc
  refine wpAny_bind (wpAny_newTuple ?_ (Nat.zero_le _))
  refine wpAny_bind (wpAny_of_eq (show firstArgMember (.type "StopIteration") [] = pure .none by first | rfl | (unfold firstArgMember; rfl)) ?_)
  refine wpAny_newObj_type (wpAny_raiseNew_none hA (h _ _ (fun b o' hb e => ?_) ⟨_, Heap.get?_push_size _ rfl, rfl⟩))
  exact Heap.get?_push_of_some _ (Heap.get?_push_of_some _ ((Heap.get?_update_other _ _ (Ne.symm hb)).trans e))
end
section
variable {X : Cx} {pins : List (Addr × Obj)} {σ : St} {H : Hp} {s : Shared} {h' : Heap}

def IteT (K : Frag) (a : Addr) : It :=
  ⟨fun i H => ∃ xs x, SqT K H a xs ∧ xs[i]? = some x,
   fun i H v H' => ∃ p x, H p = none ∧ v = .ref p ∧ H' = upd H p (.tup [.int (i : Int), x]) ∧ ∀ xs, SqT K H a xs → xs[i]? = some x,
   fun i H => ∃ xs, SqT K H a xs ∧ xs.length = i⟩
def iEnumT (K : Frag) (ta : TA) : TI := fun σ H R => ta σ H fun vs H1 => ∃ a xs, vs = [.ref a] ∧ SqT K H1 a xs ∧ R (IteT K a) H1
end
end L2


set_option Elab.async false
set_option linter.all false
set_option maxRecDepth 100000
set_option maxHeartbeats 1000000
namespace L2
open PySem PySem.Spec PyProof.Rows PySem.W

open Classical in
noncomputable def fenA (f : Nat → Int) (p : Nat) : Int := if h : ∃ q, IsPrev f p q then (Classical.choose h : Nat) else -1
theorem fenA_prev {f : Nat → Int} {p q : Nat} (h : IsPrev f p q) : fenA f p = q := by
  have hx : ∃ q, IsPrev f p q := ⟨q, h⟩
  unfold fenA
  rw [dif_pos hx, (Classical.choose_spec hx).unique h]
theorem fenA_no {f : Nat → Int} {p : Nat} (h : NoPrev f p) : fenA f p = -1 := by
  unfold fenA
  rw [dif_neg fun ⟨q, hq⟩ => hq.no h]
theorem IsPrev.over {f : Nat → Int} {p q : Nat} (h : IsPrev f p q) : Over f q p := .inl ⟨h.1, fun r r1 r2 => by
  by_cases z : r = p
  · rw [z]; exact h.2.1
  · have := h.2.2 r r1 (by omega); have := h.2.1; omega⟩
theorem IsNext.over {f : Nat → Int} {n p q : Nat} (h : IsNext f n p q) : Over f q p := .inr ⟨h.1, fun r r1 r2 => by
  by_cases z : r = p
  · rw [z]; exact h.2.2.1
  · have := h.2.2.2 r (by omega) r2; have := h.2.2.1; omega⟩

noncomputable def distN (f : Nat → Int) (p : Nat) : Int := if 0 ≤ fenA f p then (p : Int) - fenA f p else 0
def PairsAt (H : Hp) (l : Addr) (n : Nat) (ps : Nat → Int × Int) : Prop := ∃ qs : List Addr, H l = some (.lst (qs.map V.ref)) ∧ qs.length = n ∧ ∀ (j : Nat) (q : Addr), qs[j]? = some q → H q = some (.tup [.int (ps j).1, .int (ps j).2])
theorem PairsAt.same {H H' : Hp} {l : Addr} {n : Nat} {ps : Nat → Int × Int} (h : PairsAt H l n ps) (s : Same H H') : PairsAt H' l n ps := by
  obtain ⟨qs, h1, h2, h3⟩ := h
  exact ⟨qs, s _ _ h1, h2, fun j q hq => s _ _ (h3 j q hq)⟩
theorem PairsAt.push {H : Hp} {l q : Addr} {n : Nat} {ps : Nat → Int × Int} (h : PairsAt H l n ps) (hq : H q = some (.tup [.int (ps n).1, .int (ps n).2])) : ∃ xs : List V, H l = some (.lst xs) ∧ xs.length = n ∧ PairsAt (upd H l (.lst (xs ++ [.ref q]))) l (n + 1) ps := by
  obtain ⟨qs, h1, h2, h3⟩ := h
  have hne : ∀ a o, H a = some (.tup o) → a ≠ l := fun a o ha z => by rw [z, h1] at ha; cases ha
  refine ⟨_, h1, by simp [h2], qs ++ [q], by rw [upd_same]; simp, by simp [h2], fun j a ha => ?_⟩
  by_cases z : j < qs.length
  · rw [List.getElem?_append_left z] at ha
    have := h3 j a ha
    rw [upd_ne (hne _ _ this)]; exact this
  · have hj := (List.getElem?_eq_some_iff.mp ha).1
    rw [List.length_append] at hj
    have : j = n := by simp at hj; omega
    subst this
    rw [List.getElem?_append_right (by omega), h2] at ha
    simp at ha
    rw [← ha, upd_ne (hne _ _ hq)]; exact hq

theorem Spine.mono {f : Nat → Int} {i : Nat} {S : List Nat} (h : Spine f i S) : S.Pairwise (fun a b => f a ≤ f b) := by
  refine List.Pairwise.imp_of_mem ?_ h.1
  intro a b ha hb hab
  exact ((h.2 a).mp ha).2 b hab ((h.2 b).mp hb).1
end L2


set_option Elab.async false
set_option linter.all false
set_option maxRecDepth 100000
set_option maxHeartbeats 1000000
namespace L2
open PySem PySem.Spec PyProof.Rows PySem.W
theorem for_it {J : It} {n : Nat} {g : TG} {tb : TS} {D : Ends} {σ : St} {H : Hp} (Pv : Nat → St → Hp → Prop) (h0 : Pv 0 σ H) (hgo : ∀ i σ H, i < n → Pv i σ H → J.go i H) (hstop : ∀ σ H, Pv n σ H → J.stop n H)
    (hs : ∀ i x σ H H', i < n → Pv i σ H → J.yld i H x H' → g x σ H' fun σ2 H2 => tb { D with nx := Pv (i + 1), ct := Pv (i + 1), bk := D.nx } σ2 H2) (hd : ∀ σ H, Pv n σ H → D.nx σ H) : LoopR J g tb D σ H := by
  refine ⟨fun i m σ H => m = n - i ∧ i ≤ n ∧ Pv i σ H, ⟨n, by simp, Nat.zero_le _, h0⟩, ?_⟩
  rintro i m σ H ⟨rfl, hi, p⟩
  by_cases hlt : i < n
  · exact .inr ⟨hgo i σ H hlt p, Pv (i + 1), fun σ' H' p' => ⟨n - (i + 1), by omega, rfl, hlt, p'⟩, fun x H' y => hs i x σ H H' hlt p y⟩
  · have : i = n := by omega
    subst this
    exact .inl ⟨hstop σ H p, hd σ H p⟩
theorem range_of (L : List Int) : L = (List.range L.length).map fun i => L.getD i 0 := by
  refine List.ext_getElem (by simp) fun j h1 h2 => ?_
  simp [List.getD_eq_getElem?_getD, h1]

theorem comp_sift {K : Frag} {a : Addr} {L : List Int} {H1 : Hp} {Q : VK} {tt : TT} {σr : St} (P : Int → Bool) (ha : H1 a = some (.lst (L.map V.int))) (hn : L.length ≤ 1000)
    (ht : ∀ (x : Int) (H : Hp) (R : Bool → Hp → Prop), R (P x) H → tt (some (V.int x) :: σr) H R)
    (hk : ∀ l H', Same H1 H' → H' l = none → Q (.ref l) (upd H' l (.lst ((L.filter P).map V.int)))) :
    CompR (Itl K a) (gName 0) tt (tVar 0) (none :: σr) Q H1 := by
  refine comp_filt (n := L.length) (fun i => P (L.getD i 0)) (fun i => V.int (L.getD i 0)) (Nat.lt_of_le_of_lt hn (by decide)) (fun i Hx s hi => ⟨_, _, SqL.of (s _ _ ha), List.getElem?_eq_getElem (by simpa using hi)⟩) (fun Hx s => ⟨_, SqL.of (s _ _ ha), by simp⟩) ?_ ?_
  · rintro i x Hx Hy hi s ⟨rfl, hx⟩
    have ex := hx _ (SqL.of (s _ _ ha))
    rw [List.getElem?_map, List.getElem?_eq_getElem hi] at ex
    cases ex
    have eg : L.getD i 0 = L[i] := by simp [List.getD_eq_getElem?_getD, hi]
    refine ht _ _ _ ?_
    cases hP : P L[i] with
    | true =>
      rw [if_pos rfl]
      exact ⟨_, rfl, CF.take hi (by rw [eg]; exact hP) (by rw [eg]) s⟩
    | false =>
      rw [if_neg (by simp)]
      exact CF.skip hi (by rw [eg]; exact hP) s
  · intro l H' s hl
    have := hk l H' s hl
    have e : ((List.range L.length).filter fun i => P (L.getD i 0)).map (fun i => V.int (L.getD i 0)) = (L.filter P).map V.int := by
      conv => rhs; rw [range_of L, List.filter_map, List.map_map]
      rfl
    rw [e]; exact this
end L2


set_option Elab.async false
set_option linter.all false
set_option maxRecDepth 100000
set_option maxHeartbeats 1000000
namespace L2
open PySem PySem.Spec PyProof.Rows PySem.W

section
variable {X : Cx}

def tMaxDT (K : Frag) (ta td : TA) : TE := fun σ H Q => ta σ H fun vs H1 => td σ H1 fun zs H2 => ∃ (p : Addr) (ns : List Int) (d : Int), vs = [.ref p] ∧ zs = [.int d] ∧ SqT K H2 p (ns.map V.int) ∧ (ns = [] → Q (.int d) H2) ∧ (ns ≠ [] → ∀ m, m ∈ ns → (∀ a ∈ ns, a ≤ m) → Q (.int m) H2)
end

def rInD (K : Frag) : R2 := fun x y H Q => ∃ (q p : Addr) (as : List Addr) (e : Addr → Bool), x = .ref q ∧ y = .ref p ∧ SqL K H p (as.map V.ref) ∧ (∀ a ∈ as, EqD K H 3 (.ref a) x (e a)) ∧ Q (.bl (as.any e)) H
section
variable {X : Cx}
end
end L2


set_option Elab.async false
set_option linter.all false
set_option maxRecDepth 100000
set_option maxHeartbeats 1000000
namespace L2
open PySem PySem.Spec PyProof.Rows PySem.W

end L2


set_option Elab.async false
set_option linter.all false
set_option maxRecDepth 100000
set_option maxHeartbeats 1000000

namespace PySem
open Sem (wp)
section
variable {prog : Program} {w : World} {A : Around} {E : Value → Shared → Prop} {s : Shared}
end
end PySem
namespace L2
open PySem PySem.Spec PyProof.Rows PySem.W
section
variable {X : Cx}
def rTupR2 : List V → Hp → VK → Prop := fun xs H Q => ∃ p i j, xs = [.ref p] ∧ H p = some (.rng i j) ∧ -(2 ^ 62) ≤ i ∧ i < 2 ^ 62 ∧ -(2 ^ 62) ≤ j ∧ j < 2 ^ 62 ∧ j - i ≤ 1000 ∧ ∀ l, H l = none → Q (.ref l) (upd H l (.tup ((List.range (j - i).toNat).map fun (k : Nat) => V.int (i + (k : Int)))))
end
end L2


set_option Elab.async false
set_option linter.all false
set_option maxRecDepth 100000
set_option maxHeartbeats 1000000

namespace L2
open PySem PySem.Spec PyProof.Rows PySem.W

def QIt (h : Heap) (i l : Addr) (k : Nat) (xs : Array Value) : Prop := (h.IsListIter i l k ∧ h.IsList l xs) ∨ (h.IsTupleIter i l k ∧ h.IsTuple l xs)
theorem QIt.ext {h h' : Heap} {i l b : Addr} {k : Nat} {xs : Array Value} (x : QIt h i l k xs) (hs : Heap.ExtBut b h h') (n1 : i ≠ b) (n2 : l ≠ b) : QIt h' i l k xs := by
  rcases x with ⟨p, q⟩ | ⟨p, q⟩
  · exact .inl ⟨p.extBut hs n1, q.extBut hs n2⟩
  · obtain ⟨o, ho, r⟩ := q
    exact .inr ⟨p.extBut hs n1, ⟨o, hs _ _ n2 ho, r⟩⟩
theorem QIt.at {h h' : Heap} {i l : Addr} {k : Nat} {xs : Array Value} (x : QIt h i l k xs) (e1 : ∀ o, h.get? i = some o → h'.get? i = some o) (e2 : ∀ o, h.get? l = some o → h'.get? l = some o) : QIt h' i l k xs := by
  rcases x with ⟨p, ⟨o, ho, r⟩⟩ | ⟨⟨o1, p1, r1⟩, ⟨o, ho, r⟩⟩
  · exact .inl ⟨p.at e1, ⟨o, e2 o ho, r⟩⟩
  · exact .inr ⟨⟨o1, e1 _ p1, r1⟩, ⟨o, e2 o ho, r⟩⟩
theorem QIt.obj {h : Heap} {i l : Addr} {k : Nat} {xs : Array Value} (x : QIt h i l k xs) : (∃ o, h.get? i = some o ∧ ∀ v m, o.data ≠ .seq v m) ∧ ∃ o, h.get? l = some o := by
  rcases x with ⟨⟨o, p, p1, p2⟩, ⟨u, q, _⟩⟩ | ⟨⟨o, p, p1, p2⟩, ⟨u, q, _⟩⟩
  · exact ⟨⟨o, p, fun v m z => by rw [p2] at z; cases z⟩, ⟨u, q⟩⟩
  · exact ⟨⟨o, p, fun v m z => by rw [p2] at z; cases z⟩, ⟨u, q⟩⟩
section
variable {prog : Program} {w : World} {A : Around} {E Q : Value → Shared → Prop} {s : Shared} {it l : Addr} {k : Nat} {xs : Array Value}
theorem nextQ_item {x : Value} (q : QIt s.heap it l k xs) (hn : l ≠ it) (hx : xs[k]? = some x) (h : ∀ h', QIt h' it l (k + 1) xs → Heap.SameBut it s.heap h' → Q x { s with heap := h' }) : wpAny (model prog w) A (Builtin.SmallTypes.nextOf (.ref it)) Q E s := by
  rcases q with ⟨q1, q2⟩ | ⟨q1, q2⟩
  · exact wpAny_nextOf_list_item q1 q2 hx fun h' a b => h h' (.inl ⟨a, q2.extBut b.extBut hn⟩) b
  · refine nextOf_tuple_item q1 q2 hx fun h' a b => h h' (.inr ⟨a, ?_⟩) b
    obtain ⟨o, ho, r⟩ := q2
    exact ⟨o, b.extBut _ _ hn ho, r⟩
theorem nextQ_end (hA : A.handled = none) (q : QIt s.heap it l k xs) (hx : xs[k]? = none) (h : ∀ h' e, Heap.ExtBut it s.heap h' → (∃ o, h'.get? e = some o ∧ o.cls = .type "StopIteration") → E (.ref e) { s with heap := h' }) : wpAny (model prog w) A (Builtin.SmallTypes.nextOf (.ref it)) Q E s := by
  rcases q with ⟨q1, q2⟩ | ⟨q1, q2⟩
  · exact wpAny_nextOf_list_end hA q1 q2 hx h
  · exact nextOf_tuple_end hA q1 q2 hx h
end
section
variable {prog : Program} {w : World} {A : Around} {E : Value → Shared → Prop} {s : Shared} {z TI TO i1 i2 l1 l2 : Addr} {k1 k2 : Nat} {xs ys : Array Value} {a b : Value}
def ZKeep (z TO i1 i2 : Addr) (h h' : Heap) : Prop := ∀ c o, c ≠ z → c ≠ TO → c ≠ i1 → c ≠ i2 → h.get? c = some o → h'.get? c = some o
theorem zipq_item {x y : Value} {Q : Value → Shared → Prop} (D : ZipApart z TI TO i1 i2 l1 l2) (hz : IsZip s.heap z TI TO .none) (hI : IsPair s.heap TI (.ref i1) (.ref i2)) (hO : IsPair s.heap TO a b)
    (q1 : QIt s.heap i1 l1 k1 xs) (q2 : QIt s.heap i2 l2 k2 ys) (hx : xs[k1]? = some x) (hy : ys[k2]? = some y)
    (hQ : ∀ h', IsZip h' z TI TO (rawInt s.heap.objs.size) → IsPair h' TO x y → QIt h' i1 l1 (k1 + 1) xs → QIt h' i2 l2 (k2 + 1) ys → IsPair h' s.heap.objs.size x y → ZKeep z TO i1 i2 s.heap h' → Q (.ref s.heap.objs.size) { s with heap := h' }) :
    wpAny (model prog w) A (Builtin.«zip.__next__» ⟨[.ref z], []⟩) (fun fin s' => ∃ v, fin = .done (.ret v) ∧ Q v s') E s := by
  show wpAny _ _ (field (.ref z) 2 >>= _) _ _ _; refine wpAny_bind (wpAny_field hz rfl (x := .bool false) rfl ?_)
  show wpAny _ _ (field (.ref z) 3 >>= _) _ _ _; refine wpAny_bind (wpAny_field hz rfl (x := .ref TI) rfl ?_); refine wpAny_bind (wpAny_seqItems hI rfl ?_)
  show wpAny _ _ (Builtin.SmallTypes.ownedTupleIsFree (.ref z) >>= _) _ _ _; refine wpAny_bind ?_; unfold Builtin.SmallTypes.ownedTupleIsFree
  refine wpAny_bind (wpAny_field hz rfl (x := .none) rfl (wpAny_pure ?_)); simp only [if_true]; refine wpAny_bind (wpAny_rule ?_); refine wpAny_bind (wpAny_field hz rfl (x := .ref TO) rfl ?_)
  refine wpAny_bind (wpAny_setField_rec hz (by simp) fun g1 z1 m1 => ?_); replace z1 : IsZip g1 z TI TO .ellipsis := z1
  refine wpAny_bind ?_; simp only [List.zipIdx_cons, List.zipIdx_nil, List.forIn_cons, List.forIn_nil]; refine wpAny_bind (wpAny_bind (wpAny_onRaise ?_))
  show wpAny _ _ (Builtin.SmallTypes.nextOf (.ref i1) >>= _) _ _ _; refine wpAny_bind (nextQ_item (q1.ext m1.extBut D.i1z D.l1z) D.l1i1 hx fun g2 p1 m2 => wpAny_pure ?_)
  have o2 : IsPair g2 TO a b := m2.extBut _ _ D.TOi1 (m1.extBut _ _ D.TOz hO)
  refine wpAny_bind (wpAny_seqItems o2 rfl ?_); refine wpAny_bind (wpAny_updateSeq_pair o2 fun g3 o3 m3 => ?_); replace o3 : IsPair g3 TO x b := o3
  refine wpAny_bind (wpAny_letGo (wpAny_pure ?_)); refine wpAny_bind (wpAny_bind (wpAny_onRaise ?_))
  show wpAny _ _ (Builtin.SmallTypes.nextOf (.ref i2) >>= _) _ _ _
  refine wpAny_bind (nextQ_item (((q2.ext m1.extBut D.i2z D.l2z).ext m2.extBut D.i12.symm D.l2i1).ext m3.extBut D.TOi2.symm D.l2TO) D.l2i2 hy fun g4 p2 m4 => wpAny_pure ?_)
  have o4 : IsPair g4 TO x b := m4.extBut _ _ D.TOi2 o3
  refine wpAny_bind (wpAny_seqItems o4 rfl ?_); refine wpAny_bind (wpAny_updateSeq_pair o4 fun g5 o5 m5 => ?_); replace o5 : IsPair g5 TO x y := o5
  refine wpAny_bind (wpAny_letGo (wpAny_pure (wpAny_pure ?_))); refine wpAny_bind (wpAny_seqItems o5 rfl ?_); refine wpAny_bind (wpAny_newTuple ?_)
  have hsz : g5.objs.size = s.heap.objs.size := by rw [m5.1, m4.1, m3.1, m2.1, m1.1]
  have z5 : IsZip g5 z TI TO .ellipsis := m5.extBut _ _ D.TOz.symm (m4.extBut _ _ D.i2z.symm (m3.extBut _ _ D.TOz.symm (m2.extBut _ _ D.i1z.symm z1)))
  have kk : ZKeep z TO i1 i2 s.heap g5 := fun c o c1 c2 c3 c4 e => m5.extBut _ _ c2 (m4.extBut _ _ c4 (m3.extBut _ _ c2 (m2.extBut _ _ c3 (m1.extBut _ _ c1 e))))
  have r1 : QIt g5 i1 l1 (k1 + 1) xs := ((p1.ext m3.extBut D.TOi1.symm D.l1TO).ext m4.extBut D.i12 D.l1i2).ext m5.extBut D.TOi1.symm D.l1TO
  have r2 : QIt g5 i2 l2 (k2 + 1) ys := p2.ext m5.extBut D.TOi2.symm D.l2TO
  have lz : z < g5.objs.size := Heap.lt_size z5
  show wpAny _ _ (Builtin.SmallTypes.ownedTupleHandOut (.ref z) (.ref g5.objs.size) >>= _) _ _ _; refine wpAny_bind ?_; unfold Builtin.SmallTypes.ownedTupleHandOut
  have z6 : IsZip (g5.push { cls := .type "tuple", data := .seq #[x, y] }) z TI TO .ellipsis := Heap.get?_push_of_some _ z5
  refine wpAny_bind (wpAny_setField_rec z6 (by simp) fun g7 z7 m7 => ?_); replace z7 : IsZip g7 z TI TO (rawInt g5.objs.size) := z7
  refine wpAny_setField_rec z7 (by simp) fun g8 z8 m8 => ?_; replace z8 : IsZip g8 z TI TO (rawInt g5.objs.size) := z8
  have up : ∀ c o, c ≠ z → g5.get? c = some o → g8.get? c = some o := fun c o c1 e => m8.extBut _ _ c1 (m7.extBut _ _ c1 (Heap.get?_push_of_some _ e))
  have t8 : IsPair g8 g5.objs.size x y := m8.extBut _ _ (Nat.ne_of_gt lz) (m7.extBut _ _ (Nat.ne_of_gt lz) (Heap.get?_push_size _ rfl))
  rw [hsz] at z8 t8
  refine wpAny_pure ⟨_, rfl, ?_⟩; show Q (.ref g5.objs.size) _; rw [hsz]
  exact hQ g8 z8 (up _ _ D.TOz o5) (r1.at (fun o e => up _ o D.i1z e) fun o e => up _ o D.l1z e) (r2.at (fun o e => up _ o D.i2z e) fun o e => up _ o D.l2z e) t8 fun c o c1 c2 c3 c4 e => up c o c1 (kk c o c1 c2 c3 c4 e)
theorem zipq_end {Q : Fin → Shared → Prop} (hA : A.handled = none) (D : ZipApart z TI TO i1 i2 l1 l2) (hz : IsZip s.heap z TI TO .none) (hI : IsPair s.heap TI (.ref i1) (.ref i2)) (hO : IsPair s.heap TO a b)
    (q1 : QIt s.heap i1 l1 k1 xs) (q2 : QIt s.heap i2 l2 k2 ys) (hend : xs[k1]? = none ∨ ys[k2]? = none)
    (hE : ∀ h' e, ZKeep z TO i1 i2 s.heap h' → (∃ o, h'.get? e = some o ∧ o.cls = .type "StopIteration") → E (.ref e) { s with heap := h' }) :
    wpAny (model prog w) A (Builtin.«zip.__next__» ⟨[.ref z], []⟩) Q E s := by
  show wpAny _ _ (field (.ref z) 2 >>= _) _ _ _; refine wpAny_bind (wpAny_field hz rfl (x := .bool false) rfl ?_)
  show wpAny _ _ (field (.ref z) 3 >>= _) _ _ _; refine wpAny_bind (wpAny_field hz rfl (x := .ref TI) rfl ?_); refine wpAny_bind (wpAny_seqItems hI rfl ?_)
  show wpAny _ _ (Builtin.SmallTypes.ownedTupleIsFree (.ref z) >>= _) _ _ _; refine wpAny_bind ?_; unfold Builtin.SmallTypes.ownedTupleIsFree
  refine wpAny_bind (wpAny_field hz rfl (x := .none) rfl (wpAny_pure ?_)); simp only [if_true]; refine wpAny_bind (wpAny_rule ?_); refine wpAny_bind (wpAny_field hz rfl (x := .ref TO) rfl ?_)
  refine wpAny_bind (wpAny_setField_rec hz (by simp) fun g1 z1 m1 => ?_); replace z1 : IsZip g1 z TI TO .ellipsis := z1
  refine wpAny_bind ?_; simp only [List.zipIdx_cons, List.zipIdx_nil, List.forIn_cons, List.forIn_nil]; refine wpAny_bind (wpAny_bind (wpAny_onRaise ?_))
  show wpAny _ _ (Builtin.SmallTypes.nextOf (.ref i1) >>= _) _ _ _
  cases hx : xs[k1]? with
  | none =>
    refine wpAny_bind (nextQ_end hA (q1.ext m1.extBut D.i1z D.l1z) hx fun g2 e m2 he => ?_)
    obtain ⟨oe, e1, e2⟩ := he
    have z2 : IsZip g2 z TI TO .ellipsis := m2 _ _ D.i1z.symm z1
    have nz : e ≠ z := fun q => by subst q; rw [z2] at e1; cases e1; simp at e2
    exact wpAny_setField_rec z2 (by simp) fun g3 _ m3 => hE g3 e (fun c o c1 _ c3 _ q => m3.extBut _ _ c1 (m2 _ _ c3 (m1.extBut _ _ c1 q))) ⟨oe, m3.extBut _ _ nz e1, e2⟩
  | some x =>
    have hy : ys[k2]? = none := by rcases hend with h | h; rw [hx] at h; cases h; exact h
    refine wpAny_bind (nextQ_item (q1.ext m1.extBut D.i1z D.l1z) D.l1i1 hx fun g2 p1 m2 => wpAny_pure ?_)
    have o2 : IsPair g2 TO a b := m2.extBut _ _ D.TOi1 (m1.extBut _ _ D.TOz hO)
    refine wpAny_bind (wpAny_seqItems o2 rfl ?_); refine wpAny_bind (wpAny_updateSeq_pair o2 fun g3 o3 m3 => ?_); refine wpAny_bind (wpAny_letGo (wpAny_pure ?_)); refine wpAny_bind (wpAny_bind (wpAny_onRaise ?_))
    show wpAny _ _ (Builtin.SmallTypes.nextOf (.ref i2) >>= _) _ _ _
    refine wpAny_bind (nextQ_end hA (((q2.ext m1.extBut D.i2z D.l2z).ext m2.extBut D.i12.symm D.l2i1).ext m3.extBut D.TOi2.symm D.l2TO) hy fun g4 e m4 he => ?_)
    obtain ⟨oe, e1, e2⟩ := he
    have z4 : IsZip g4 z TI TO .ellipsis := m4 _ _ D.i2z.symm (m3.extBut _ _ D.TOz.symm (m2.extBut _ _ D.i1z.symm z1))
    have nz : e ≠ z := fun q => by subst q; rw [z4] at e1; cases e1; simp at e2
    exact wpAny_setField_rec z4 (by simp) fun g5 _ m5 => hE g5 e (fun c o c1 c2 c3 c4 q => m5.extBut _ _ c1 (m4 _ _ c4 (m3.extBut _ _ c2 (m2.extBut _ _ c3 (m1.extBut _ _ c1 q))))) ⟨oe, m5.extBut _ _ nz e1, e2⟩
theorem nextzq_item {x y : Value} {Q : Option Value → Shared → Prop} (D : ZipApart z TI TO i1 i2 l1 l2) (hz : IsZip s.heap z TI TO .none) (hI : IsPair s.heap TI (.ref i1) (.ref i2)) (hO : IsPair s.heap TO a b)
    (q1 : QIt s.heap i1 l1 k1 xs) (q2 : QIt s.heap i2 l2 k2 ys) (hx : xs[k1]? = some x) (hy : ys[k2]? = some y)
    (hQ : ∀ h', IsZip h' z TI TO (rawInt s.heap.objs.size) → IsPair h' TO x y → QIt h' i1 l1 (k1 + 1) xs → QIt h' i2 l2 (k2 + 1) ys → IsPair h' s.heap.objs.size x y → ZKeep z TO i1 i2 s.heap h' → Q (some (.ref s.heap.objs.size)) { s with heap := h' }) :
    wpAny (model prog w) A (pyNext (.ref z)) Q E s := by
  have ty : s.TypeIs (.ref z) "zip" := ⟨_, hz, rfl⟩
  unfold pyNext
  exact wpAny_bind (wpAny_attempt (wpAny_callSpecial?_slot (name := Str.ofString "__next__") ty F.slot_zip_next (wpAny_call_entry F.slot_zip_next ty F.entry_zip_next (zipq_item D hz hI hO q1 q2 hx hy fun h' a1 a2 a3 a4 a5 a6 => wpAny_pure (hQ h' a1 a2 a3 a4 a5 a6)) (F.args_zip_next_1 _))))
theorem nextzq_end {Q : Option Value → Shared → Prop} (hA : A.handled = none) (D : ZipApart z TI TO i1 i2 l1 l2) (hz : IsZip s.heap z TI TO .none) (hI : IsPair s.heap TI (.ref i1) (.ref i2)) (hO : IsPair s.heap TO a b)
    (q1 : QIt s.heap i1 l1 k1 xs) (q2 : QIt s.heap i2 l2 k2 ys) (hend : xs[k1]? = none ∨ ys[k2]? = none) (hQ : ∀ h', ZKeep z TO i1 i2 s.heap h' → Q none { s with heap := h' }) : wpAny (model prog w) A (pyNext (.ref z)) Q E s := by
  have ty : s.TypeIs (.ref z) "zip" := ⟨_, hz, rfl⟩
  unfold pyNext
  refine wpAny_bind (wpAny_attempt (wpAny_callSpecial?_slot (name := Str.ofString "__next__") ty F.slot_zip_next (wpAny_call_entry F.slot_zip_next ty F.entry_zip_next (zipq_end hA D hz hI hO q1 q2 hend fun h' e hk he => ?_) (F.args_zip_next_1 _))))
  obtain ⟨o, e1, e2⟩ := he
  exact wpAny_bind (wpAny_isInstance (T := "StopIteration") (b := true) ⟨o, e1, e2⟩ isSubtype_stop (wpAny_pure (hQ _ hk)))

def SqH (h : Heap) (l : Addr) (xs : Array Value) : Prop := h.IsList l xs ∨ h.IsTuple l xs
theorem SqH.push {h : Heap} {l : Addr} {xs : Array Value} (q : SqH h l xs) (o : Obj) : SqH (h.push o) l xs := by
  rcases q with q | ⟨u, hu, r⟩
  · exact .inl (q.push o)
  · exact .inr ⟨u, Heap.get?_push_of_some _ hu, r⟩
theorem SqH.obj {h : Heap} {l : Addr} {xs : Array Value} (q : SqH h l xs) : ∃ o, h.get? l = some o := by
  rcases q with ⟨o, ho, _⟩ | ⟨o, ho, _⟩ <;> exact ⟨o, ho⟩
def itName (h : Heap) (l : Addr) : String := match h.get? l with
  | some o => if o.cls = .type "tuple" then "tuple_iterator" else "list_iterator"
  | none => "list_iterator"
theorem iterQ {Q : Value → Shared → Prop} (q : SqH s.heap l1 xs) (h : Q (.ref s.heap.objs.size) { s with heap := s.heap.push { cls := .type (itName s.heap l1), data := .fields #[.ref l1, .int 0 0] } }) : wpAny (model prog w) A (pyIter (.ref l1)) Q E s := by
  rcases q with q | q
  · have e : itName s.heap l1 = "list_iterator" := by
      obtain ⟨o, ho, hc, _⟩ := q
      unfold itName; rw [ho]; dsimp only; rw [if_neg (by rw [hc]; intro z; injection z with z; exact absurd z (by decide))]
    rw [e] at h; exact wpAny_pyIter_list q h
  · have e : itName s.heap l1 = "tuple_iterator" := by
      obtain ⟨o, ho, hc, _⟩ := q
      unfold itName; rw [ho]; dsimp only; rw [if_pos hc]
    rw [e] at h; exact wpAny_pyIter_tuple q h
theorem itQ {h h' : Heap} {i : Addr} (q : SqH h l1 xs) (ho : h'.get? i = some { cls := .type (itName h l1), data := .fields #[.ref l1, .int 0 0] }) (hl : ∀ o, h.get? l1 = some o → h'.get? l1 = some o) : QIt h' i l1 0 xs := by
  rcases q with q | q
  · have e : itName h l1 = "list_iterator" := by
      obtain ⟨o, ho, hc, _⟩ := q
      unfold itName; rw [ho]; dsimp only; rw [if_neg (by rw [hc]; intro z; injection z with z; exact absurd z (by decide))]
    rw [e] at ho
    obtain ⟨o, q1, r⟩ := q
    exact .inl ⟨⟨_, ho, rfl, rfl⟩, ⟨o, hl _ q1, r⟩⟩
  · have e : itName h l1 = "tuple_iterator" := by
      obtain ⟨o, ho, hc, _⟩ := q
      unfold itName; rw [ho]; dsimp only; rw [if_pos hc]
    rw [e] at ho
    obtain ⟨o, q1, r⟩ := q
    exact .inr ⟨⟨_, ho, rfl, rfl⟩, ⟨o, hl _ q1, r⟩⟩
abbrev zq1 (h : Heap) (l1 : Addr) : Heap := h.push { cls := .type (itName h l1), data := .fields #[.ref l1, .int 0 0] }
abbrev zq2 (h : Heap) (l1 l2 : Addr) : Heap := (zq1 h l1).push { cls := .type (itName (zq1 h l1) l2), data := .fields #[.ref l2, .int 0 0] }
abbrev zq3 (h : Heap) (l1 l2 : Addr) : Heap := (zq2 h l1 l2).push { cls := .type "tuple", data := .seq #[.ref h.objs.size, .ref (zq1 h l1).objs.size] }
abbrev zq4 (h : Heap) (l1 l2 : Addr) : Heap := (zq3 h l1 l2).push { cls := .type "tuple", data := .seq #[.none, .none] }
abbrev zq5 (h : Heap) (l1 l2 : Addr) : Heap := (zq4 h l1 l2).push { cls := .type "zip", data := .fields #[.none, .bool false, .bool false, .ref (zq2 h l1 l2).objs.size, .ref (zq3 h l1 l2).objs.size] }
theorem meets_zipq (l1 l2 : Addr) (xs ys : Array Value) :
    Meets (Builtin.«zip.__new__» ⟨[.type "zip", .ref l1, .ref l2], []⟩) (fun _ R s => SqH s.heap l1 xs ∧ SqH s.heap l2 ys ∧ R (.ok (.ret (.ref (zq4 s.heap l1 l2).objs.size))) { s with heap := zq5 s.heap l1 l2 }) :=
  .of_wp fun prog w A R s h => by
    obtain ⟨hp, g, d, tk, os⟩ := s; obtain ⟨b1, b2, h⟩ := h
    have hsub := sub_zip
    have L1 : SqH (Shared.heap ⟨hp, g, d, tk, os⟩) l1 xs := b1
    have L2 : SqH (Shared.heap ⟨zq1 hp l1, g, d, tk, os⟩) l2 ys := SqH.push b2 _
    wp_walk using iterQ L1, iterQ L2
    exact ⟨_, rfl, h⟩
theorem call_zipq {Q : Value → Shared → Prop} (b1 : SqH s.heap l1 xs) (b2 : SqH s.heap l2 ys)
    (h : ∀ h', IsZip h' (s.heap.objs.size + 4) (s.heap.objs.size + 2) (s.heap.objs.size + 3) .none → IsPair h' (s.heap.objs.size + 2) (.ref s.heap.objs.size) (.ref (s.heap.objs.size + 1)) → IsPair h' (s.heap.objs.size + 3) .none .none →
      QIt h' s.heap.objs.size l1 0 xs → QIt h' (s.heap.objs.size + 1) l2 0 ys → (∀ c o, s.heap.get? c = some o → h'.get? c = some o) → Q (.ref (s.heap.objs.size + 4)) { s with heap := h' }) :
    wpAny (model prog w) A (call (.type "zip") [.ref l1, .ref l2]) Q E s := by
  refine callType_new F.called_zip (by decide) (F.typeCall_zip_2 _ _) (F.newCall_zip_2 _ _) (fun obj => F.args_object_init_3 obj _ _) F.entry_zip_new (meets_zipq l1 l2 xs ys) ⟨b1, b2, ?_⟩
  have z1 : (zq1 s.heap l1).objs.size = s.heap.objs.size + 1 := Heap.size_push ..
  have z2 : (zq2 s.heap l1 l2).objs.size = s.heap.objs.size + 2 := by rw [Heap.size_push, z1]
  have z3 : (zq3 s.heap l1 l2).objs.size = s.heap.objs.size + 3 := by rw [Heap.size_push, z2]
  have z4 : (zq4 s.heap l1 l2).objs.size = s.heap.objs.size + 4 := by rw [Heap.size_push, z3]
  have g5 : (zq5 s.heap l1 l2).get? (zq4 s.heap l1 l2).objs.size = some _ := Heap.get?_push_size _ rfl
  have g4 : (zq5 s.heap l1 l2).get? (zq3 s.heap l1 l2).objs.size = some _ := Heap.get?_push_of_some _ (Heap.get?_push_size _ rfl)
  have g3 : (zq5 s.heap l1 l2).get? (zq2 s.heap l1 l2).objs.size = some _ := Heap.get?_push_of_some _ (Heap.get?_push_of_some _ (Heap.get?_push_size _ rfl))
  have g2 : (zq5 s.heap l1 l2).get? (zq1 s.heap l1).objs.size = some _ := Heap.get?_push_of_some _ (Heap.get?_push_of_some _ (Heap.get?_push_of_some _ (Heap.get?_push_size _ rfl)))
  have g1 : (zq5 s.heap l1 l2).get? s.heap.objs.size = some _ := Heap.get?_push_of_some _ (Heap.get?_push_of_some _ (Heap.get?_push_of_some _ (Heap.get?_push_of_some _ (Heap.get?_push_size _ rfl))))
  have up1 : ∀ c o, (zq1 s.heap l1).get? c = some o → (zq5 s.heap l1 l2).get? c = some o := fun c o x => Heap.get?_push_of_some _ (Heap.get?_push_of_some _ (Heap.get?_push_of_some _ (Heap.get?_push_of_some _ x)))
  have up : ∀ c o, s.heap.get? c = some o → (zq5 s.heap l1 l2).get? c = some o := fun c o x => up1 c o (Heap.get?_push_of_some _ x)
  have r1 := itQ b1 g1 fun o e => up _ o e
  have r2 := itQ (b2.push _) g2 fun o e => up1 _ o e
  show _ ∧ _
  rw [z2, z3, z4] at g5
  rw [z1, z2] at g3
  rw [z3] at g4
  rw [z1] at r2
  rw [z4]
  exact ⟨⟨_, g5, rfl⟩, h _ g5 g3 g4 r1 r2 up⟩
end
section
variable {X : Cx} {pins : List (Addr × Obj)} {σ : St} {H : Hp} {s : Shared}

def SqB (K : Frag) (t : Bool) (H : Hp) (a : Addr) (xs : List V) : Prop := match t with
  | true => SqT K H a xs
  | false => SqL K H a xs
def ItB (t : Bool) (h : Heap) (i a : Addr) (k : Nat) : Prop := match t with
  | true => h.IsTupleIter i a k
  | false => h.IsListIter i a k
theorem SqB.of {K : Frag} {H : Hp} {a : Addr} {xs : List V} (h : SqL K H a xs ∨ SqT K H a xs) : ∃ t, SqB K t H a xs := by
  rcases h with h | h
  · exact ⟨false, h⟩
  · exact ⟨true, h⟩
theorem Same.seqB {K : Frag} {t : Bool} {H H' : Hp} {a : Addr} {xs : List V} (e : Same H H') (h : SqB K t H a xs) : SqB K t H' a xs := by
  cases t
  · exact e.seq h
  · exact e.seqT h
theorem ItB.keep {t : Bool} {h h' : Heap} {i a : Addr} {k : Nat} (q : ItB t h i a k) (e : ∀ o, h.get? i = some o → h'.get? i = some o) : ItB t h' i a k := by
  cases t
  · obtain ⟨o, ho, r⟩ := q; exact ⟨o, e o ho, r⟩
  · obtain ⟨o, ho, r⟩ := q; exact ⟨o, e o ho, r⟩
theorem ItB.obj {t : Bool} {h : Heap} {i a : Addr} {k : Nat} (q : ItB t h i a k) : ∃ o, h.get? i = some o ∧ ∃ v, o.data = .fields v := by
  cases t
  · obtain ⟨o, ho, _, d⟩ := q; exact ⟨o, ho, _, d⟩
  · obtain ⟨o, ho, _, d⟩ := q; exact ⟨o, ho, _, d⟩
theorem Inv.sqb (I : Inv X pins σ H s) {t : Bool} {a : Addr} {xs : List V} (q : SqB X.K t H a xs) : ∃ its : List Value, Vals xs its ∧ SqH s.heap a its.toArray ∧ ∀ i k, ItB t s.heap i a k → QIt s.heap i a k its.toArray := by
  cases t
  · obtain ⟨its, r, p, _⟩ := I.list q; exact ⟨its, r, .inl p.isList, fun i k h => .inl ⟨h, p.isList⟩⟩
  · obtain ⟨its, r, p, _⟩ := I.tuple q; exact ⟨its, r, .inr p, fun i k h => .inr ⟨h, p⟩⟩
theorem Inv.itb (I : Inv X pins σ H s) {t : Bool} {a i : Addr} {xs : List V} {h' : Heap} {k : Nat} {us : Array Value} (q : SqB X.K t H a xs) (kp : ∀ o, s.heap.get? a = some o → h'.get? a = some o) (u : QIt h' i a k us) : ItB t h' i a k := by
  cases t
  · obtain ⟨its, r, p, _⟩ := I.list q
    obtain ⟨o, ho, hc, _⟩ := p.isList
    rcases u with ⟨u, _⟩ | ⟨_, ⟨o', ho', hc', _⟩⟩
    · exact u
    · rw [kp o ho] at ho'
      cases ho'
      rw [hc] at hc'; injection hc' with z; exact absurd z (by decide)
  · obtain ⟨its, r, p, _⟩ := I.tuple q
    obtain ⟨o, ho, hc, _⟩ := p
    rcases u with ⟨_, ⟨o', ho', hc', _⟩⟩ | ⟨u, _⟩
    · rw [kp o ho] at ho'
      cases ho'
      rw [hc] at hc'; injection hc' with z; exact absurd z (by decide)
    · exact u
theorem Inv.sqb_inj (I : Inv X pins σ H s) {t : Bool} {a : Addr} {xs ys : List V} (q : SqB X.K t H a xs) (r : SqB X.K t H a ys) : xs = ys := by
  cases t
  · exact I.list_inj q r
  · exact I.tuple_inj q r

def Itzq (K : Frag) (t u : Bool) (a b : Addr) : It :=
  ⟨fun i H => ∃ xs ys x y, SqB K t H a xs ∧ SqB K u H b ys ∧ xs[i]? = some x ∧ ys[i]? = some y,
   fun i H v H' => ∃ p x y, H p = none ∧ v = .ref p ∧ H' = upd H p (.tup [x, y]) ∧ (∀ xs, SqB K t H a xs → xs[i]? = some x) ∧ ∀ ys, SqB K u H b ys → ys[i]? = some y,
   fun i H => ∃ xs ys, SqB K t H a xs ∧ SqB K u H b ys ∧ (xs.length ≤ i ∨ ys.length ≤ i)⟩
theorem turn_zipq {P : Program} {w : World} {K : Frag} {elts : List Expr} {x1} {pos : Pos} {t u : Bool} {a b z TI TO i1 i2 : Addr} (D : ZipApart z TI TO i1 i2 a b) :
    Turn P w K (.Tuple elts x1 pos) (Itzq K t u a b) [z, TI, TO, i1, i2] z (fun i h => IsZip h z TI TO .none ∧ IsPair h TI (.ref i1) (.ref i2) ∧ (∃ u v, IsPair h TO u v) ∧ ItB t h i1 a i ∧ ItB u h i2 b i) where
  mem := by simp
  obj := fun i h st c hc => by
    obtain ⟨q1, q2, ⟨u, v, q3⟩, q4, q5⟩ := st
    simp at hc
    rcases hc with rfl | rfl | rfl | rfl | rfl
    · exact ⟨_, q1, fun v z => by cases z⟩
    · exact ⟨_, q2, fun v z => by cases z⟩
    · exact ⟨_, q3, fun v z => by cases z⟩
    · obtain ⟨o, ho, v, d⟩ := q4.obj; exact ⟨_, ho, fun v z => by rw [d] at z; cases z⟩
    · obtain ⟨o, ho, v, d⟩ := q5.obj; exact ⟨_, ho, fun v z => by rw [d] at z; cases z⟩
  keep := fun i h h' st k => by
    obtain ⟨q1, q2, ⟨u, v, q3⟩, q4, q5⟩ := st
    exact ⟨k z (by simp) _ q1, k TI (by simp) _ q2, ⟨u, v, k TO (by simp) _ q3⟩, q4.keep fun o e => k i1 (by simp) o e, q5.keep fun o e => k i2 (by simp) o e⟩
  item := by
    intro X hP hw hK hc i pins s σ H E I hf st hg
    subst hP hw hK
    obtain ⟨xs, ys, x, y, qa, qb, hx, hy⟩ := hg
    obtain ⟨q1, q2, ⟨u0, v0, q3⟩, q4, q5⟩ := st
    obtain ⟨is1, r1, p1, w1⟩ := I.sqb qa
    obtain ⟨is2, r2, p2, w2⟩ := I.sqb qb
    obtain ⟨u', hu, ru⟩ := r1.get hx
    obtain ⟨v, hv, rv⟩ := r2.get hy
    have oa := p1.obj
    have ob := p2.obj
    refine nextzq_item D q1 q2 q3 (w1 _ _ q4) (w2 _ _ q5) (x := u') (y := v) (by simpa using hu) (by simpa using hv) fun h' a1 a2 a3 a4 a5 a7 => ?_
    refine ⟨_, rfl, ?_⟩
    refine wpAny_letOwnedTupleGo_zip (s := { s with heap := h' }) a1 fun h2 b1 b2 => ?_
    have hfr : H s.heap.objs.size = none := I.hok.fresh (Nat.le_refl _)
    have I1 : Inv X pins σ (upd H s.heap.objs.size (.tup [x, y])) { s with heap := s.heap.push { cls := .type "tuple", data := .seq #[u', v] } } := by
      refine I.laid (t' := s.toks) (fun b u e => Heap.get?_push_of_some _ e) (Nat.le_refl _) ?_
      exact ⟨by show 2 ≤ sizeLine; decide, [u', v], .cons ru (.cons rv .nil), ⟨_, Heap.get?_push_size _ rfl, rfl, _, rfl⟩⟩
    have nz : ∀ c ∈ [z, TI, TO, i1, i2], c ≠ s.heap.objs.size := fun c hc e => by
      have : ∃ o, s.heap.get? c = some o := by
        simp at hc
        rcases hc with rfl | rfl | rfl | rfl | rfl
        · exact ⟨_, q1⟩
        · exact ⟨_, q2⟩
        · exact ⟨_, q3⟩
        · obtain ⟨o, q, _⟩ := q4.obj; exact ⟨o, q⟩
        · obtain ⟨o, q, _⟩ := q5.obj; exact ⟨o, q⟩
      obtain ⟨o, q⟩ := this
      exact absurd (Heap.lt_size q) (by rw [e]; exact Nat.lt_irrefl _)
    have hf1 : ∀ c ∈ [z, TI, TO, i1, i2], FpOk X pins (upd H s.heap.objs.size (.tup [x, y])) c := fun c hc => by
      obtain ⟨f0, f1, f2, f3, f4, f5⟩ := hf c hc
      exact ⟨by rw [upd_ne (nz c hc)]; exact f0, f1, f2, f3, f4, f5⟩
    have I2 : Inv X pins σ (upd H s.heap.objs.size (.tup [x, y])) { s with heap := h2 } := by
      refine Inv.turnedL (s := { s with heap := s.heap.push { cls := .type "tuple", data := .seq #[u', v] } }) (t' := s.toks) (fp := [z, TI, TO, i1, i2]) I1 (fun c o hc e => ?_) hf1
      simp only [List.mem_cons, List.not_mem_nil, or_false, not_or] at hc
      obtain ⟨c1, c2, c3, c4, c5⟩ := hc
      refine b2.extBut _ _ c1 ?_
      by_cases hs : c = s.heap.objs.size
      · subst hs
        have e' : (s.heap.push { cls := .type "tuple", data := .seq #[u', v] }).get? s.heap.objs.size = some _ := Heap.get?_push_size _ rfl
        have ee : o = { cls := .type "tuple", data := .seq #[u', v] } := by
          have := e.symm.trans e'
          exact Option.some.inj this
        rw [ee]; exact a5
      · have : s.heap.get? c = some o := by
          rcases Heap.get?_push_cases e with ⟨q, _⟩ | q
          · exact absurd q hs
          · exact q
        exact a7 c o c1 c3 c4 c5 this
    have ka : ∀ o, s.heap.get? a = some o → h'.get? a = some o := fun o e => a7 a o D.l1z D.l1TO D.l1i1 D.l1i2 e
    have kb : ∀ o, s.heap.get? b = some o → h'.get? b = some o := fun o e => a7 b o D.l2z D.l2TO D.l2i1 D.l2i2 e
    refine ⟨.ref s.heap.objs.size, _, I2, rfl, ⟨_, x, y, hfr, rfl, rfl, fun xs' q' => ?_, fun ys' q' => ?_⟩, ⟨b1, ?_, ⟨u', v, ?_⟩, ?_, ?_⟩, fun c hc => (hf1 c hc).1⟩
    · rw [I.sqb_inj q' qa]; exact hx
    · rw [I.sqb_inj q' qb]; exact hy
    · exact b2.extBut _ _ D.TIz (a7 _ _ D.TIz D.TITO D.TIi1 D.TIi2 q2)
    · exact b2.extBut _ _ D.TOz a2
    · exact (I.itb qa ka a3).keep fun o e => b2.extBut _ _ D.i1z e
    · exact (I.itb qb kb a4).keep fun o e => b2.extBut _ _ D.i2z e
  done := by
    intro X hP hw hK hc i pins s σ H E I hf st hg
    subst hP hw hK
    obtain ⟨xs, ys, qa, qb, hx⟩ := hg
    obtain ⟨q1, q2, ⟨u0, v0, q3⟩, q4, q5⟩ := st
    obtain ⟨is1, r1, p1, w1⟩ := I.sqb qa
    obtain ⟨is2, r2, p2, w2⟩ := I.sqb qb
    refine nextzq_end (I.ok.hd hc) D q1 q2 q3 (w1 _ _ q4) (w2 _ _ q5) ?_ fun h' k => ⟨rfl, I.turnedL (t' := s.toks) (fp := [z, TI, TO, i1, i2]) (fun c o hc e => ?_) hf⟩
    · rcases hx with hx | hx
      · left; simp; rw [← r1.length]; exact hx
      · right; simp; rw [← r2.length]; exact hx
    · simp only [List.mem_cons, List.not_mem_nil, or_false, not_or] at hc
      obtain ⟨c1, c2, c3, c4, c5⟩ := hc
      exact k c o c1 c3 c4 c5 e
  self := fun _ _ _ _ _ st h => wpAny_pyIter_zip st.1 h
def iZipQ (K : Frag) (ta : TA) : TI := fun σ H R => ta σ H fun vs H1 => ∃ a b t u xs ys, vs = [.ref a, .ref b] ∧ SqB K t H1 a xs ∧ SqB K u H1 b ys ∧ R (Itzq K t u a b) H1
theorem pi_zipQ {K : Frag} {elts : List Expr} {x1} {tp : Pos} {e1 e2 : Expr} {ta : TA} {p pos : Pos} (hK : X.K = K) (hg : Gl X "zip") (hm : X.mg "zip" = none) (ha : PA X [e1, e2] ta) (he : starEach [e1, e2] X.env = (false, eval e1 X.env) :: starEach [e2] X.env := by rfl) (hpl : (backTo pos (starEach [e2] X.env)).any (·.1) = false := by rfl) :
    PI X (.Tuple elts x1 tp) (.Call (.Name "zip" p) [e1, e2] [] pos) (iZipQ K ta) := by
  subst hK
  intro pins s σ H R I h
  refine wpAny_Call_Name_kw (ld_blt I hg hm boot_zip' ?_)
  refine PyProof.Rows.callWith_type1 (thn (ha pos pins s σ H _ I h) fun us s1 ⟨vs, H1, I1, r1, a, b, t, u, xs, ys, e1, qa, qb, q⟩ => ?_) he hpl
  subst e1
  obtain ⟨u', v, rfl, ru, rv⟩ := r1.two
  cases (show u' = Value.ref a from ru)
  cases (show v = Value.ref b from rv)
  obtain ⟨is1, rr1, p1, _⟩ := I1.sqb qa
  obtain ⟨is2, rr2, p2, _⟩ := I1.sqb qb
  refine call_zipq p1 p2 fun h' c1 c2 c3 c4 c5 c7 => ?_
  refine wpAny_pyIter_zip c1 ?_
  have l1 : a < s1.heap.objs.size := by obtain ⟨o, e⟩ := p1.obj; exact Heap.lt_size e
  have l2 : b < s1.heap.objs.size := by obtain ⟨o, e⟩ := p2.obj; exact Heap.lt_size e
  have sm : ∀ b, s1.heap.objs.size ≤ b → FpOk X pins H1 b := fun b hb => I1.fpOk hb (I1.hok.fresh hb)
  refine ⟨_, [s1.heap.objs.size + 4, s1.heap.objs.size + 2, s1.heap.objs.size + 3, s1.heap.objs.size, s1.heap.objs.size + 1], _, _, H1, rfl, I1.kept (t' := s1.toks) c7, turn_zipq (t := t) (u := u) (a := a) (b := b) ?_, ⟨c1, c2, ⟨_, _, c3⟩, I1.itb qa (fun o e => c7 _ o e) c4, I1.itb qb (fun o e => c7 _ o e) c5⟩, fun c hc => ?_, q⟩
  · exact zapart _ _ _ l1 l2
  · simp at hc
    rcases hc with rfl | rfl | rfl | rfl | rfl <;> exact sm _ (by omega)
end
end L2


set_option Elab.async false
set_option linter.all false
set_option maxRecDepth 100000
set_option maxHeartbeats 1000000
namespace L2
open PySem PySem.Spec PyProof.Rows PySem.W
theorem cut_m1 (xs : List V) : cutV xs (some (-1)) none = xs.drop (xs.length - 1) := by
  unfold cutV HT.sIx
  cases xs with
  | nil => simp
  | cons x r =>
    simp
    have e : (-1 + ((r.length : Int) + 1)).toNat = r.length := by omega
    rw [e]
    exact List.take_of_length_le (by simp)
end L2
namespace L2
open PySem PySem.Spec PyProof.Rows PySem.W
end L2


set_option Elab.async false
set_option linter.all false
set_option maxRecDepth 100000
set_option maxHeartbeats 1000000
namespace L2
open PySem PySem.Spec PyProof.Rows PySem.W

theorem map_range_nth {F : Nat → Int} {n k : Nat} (h : k < n) : nth ((List.range n).map F) k = F k := by simp [nth, List.getD_eq_getElem?_getD, h]
end L2
namespace L2
open PySem PySem.Spec PyProof.Rows PySem.W
end L2


set_option Elab.async false
set_option linter.all false
set_option maxRecDepth 100000
set_option maxHeartbeats 1000000
namespace L2
open PySem PySem.Spec PyProof.Rows PySem.W

def endsIn (T : List Int) : Nat → Int → Prop
  | 0, a => a = -1
  | k + 1, a => a = -1 ∨ (0 ≤ a ∧ a < T.length ∧ endsIn T k (nth T a.toNat))
theorem endsIn_top (T : List Int) (k : Nat) : endsIn T k (-1) := by cases k <;> simp [endsIn]
theorem endsIn_mono (T : List Int) : ∀ k a, endsIn T k a → endsIn T (k + 1) a
  | 0, a, h => .inl h
  | k + 1, a, h => by
    rcases h with h | ⟨h1, h2, h3⟩
    · exact .inl h
    · exact .inr ⟨h1, h2, endsIn_mono T k _ h3⟩
theorem endsIn_le (T : List Int) {k m : Nat} (h : k ≤ m) {a : Int} (e : endsIn T k a) : endsIn T m a := by
  induction h with
  | refl => exact e
  | step _ ih => exact endsIn_mono T _ _ ih
theorem endsIn_tree {ns T : List Int} (hT : TreeIs ns T) : ∀ d p, p < ns.length → dep (nth ns) ns.length p ≤ d → endsIn T (d + 1) (p : Int)
  | d, p, hp, hd => by
    have e := hT.1
    refine .inr ⟨by omega, by omega, ?_⟩
    have ep : ((p : Int)).toNat = p := by omega
    rw [ep]
    rcases elder_cases hT hp with z | ⟨q, z, hq, _, hz⟩
    · rw [z]; exact endsIn_top T d
    · rw [z]
      cases d with
      | zero => omega
      | succ d => exact endsIn_tree hT d q hq (by omega)
theorem endsIn_all {ns T : List Int} (hT : TreeIs ns T) {p : Nat} (hp : p < T.length) : endsIn T T.length (nth T p) := by
  have e := hT.1
  have h := endsIn_tree hT (dep (nth ns) ns.length p) p (by omega) (Nat.le_refl _)
  rcases h with h | ⟨_, _, h⟩
  · omega
  · have ep : ((p : Int)).toNat = p := by omega
    rw [ep] at h
    have := dep_lt (f := nth ns) (n := ns.length) (p := p) (by omega)
    exact endsIn_le T (by omega) h
end L2
namespace L2
open PySem PySem.Spec PyProof.Rows PySem.W
theorem eqd_nil {K : Frag} {Hx : Hp} {l q : Addr} {L : List Nat} (h1 : Hx l = some (.lst (natsV L))) (h2 : Hx q = some (.lst [])) : EqD K Hx 3 (V.ref l) (V.ref q) (decide (L = [])) := by
  have hh := eqp_lst (n := 2) (K := K) (H := Hx) eqp_int (V.ref l) (V.ref q) (L.map fun (q : Nat) => (q : Int)) [] (isL_ints (SqL.of (by rw [h1]; simp [natsV, Function.comp_def]))) (isL_ints (ns := []) (SqL.of h2))
  have e : decide (L.map (fun (q : Nat) => (q : Int)) = []) = decide (L = []) := by cases L <;> simp
  rw [e] at hh; exact hh
end L2
namespace L2
open PySem PySem.Spec PyProof.Rows PySem.W

def CDivL (i j : Int) : Prop := 0 < j ∧ j < 18446744073709551616
theorem op_fdivL {X : Cx} : OpR X (binaryOp .FloorDiv) (rI CDivL fun i j => .int (i / j)) := opI fun i j _ _ _ _ _ hc q => by
  have h1 : (0 : Int) < j := hc.1
  have h2 : j < 18446744073709551616 := hc.2
  refine floordiv_int (by omega) (by rw [Int.fdiv_eq_ediv_of_nonneg i (by omega)]; exact q) (.inl (PyProof.noPylong_of_log2 ?_))
  have h3 : j.natAbs < 2 ^ 64 := by omega
  have : j.natAbs.log2 < 64 := (Nat.log2_lt (by omega)).mpr h3
  omega
end L2
namespace L2
theorem snoc_cases {α : Type} (xs : List α) : xs = [] ∨ ∃ ys y, xs = ys ++ [y] := by
  rcases List.eq_nil_or_concat xs with h | ⟨ys, y, h⟩
  · exact .inl h
  · exact .inr ⟨ys, y, by rw [h, List.concat_eq_append]⟩
end L2
namespace L2
open PySem PySem.Spec PyProof.Rows PySem.W
theorem cut_midN (xs : List V) {a c : Nat} (h1 : a ≤ c) (h2 : c ≤ xs.length) : cutV xs (some (a : Int)) (some (c : Int)) = (xs.drop a).take (c - a) := by
  unfold cutV
  rw [HT.sIx_nat, HT.sIx_nat, Nat.min_eq_left h2, Nat.min_eq_left (Nat.le_trans h1 h2)]
theorem cut_ints (ns : List Int) {a c : Nat} (h1 : a ≤ c) (h2 : c ≤ ns.length) : cutV (ns.map V.int) (some (a : Int)) (some (c : Int)) = (cutN ns a (c - a)).map V.int := by
  rw [cut_midN _ h1 (by simpa using h2)]
  unfold cutN
  rw [List.map_take, List.map_drop]
end L2


set_option Elab.async false
set_option linter.all false
set_option maxRecDepth 100000
set_option maxHeartbeats 1000000
namespace L2
open PySem PySem.Spec PyProof.Rows PySem.W

def sw (d : Int) (k : Nat) : Int := if d ≤ k then d else 0
theorem sw_sw {d : Int} {a b : Nat} (h : a ≤ b) : sw (sw d b) a = sw d a := by
  unfold sw
  by_cases h1 : d ≤ b
  · rw [if_pos h1]
  · rw [if_neg h1, if_pos (by omega : (0 : Int) ≤ a), if_neg (by omega)]
theorem distN_cases (f : Nat → Int) (p : Nat) : (NoPrev f p ∧ distN f p = 0) ∨ ∃ q, IsPrev f p q ∧ distN f p = (p : Int) - q := by
  rcases prev_or f p with h | ⟨q, h⟩
  · exact .inl ⟨h, by unfold distN; rw [fenA_no h, if_neg (by omega)]⟩
  · exact .inr ⟨q, h, by unfold distN; rw [fenA_prev h, if_pos (by omega)]⟩
theorem distN_bounds (f : Nat → Int) (p : Nat) : 0 ≤ distN f p ∧ distN f p ≤ p := by
  rcases distN_cases f p with ⟨_, e⟩ | ⟨q, h, e⟩
  · omega
  · have := h.1; omega
theorem sw_self (f : Nat → Int) (p : Nat) : sw (distN f p) p = distN f p := if_pos (distN_bounds f p).2

def KinD (f g : Nat → Int) (m : Nat) : Prop := ∀ i, i < m → distN f i = distN g i

def Mt (f g : Nat → Int) (m p : Nat) : Prop := ∀ i, i < m → distN f i = sw (distN g (p - m + i)) i
theorem Mt.succ {f g : Nat → Int} {m p : Nat} (h : m ≤ p) : Mt f g (m + 1) (p + 1) ↔ Mt f g m p ∧ distN f m = sw (distN g p) m := by
  constructor
  · intro H
    refine ⟨fun i hi => ?_, ?_⟩
    · have := H i (by omega); rw [show p + 1 - (m + 1) + i = p - m + i by omega] at this; exact this
    · have := H m (by omega); rw [show p + 1 - (m + 1) + m = p by omega] at this; exact this
  · rintro ⟨H, h2⟩ i hi
    rw [show p + 1 - (m + 1) + i = p - m + i by omega]
    by_cases e : i = m
    · rw [e, show p - m + m = p by omega]; exact h2
    · exact H i (by omega)
theorem Mt.part {f g : Nat → Int} {m c p : Nat} (hm : m ≤ c) (hc : c ≤ p) (h : Mt f g c p) : Mt f g m p ↔ Mt f f m c := by
  have key : ∀ j, j < m → sw (distN f (c - m + j)) j = sw (distN g (p - m + j)) j := fun j hj => by
    have := h (c - m + j) (by omega)
    rw [this, show p - c + (c - m + j) = p - m + j by omega, sw_sw (by omega)]
  constructor
  · intro H j hj; rw [key j hj]; exact H j hj
  · intro H j hj; rw [← key j hj]; exact H j hj
theorem Mt.zero (f g : Nat → Int) (p : Nat) : Mt f g 0 p := fun i hi => absurd hi (by omega)
theorem Mt.self (f : Nat → Int) (m : Nat) : Mt f f m m := fun i hi => by rw [Nat.sub_self, Nat.zero_add, sw_self]
def IsBorder (f : Nat → Int) (k m : Nat) : Prop := m < k ∧ Mt f f m k ∧ ∀ j, m < j → j < k → ¬ Mt f f j k
theorem IsBorder.unique {f : Nat → Int} {k m j : Nat} (h : IsBorder f k m) (h' : IsBorder f k j) : m = j := by
  rcases Nat.lt_trichotomy m j with z | z | z
  · exact absurd h'.2.1 (h.2.2 j z h'.1)
  · exact z
  · exact absurd h.2.1 (h'.2.2 m z h.1)
def Goes (f : Nat → Int) (n s : Nat) (d : Int) (m : Nat) : Prop := m ≤ s ∧ Mt f f m s ∧ m < n ∧ distN f m = sw d m ∧ ∀ j, m < j → j ≤ s → Mt f f j s → ¬ (j < n ∧ distN f j = sw d j)

def Walk (f : Nat → Int) (n s : Nat) (d : Int) (c : Nat) : Prop := c ≤ s ∧ Mt f f c s ∧ ∀ j, c < j → j ≤ s → Mt f f j s → ¬ (j < n ∧ distN f j = sw d j)
theorem Walk.start (f : Nat → Int) (n s : Nat) (d : Int) : Walk f n s d s := ⟨Nat.le_refl _, Mt.self f s, fun j h1 h2 => absurd h1 (by omega)⟩
theorem Walk.step {f : Nat → Int} {n s : Nat} {d : Int} {c b : Nat} (h : Walk f n s d c) (no : ¬ (c < n ∧ distN f c = sw d c)) (hb : IsBorder f c b) : Walk f n s d b := by
  obtain ⟨h1, h2, h3⟩ := h
  obtain ⟨b1, b2, b3⟩ := hb
  refine ⟨by omega, (Mt.part (by omega) h1 h2).mpr b2, fun j j1 j2 j3 => ?_⟩
  rcases Nat.lt_trichotomy j c with z | z | z
  · exact absurd ((Mt.part (by omega) h1 h2).mp j3) (b3 j j1 z)
  · rw [z]; exact no
  · exact h3 j z j2 j3
theorem Walk.goes {f : Nat → Int} {n s : Nat} {d : Int} {c : Nat} (h : Walk f n s d c) (ok : c < n ∧ distN f c = sw d c) : Goes f n s d c := ⟨h.1, h.2.1, ok.1, ok.2, h.2.2⟩

end L2
namespace L2
open PySem PySem.Spec PyProof.Rows PySem.W
end L2


set_option Elab.async false
set_option linter.all false
set_option maxRecDepth 100000
set_option maxHeartbeats 1000000
namespace L2
open PySem PySem.Spec PyProof.Rows PySem.W
end L2
namespace L2
end L2


set_option Elab.async false
set_option linter.all false
set_option maxRecDepth 100000
set_option maxHeartbeats 1000000
namespace L2
open PySem PySem.Spec PyProof.Rows PySem.W

structure FunD (K : PySem.W.Frag) (x qual : Str) (st : Stmt) (f : Addr) (fd : FuncData) (dV : Value) : Prop where
  ex : ∃ (oc : Value) (od : Option Addr) (kV doc pm : Value) (an : Option Addr) (cdv ct : Value) (osl : Array (Option Value)),
    fd = PySem.W.fnOf x qual (defArgs st) (defBody st) (defScope st) dV kV doc pm an cdv ct ∧ K.lookup f = some ⟨oc, od, .func fd, osl⟩ ∧ PySem.W.codeIn K cdv qual = true
  kp : PySem.W.keepIn K (.ref f) = true
section
variable {P : Program} {w : World} {K : PySem.W.Frag} {mg : Str → Option Value} {base : Heap}
theorem FunD.okX {x qual : Str} {st : Stmt} {f : Addr} {fd : FuncData} {dV : Value} {N ps : List Str} {k : Nat} {sp : Sp} (F : FunD K x qual st f fd dV) (S : FnScope N ps (defScope st)) (len : ∀ vs H Q E, sp vs H Q E → vs.length = ps.length)
    (hbody : ∀ (cdv : Value) (A : Around) (outer : List Env) (s : Shared) (H : Hp) (vs : List V) (Q : VK) (E : XK), Room k (A.deeper (envOfC qual (defScope st) s.heap.objs.size f cdv)) → sp vs H Q E →
      ∃ t, PSs (cxOf (CXE P w) P w K mg base N qual (defScope st) f cdv A outer s H E) (defBody st) t ∧ t { nx := fun _ H' => Q .non H', rt := Q } (start N vs) H) : FnOk P w K mg base (CXE P w) (k + 1) f fd ps sp := by
  obtain ⟨oc, od, kV, doc, pm, an, cdv, ct, osl, rfl, lk, hcd⟩ := F.ex
  exact fn_of lk hcd S len fun A outer s H vs Q E hr hsp => hbody cdv A outer s H vs Q E hr hsp
theorem FunD.binds {x qual : Str} {st : Stmt} {f : Addr} {fd : FuncData} {D : Addr} {ps : List Str} {ds : List Value} {oc : Value} {od : Option Addr} {items : Array Value} {ep : Nat} {sl : Array (Option Value)} (F : FunD K x qual st f fd (.ref D))
    (lk : K.lookup D = some ⟨oc, od, .seq items ep, sl⟩)
    (h : ∀ (kV doc pm : Value) (an : Option Addr) (cdv ct : Value) (us : List Value), (us ++ ds).length = ps.length → ∃ k, bindArgs (PySem.W.fnOf x qual (defArgs st) (defBody st) (defScope st) (.ref D) kV doc pm an cdv ct) ⟨us, []⟩ = seqItems? (.ref D) >>= k ∧ k (some items) = pure (ps.zip (us ++ ds))) : Binds K fd ps ds := by
  obtain ⟨oc, od, kV, doc, pm, an, cdv, ct, osl, rfl, lf, hcd⟩ := F.ex
  intro s us KX hl
  obtain ⟨k, h1, h2⟩ := h kV doc pm an cdv ct us hl
  exact BindsTo.of_defaults rfl (KX _ _ lk) rfl h1 h2
end

end L2
namespace L2
open PySem PySem.Spec PyProof.Rows PySem.W
end L2


set_option Elab.async false
set_option linter.all false
set_option maxRecDepth 100000
set_option maxHeartbeats 1000000
namespace L2
open PySem PySem.Spec PyProof.Rows PySem.W

def RA (Z H : Hp) (l : Addr) (as : List Addr) (C : Nat) : Prop := H l = some (.lst (as.map V.ref)) ∧ l ∉ as ∧ Z l = none ∧ ∀ a ∈ as, Z a = none ∧ ∃ ns : List Int, H a = some (.lst (ns.map V.int)) ∧ ns.length ≤ C
theorem RA.exc {Z H H' : Hp} {l p : Addr} {as : List Addr} {C : Nat} (R : RA Z H l as C) (e : Exc p H H') (hp : Z p ≠ none) : RA Z H' l as C :=
  ⟨e _ _ (fun z => hp (by rw [← z]; exact R.2.2.1)) R.1, R.2.1, R.2.2.1, fun a ha => ⟨(R.2.2.2 a ha).1, by
    obtain ⟨z, ns, h, hl⟩ := R.2.2.2 a ha
    exact ⟨ns, e _ _ (fun y => hp (by rw [← y]; exact z)) h, hl⟩⟩⟩
theorem RA.same {Z H H' : Hp} {l : Addr} {as : List Addr} {C : Nat} (R : RA Z H l as C) (s : Same H H') : RA Z H' l as C :=
  ⟨s _ _ R.1, R.2.1, R.2.2.1, fun a ha => ⟨(R.2.2.2 a ha).1, by
    obtain ⟨z, ns, h, hl⟩ := R.2.2.2 a ha
    exact ⟨ns, s _ _ h, hl⟩⟩⟩
theorem RA.mono {Z H : Hp} {l : Addr} {as : List Addr} {C D : Nat} (R : RA Z H l as C) (h : C ≤ D) : RA Z H l as D :=
  ⟨R.1, R.2.1, R.2.2.1, fun a ha => ⟨(R.2.2.2 a ha).1, by
    obtain ⟨z, ns, e, hl⟩ := R.2.2.2 a ha
    exact ⟨ns, e, by omega⟩⟩⟩

theorem RA.outer {Z H : Hp} {l : Addr} {as bs : List Addr} {C : Nat} (R : RA Z H l as C) (h : ∀ b ∈ bs, b ∈ as) : RA Z (upd H l (.lst (bs.map V.ref))) l bs C :=
  ⟨upd_same, fun z => R.2.1 (h _ z), R.2.2.1, fun a ha => ⟨(R.2.2.2 a (h a ha)).1, by
    obtain ⟨z, ns, e, hl⟩ := R.2.2.2 a (h a ha)
    exact ⟨ns, by rw [upd_ne (fun y => R.2.1 (by rw [← y]; exact h a ha))]; exact e, hl⟩⟩⟩

theorem RA.more {Z H : Hp} {l q : Addr} {as bs : List Addr} {C : Nat} {ns : List Int} (R : RA Z H l as C) (h : ∀ b ∈ bs, b ∈ as ∨ b = q) (hq : H q = some (.lst (ns.map V.int))) (zq : Z q = none) (hl : ns.length ≤ C) (nq : q ≠ l) : RA Z (upd H l (.lst (bs.map V.ref))) l bs C :=
  ⟨upd_same, fun z => (h _ z).elim R.2.1 (fun y => nq y.symm), R.2.2.1, fun a ha => by
    rcases h a ha with h1 | rfl
    · obtain ⟨z, ns, e, hl⟩ := R.2.2.2 a h1
      exact ⟨z, ns, by rw [upd_ne (fun y => R.2.1 (by rw [← y]; exact h1))]; exact e, hl⟩
    · exact ⟨zq, ns, by rw [upd_ne nq]; exact hq, hl⟩⟩

theorem RA.fresh {Z H : Hp} {l q u : Addr} {as bs : List Addr} {C : Nat} {ns : List Int} (R : RA Z H l as C) (h : ∀ b ∈ bs, b ∈ as ∨ b = q) (hq : H q = some (.lst (ns.map V.int))) (zq : Z q = none) (hl : ns.length ≤ C) (hu : H u = none) (zu : Z u = none) : RA Z (upd H u (.lst (bs.map V.ref))) u bs C := by
  have key : ∀ b ∈ bs, b ≠ u ∧ Z b = none ∧ ∃ ns : List Int, H b = some (.lst (ns.map V.int)) ∧ ns.length ≤ C := fun b hb => by
    rcases h b hb with h1 | rfl
    · obtain ⟨z, ns, e, hl⟩ := R.2.2.2 b h1
      exact ⟨ne_of_none e hu, z, ns, e, hl⟩
    · exact ⟨ne_of_none hq hu, zq, ns, hq, hl⟩
  exact ⟨upd_same, fun z => (key u z).1 rfl, zu, fun a ha => by
    obtain ⟨n, z, ns, e, hl⟩ := key a ha
    exact ⟨z, ns, by rw [upd_ne n]; exact e, hl⟩⟩

theorem RA.at {Z H : Hp} {l : Addr} {as : List Addr} {C i : Nat} (R : RA Z H l as C) (h : i < as.length) : ∃ (a : Addr) (ns : List Int), a ∈ as ∧ as[i]? = some a ∧ atI (as.map V.ref) (i : Int) = some (.ref a) ∧ H a = some (.lst (ns.map V.int)) ∧ ns.length ≤ C ∧ Z a = none ∧ a ≠ l := by
  obtain ⟨z, ns, e, hl⟩ := R.2.2.2 as[i] (List.getElem_mem _)
  refine ⟨as[i], ns, List.getElem_mem _, List.getElem?_eq_getElem h, ?_, e, hl, z, fun y => R.2.1 (by rw [← y]; exact List.getElem_mem _)⟩
  rw [atI_at rfl (by simpa using h)]; simp
theorem RA.from {Z H H' : Hp} {l p : Addr} {as : List Addr} {C : Nat} (R : RA H H' l as C) (e : Exc p Z H) (hp : H p ≠ none) : RA Z H' l as C :=
  ⟨R.1, R.2.1, e.free (fun z => hp (by rw [← z]; exact R.2.2.1)) R.2.2.1, fun a ha => ⟨e.free (fun z => hp (by rw [← z]; exact (R.2.2.2 a ha).1)) (R.2.2.2 a ha).1, (R.2.2.2 a ha).2⟩⟩
theorem RowsN.exc {Z H H' : Hp} {l p : Addr} {rs : List (List Int)} (R : RowsN Z H l rs) (e : Exc p H H') (hp : Z p ≠ none) : RowsN Z H' l rs := by
  obtain ⟨as, h1, h2, h3, h4, h5, h6⟩ := R
  exact ⟨as, e _ _ (fun z => hp (by rw [← z]; exact h5)) h1, h2, h3, fun i i1 i2 => e _ _ (fun z => hp (by rw [← z]; exact h6 _ (List.getElem_mem _))) (h4 i i1 i2), h5, h6⟩
theorem PoolAt.updN {H : Hp} {p q : Addr} {o : HO} (P : PoolAt H p) (h : q ≠ p) : PoolAt (L2.upd H q o) p := by
  obtain ⟨x, y, e, z⟩ := P
  exact ⟨x, y, by rw [upd_ne (fun w => h w.symm)]; exact e, z⟩
theorem IsL.mono {K : Frag} {H H' : Hp} {α : Type} {P P' : V → α → Prop} {v : V} {as : List α} (h : IsL K H P v as) (s : Same H H') (hp : ∀ x y, P x y → P' x y) : IsL K H' P' v as := by
  obtain ⟨a, xs, e, q, l, r⟩ := h
  exact ⟨a, xs, e, s.seq q, l, fun j x y h1 h2 => hp _ _ (r j x y h1 h2)⟩
theorem IsL2.same {K : Frag} {H H' : Hp} {v : V} {rs : List (List Int)} (h : IsL K H (IsL K H IsI) v rs) (s : Same H H') : IsL K H' (IsL K H' IsI) v rs := IsL.mono h s fun x y q => IsL.mono q s fun _ _ z => z
end L2


set_option Elab.async false
set_option linter.all false
set_option maxRecDepth 100000
set_option maxHeartbeats 1000000
namespace L2
open PySem PySem.Spec PyProof.Rows PySem.W

section
variable {X : Cx}
end

structure KindsOf (K : Frag) (mg : Str → Option Value) (C : Addr) (b : Nat → Bool) : Prop where
  z : ExK K C
  k0 : kitOne K (.ref C) (.ref (clsAt mg "Unlike")) = some (b 0)
  k1 : kitOne K (.ref C) (.ref (clsAt mg "Empty")) = some (b 1)
  k2 : kitOne K (.ref C) (.ref (clsAt mg "TooMany")) = some (b 2)
  k3 : kitOne K (.ref C) (.ref (clsAt mg "NoTree")) = some (b 3)
  k4 : kitOne K (.ref C) (.ref (clsAt mg "NoTelling")) = some (b 4)
  k5 : kitOne K (.ref C) (.ref (clsAt mg "NoPlace")) = some (b 5)
  k6 : kitOne K (.ref C) (.ref (clsAt mg "NoNumber")) = some (b 6)
  k7 : kitOne K (.ref C) (.ref (clsAt mg "NoPast")) = some (b 7)
  k8 : kitOne K (.ref C) (.ref (clsAt mg "NoText")) = some (b 8)
  k9 : kitOne K (.ref C) (.ref (clsAt mg "NoLine")) = some (b 9)
  kd : kitOne K (.ref C) (.ref (clsAt mg "DipError")) = some true
  kv : kitOne K (.ref C) (.type "ValueError") = some true
end L2


set_option Elab.async false
set_option linter.all false
set_option maxRecDepth 100000
set_option maxHeartbeats 1000000
namespace L2
open PySem PySem.Spec PyProof.Rows PySem.W

theorem PartAt.uniq {f g : Nat → Int} {x y n a m a' m' : Nat} (h : PartAt f g x y n a m) (k : PartAt f g x y n a' m') : a = a' ∧ m = m' := by
  obtain ⟨h1, h2, h3, h4⟩ := h
  obtain ⟨k1, k2, k3, k4⟩ := k
  have hm : m = m' := by
    by_cases z : m < m'
    · exact absurd (k3 m z a h1) h2
    · by_cases y : m' < m
      · exact absurd (h3 m' y a' k1) k2
      · omega
  subst hm
  refine ⟨?_, rfl⟩
  by_cases z : a < a'
  · exact absurd (k4 a z) h2
  · by_cases y : a' < a
    · exact absurd (h4 a' y) k2
    · omega
def TupsAt (H : Hp) (l : Addr) (rs : List (List Int)) : Prop := ∃ as : List Addr, H l = some (.lst (as.map V.ref)) ∧ as.length = rs.length ∧ ∀ i (h1 : i < as.length) (h2 : i < rs.length), H as[i] = some (.tup (rs[i].map V.int))
theorem TupsAt.same {H H' : Hp} {l : Addr} {rs : List (List Int)} (R : TupsAt H l rs) (s : Same H H') : TupsAt H' l rs := by
  obtain ⟨as, h1, h2, h3⟩ := R
  exact ⟨as, s _ _ h1, h2, fun i i1 i2 => s _ _ (h3 i i1 i2)⟩
theorem TupsAt.nil {H : Hp} {l : Addr} (h : H l = some (.lst [])) : TupsAt H l [] := ⟨[], h, rfl, fun i i1 => absurd i1 (by simp)⟩
theorem TupsAt.push {H : Hp} {l t : Addr} {rs : List (List Int)} {r : List Int} {as : List Addr} (e : H l = some (.lst (as.map V.ref))) (hl : as.length = rs.length) (h : ∀ i (h1 : i < as.length) (h2 : i < rs.length), H as[i] = some (.tup (rs[i].map V.int))) (ht : H t = some (.tup (r.map V.int))) :
    TupsAt (upd H l (.lst (as.map V.ref ++ [V.ref t]))) l (rs ++ [r]) := by
  refine ⟨as ++ [t], by rw [upd_same]; simp, by simp [hl], fun i i1 i2 => ?_⟩
  have ne : ∀ (a : Addr) (xs : List V), H a = some (.tup xs) → a ≠ l := fun a xs h1 z => by rw [z, e] at h1; cases h1
  by_cases z : i < as.length
  · have h3 := h i z (by omega)
    rw [List.getElem_append_left z, List.getElem_append_left (show i < rs.length by omega), upd_ne (ne _ _ h3)]
    exact h3
  · have e1 : i = as.length := by simp at i1; omega
    subst e1
    rw [upd_ne (by simpa using ne _ _ ht)]
    simp [hl, ht]
end L2


set_option Elab.async false
set_option linter.all false
set_option maxRecDepth 100000
set_option maxHeartbeats 1000000
namespace L2
open PySem PySem.Spec PyProof.Rows PySem.W
def Once (k : Nat) (ss ls : List Int) : Prop := ss = ((List.range k).map fun (j : Nat) => (j : Int)).filter (fun j => decide (j ∉ ls)) ∧ ls = ((List.range k).map fun (j : Nat) => (j : Int)).filter (fun j => decide (j ∈ ls))
instance (k : Nat) (ss ls : List Int) : Decidable (Once k ss ls) := inferInstanceAs (Decidable (_ ∧ _))
theorem TupsAt.walk {K : Frag} {H1 : Hp} {d : Addr} {rs : List (List Int)} (R : TupsAt H1 d rs) : (∀ i H, Same H1 H → i < rs.length → (Itl K d).go i H) ∧ (∀ H, Same H1 H → (Itl K d).stop rs.length H) ∧
    ∀ i x H H' (h : i < rs.length), Same H1 H → (Itl K d).yld i H x H' → H' = H ∧ ∃ a, x = .ref a ∧ H a = some (.tup (rs[i].map V.int)) := by
  obtain ⟨as, e, hl, hh⟩ := R
  refine ⟨fun i H s hi => ⟨_, V.ref (as[i]'(by omega)), SqL.of (s _ _ e), by simp [show i < as.length by omega]⟩, fun H s => ⟨_, SqL.of (s _ _ e), by simp [hl]⟩, fun i x H H' hi s y => ?_⟩
  obtain ⟨e1, y⟩ := y
  have h1 := y _ (SqL.of (s _ _ e))
  rw [List.getElem?_map, List.getElem?_eq_getElem (show i < as.length by omega)] at h1
  cases h1
  exact ⟨e1, _, rfl, s _ _ (hh i (by omega) hi)⟩
theorem TupsAt.sq {K : Frag} {H : Hp} {l : Addr} {rs : List (List Int)} (R : TupsAt H l rs) : ∃ xs, SqL K H l xs := by
  obtain ⟨as, e, _⟩ := R
  exact ⟨_, SqL.of e⟩
end L2


set_option Elab.async false
set_option linter.all false
set_option maxRecDepth 100000
set_option maxHeartbeats 1000000
namespace L2
open PySem PySem.Spec PyProof.Rows PySem.W

theorem KinD.trans {f g h : Nat → Int} {n : Nat} (a : KinD f g n) (b : KinD g h n) : KinD f h n := fun i hi => (a i hi).trans (b i hi)
section
variable {X : Cx}
end
end L2


set_option Elab.async false
set_option linter.all false
set_option maxRecDepth 100000
set_option maxHeartbeats 1000000
namespace L2
open PySem PySem.Spec PyProof.Rows PySem.W

section
variable {N : Nat} {k : Nat → Int} {cmp : Nat → Nat → (Bool → Shared → Prop) → Shared → Prop} {s : Shared} {p : Array Nat}
def kk (k : Nat → Int) (p : Array Nat) (i : Nat) : Int := k (p.getD i 0)
def SoT (k : Nat → Int) (p : Array Nat) (m : Nat) : Prop := ∀ i j, i ≤ j → j < m → kk k p i ≤ kk k p j
def DeT (k : Nat → Int) (p : Array Nat) (m : Nat) : Prop := ∀ i j, i ≤ j → j < m → kk k p j ≤ kk k p i
def Bd (N : Nat) (p : Array Nat) : Prop := p.Perm (List.range N).toArray
theorem Bd.size (h : Bd N p) : p.size = N := by
  have := (Array.perm_iff_toList_perm.mp h).length_eq
  simpa using this
theorem Bd.lt (h : Bd N p) (hN : 0 < N) (i : Nat) : p.getD i 0 < N := by
  rw [Array.getD_eq_getD_getElem?]
  by_cases hi : i < p.size
  · rw [getElem?_pos p i hi]
    have := (Array.Perm.mem_iff h (a := p[i])).mp (Array.getElem_mem hi)
    simpa using this
  · rw [getElem?_neg p i hi]; exact hN
theorem SoT.next {m : Nat} (h : SoT k p m) (h1 : 1 ≤ m) (h2 : kk k p (m - 1) ≤ kk k p m) : SoT k p (m + 1) := by
  intro i j hij hj
  by_cases e : j = m
  · subst e
    by_cases e2 : i = j
    · rw [e2]; exact Int.le_refl _
    · exact Int.le_trans (h i (j - 1) (by omega) (by omega)) h2
  · exact h i j hij (by omega)
theorem DeT.next {m : Nat} (h : DeT k p m) (h1 : 1 ≤ m) (h2 : kk k p m ≤ kk k p (m - 1)) : DeT k p (m + 1) := by
  intro i j hij hj
  by_cases e : j = m
  · subst e
    by_cases e2 : i = j
    · rw [e2]; exact Int.le_refl _
    · exact Int.le_trans h2 (h i (j - 1) (by omega) (by omega))
  · exact h i j hij (by omega)
end
end L2


set_option Elab.async false
set_option linter.all false
set_option maxRecDepth 100000
set_option maxHeartbeats 1000000
namespace L2
open PySem PySem.Spec PyProof.Rows PySem.W

section
variable {prog : Program} {w : World} {E : Value → Shared → Prop} {s : Shared}
def Pr (h : Heap) (v : Value) (x y : Int) : Prop := ∃ a o n t u, v = .ref a ∧ h.get? a = some o ∧ o.cls = .type "tuple" ∧ o.data = .seq #[.int x t, .int y u] n
theorem Pr.keep {h h' : Heap} {v : Value} {x y : Int} (p : Pr h v x y) (k : ∀ b o, h.get? b = some o → h'.get? b = some o) : Pr h' v x y := by
  obtain ⟨a, o, n, t, u, e, g, r⟩ := p
  exact ⟨a, o, n, t, u, e, k _ _ g, r⟩
end
section
variable {X : Cx}
def pairK (r : List Int) : Int := r.getD 0 0 * 100000 + r.getD 1 0
def rSortT (K : Frag) : List V → Hp → VK → Prop := fun xs H Q => ∃ (p : Addr) (rs : List (List Int)), xs = [.ref p] ∧ TupsAt H p rs ∧ (∀ r ∈ rs, ∃ x y, r = [x, y] ∧ 0 ≤ y ∧ y < 100000) ∧ rs.length < 64 ∧ ∀ (rs' : List (List Int)) (l : Addr) (H' : Hp), rs'.Perm rs → rs'.Pairwise (fun r r' => pairK r ≤ pairK r') → H l = none → Same H H' → TupsAt H' l rs' → Q (.ref l) H'
end
end L2


set_option Elab.async false
set_option linter.all false
set_option maxRecDepth 100000
set_option maxHeartbeats 1000000
namespace L2
open PySem PySem.Spec PyProof.Rows PySem.W

theorem spine_congr {f g : Nat → Int} {i : Nat} {S : List Nat} (h : ∀ q, q < i → f q = g q) (hs : Spine f i S) : Spine g i S := by
  refine ⟨hs.1, fun q => (hs.2 q).trans ⟨fun ⟨h1, h2⟩ => ⟨h1, fun r r1 r2 => by rw [← h q h1, ← h r r2]; exact h2 r r1 r2⟩, fun ⟨h1, h2⟩ => ⟨h1, fun r r1 r2 => by rw [h q h1, h r r2]; exact h2 r r1 r2⟩⟩⟩
theorem elder_congr {f g : Nat → Int} {i p : Nat} {e : Int} (h : ∀ q, q < i → f q = g q) (hp : p < i) (he : ElderIs f i p e) : ElderIs g i p e := by
  have c1 : NoPrev f p → NoPrev g p := fun z q hq => by rw [← h p hp, ← h q (by omega)]; exact z q hq
  have c2 : NoNext f i p → NoNext g i p := fun z r r1 r2 => by rw [← h p hp, ← h r r2]; exact z r r1 r2
  have c3 : ∀ q, IsPrev f p q → IsPrev g p q := fun q ⟨z1, z2, z3⟩ => ⟨z1, by rw [← h p hp, ← h q (by omega)]; exact z2, fun r r1 r2 => by rw [← h p hp, ← h r (by omega)]; exact z3 r r1 r2⟩
  have c4 : ∀ r, IsNext f i p r → IsNext g i p r := fun r ⟨z1, z2, z3, z4⟩ => ⟨z1, z2, by rw [← h p hp, ← h r z2]; exact z3, fun s s1 s2 => by rw [← h p hp, ← h s (by omega)]; exact z4 s s1 s2⟩
  rcases he with ⟨a, b, c⟩ | ⟨q, a, b, c⟩ | ⟨r, a, b, c⟩ | ⟨q, r, a, b, c⟩
  · exact .inl ⟨c1 a, c2 b, c⟩
  · exact .inr (.inl ⟨q, c3 q a, c2 b, c⟩)
  · exact .inr (.inr (.inl ⟨r, c1 a, c4 r b, c⟩))
  · exact .inr (.inr (.inr ⟨q, r, c3 q a, c4 r b, by rw [← h q (Nat.lt_trans a.1 hp), ← h r b.2.1]; exact c⟩))

def Hung (n i : Nat) (S : List Nat) (es : List Int) : Prop := ∃ f : Nat → Int, Spine f i S ∧ S.Pairwise (fun q r => f q + 2 ^ (n - i) ≤ f r) ∧ ∀ p, p < i → ElderIs f i p (es.getD p 0)
theorem Hung.lt {n i : Nat} {S : List Nat} {es : List Int} (h : Hung n i S es) : ∀ q ∈ S, q < i := by
  obtain ⟨f, hS, _⟩ := h
  exact fun q hq => ((hS.2 q).mp hq).1
theorem Hung.len {n i : Nat} {S : List Nat} {es : List Int} (h : Hung n i S es) : S.length ≤ i := by
  have hl := h.lt
  obtain ⟨f, hS, _⟩ := h
  rcases pw_len S i 0 hS.1 (fun q hq => ⟨Nat.zero_le _, hl q hq⟩) with z | z
  · omega
  · rw [z]; simp
theorem Hung.step {n i : Nat} {A B : List Nat} {es : List Int} (h : Hung n i (A ++ B) es) (hi : i < n) (hl : es.length = n) (he : es.getD i 0 = -1) : Hung n (i + 1) (A ++ [i]) (setE es A B i) := by
  have hlt := h.lt
  obtain ⟨f, hS, hg, hE⟩ := h
  have eD : (2 : Int) ^ (n - i) = 2 * 2 ^ (n - (i + 1)) := by
    rw [show n - i = n - (i + 1) + 1 by omega, Int.pow_succ, Int.mul_comm]
  have pD : (0 : Int) < 2 ^ (n - (i + 1)) := Int.pow_pos (by decide)
  rw [eD] at hg
  generalize hDD : (2 : Int) ^ (n - (i + 1)) = D at hg pD
  have hgA := (List.pairwise_append.mp hg).1
  have hgB := (List.pairwise_append.mp hg).2.1
  have hgX := (List.pairwise_append.mp hg).2.2
  obtain ⟨v, vA, vB⟩ : ∃ v : Int, (∀ q ∈ A, f q + D ≤ v) ∧ ∀ q ∈ B, v < f q := by
    cases B with
    | cons b Br =>
      refine ⟨f b - D, fun q hq => ?_, fun q hq => ?_⟩
      · have := hgX q hq b (by simp); omega
      · rcases List.mem_cons.mp hq with rfl | hq
        · omega
        · have := (List.pairwise_cons.mp hgB).1 q hq; omega
    | nil =>
      rcases snoc_cases A with rfl | ⟨A', a, rfl⟩
      · exact ⟨0, (fun q hq => by cases hq), fun q hq => by cases hq⟩
      · refine ⟨f a + D, fun q hq => ?_, fun q hq => by cases hq⟩
        rcases List.mem_append.mp hq with hq | hq
        · have := (List.pairwise_append.mp hgA).2.2 q hq a (by simp); omega
        · rw [List.mem_singleton.mp hq]; omega
  have hag : ∀ q, q < i → f q = (if q = i then v else f q) := fun q hq => by rw [if_neg (by omega)]
  have gi : (fun q => if q = i then v else f q) i = v := if_pos rfl
  have gq : ∀ q, q < i → (fun q => if q = i then v else f q) q = f q := fun q hq => if_neg (by omega)
  generalize (fun q => if q = i then v else f q) = g at gi gq
  have hag : ∀ q, q < i → f q = g q := fun q hq => (gq q hq).symm
  have lA : ∀ q ∈ A, q < i := fun q hq => hlt q (List.mem_append_left _ hq)
  have lB : ∀ q ∈ B, q < i := fun q hq => hlt q (List.mem_append_right _ hq)
  have SS := spine_step (f := g) (i := i) (A := A) (B := B) (spine_congr hag hS) (fun q hq => by rw [gi, gq q (lA q hq)]; have := vA q hq; omega) (fun q hq => by rw [gi, gq q (lB q hq)]; exact vB q hq)
  refine ⟨g, SS.1, ?_, fun p hp => ?_⟩
  · rw [hDD]
    refine List.pairwise_append.mpr ⟨?_, List.pairwise_singleton _ _, fun q hq r hr => ?_⟩
    · refine hgA.imp_of_mem fun {q r} hq hr z => ?_
      rw [gq q (lA q hq), gq r (lA r hr)]; omega
    · rw [List.mem_singleton.mp hr, gi, gq q (lA q hq)]; exact vA q hq
  · have hbi : ∀ b, B.head? = some b → b ≠ i := fun b hb => by
      have := lB b (List.mem_of_head? hb); omega
    rw [setE_at _ _ _ _ _ (by omega) hbi]
    by_cases z : p = i
    · subst z
      rw [if_pos rfl, he]; exact SS.2.1
    · rw [if_neg z]
      exact SS.2.2 p _ (by omega) (elder_congr hag (by omega) (hE p (by omega)))
theorem Hung.tree {n : Nat} {S : List Nat} {es : List Int} (h : Hung n n S es) (hl : es.length = n) : ∃ ns, TreeIs ns es := by
  obtain ⟨f, _, _, hE⟩ := h
  refine ⟨(List.range n).map f, by simp [hl], fun p hp => ?_⟩
  have hp : p < n := by simpa using hp
  have := hE p hp
  rw [show ((List.range n).map f).length = n by simp]
  exact elder_congr (f := f) (fun q hq => (map_range_nth hq).symm) hp this
end L2
namespace L2
open PySem PySem.Spec PyProof.Rows PySem.W
section
variable {X : Cx}
end
end L2
namespace L2
open PySem PySem.Spec PyProof.Rows PySem.W
theorem TupsAt.keep {H H' : Hp} {l : Addr} {rs : List (List Int)} (R : TupsAt H l rs) (h1 : ∀ xs, H l = some (.lst xs) → H' l = some (.lst xs)) (h2 : ∀ a xs, H a = some (.tup xs) → H' a = some (.tup xs)) : TupsAt H' l rs := by
  obtain ⟨as, e, hl, h⟩ := R
  exact ⟨as, h1 _ e, hl, fun i i1 i2 => h2 _ _ (h i i1 i2)⟩
theorem TupsAt.exc {H H' : Hp} {l p : Addr} {rs : List (List Int)} (R : TupsAt H l rs) (e : Exc p H H') (P : PoolAt H p) (n : l ≠ p) : TupsAt H' l rs := by
  obtain ⟨x, y, hp, _⟩ := P
  exact R.keep (fun xs h => e _ _ n h) fun a xs h => e _ _ (fun z => by rw [z, hp] at h; cases h) h
theorem TupsAt.updL {H : Hp} {l b : Addr} {rs : List (List Int)} {ys zs : List V} (R : TupsAt H l rs) (hb : H b = some (.lst ys)) (n : l ≠ b) : TupsAt (upd H b (.lst zs)) l rs :=
  R.keep (fun xs h => by rw [upd_ne n]; exact h) fun a xs h => by rw [upd_ne (fun z => by rw [z, hb] at h; cases h)]; exact h

end L2


set_option Elab.async false
set_option linter.all false
set_option maxRecDepth 100000
set_option maxHeartbeats 1000000
namespace L2
open PySem PySem.Spec PyProof.Rows PySem.W

end L2


set_option Elab.async false
set_option linter.all false
set_option maxRecDepth 100000
set_option maxHeartbeats 1000000
namespace L2
open PySem PySem.Spec PyProof.Rows PySem.W

theorem next_or (f : Nat → Int) (n p : Nat) : NoNext f n p ∨ ∃ r, IsNext f n p r := by
  by_cases h : ∀ j, j < n - (p + 1) → f p ≤ f (p + 1 + j)
  · exact .inl fun r h1 h2 => by
      have := h (r - (p + 1)) (by omega)
      rwa [show p + 1 + (r - (p + 1)) = r by omega] at this
  · obtain ⟨j, hj, h1, h2⟩ := first_not _ h
    refine .inr ⟨p + 1 + j, by omega, by omega, by omega, fun s s1 s2 => ?_⟩
    have := h2 (s - (p + 1)) (by omega)
    rwa [show p + 1 + (s - (p + 1)) = s by omega] at this
end L2


set_option Elab.async false
set_option linter.all false
set_option maxRecDepth 100000
set_option maxHeartbeats 1000000
namespace L2
open PySem PySem.Spec PyProof.Rows PySem.W

section
variable {X : Cx}
end

def rSlU (K : Frag) : V → Option Int → Option Int → Hp → VK → Prop := fun x lo hi H Q => ∃ a xs, x = .ref a ∧ SqT K H a xs ∧ ∀ p H', Same H H' → SqT K H' p (cutV xs lo hi) → Q (.ref p) H'
theorem TupsAt.at {K : Frag} {H : Hp} {l : Addr} {rs : List (List Int)} {p : Nat} (R : TupsAt H l rs) (h : p < rs.length) : ∃ xs a, SqL K H l xs ∧ atI xs (p : Int) = some (V.ref a) ∧ H a = some (.tup (rs[p].map V.int)) := by
  obtain ⟨as, e, hl, ht⟩ := R
  refine ⟨as.map V.ref, as[p]'(by omega), SqL.of e, ?_, ht p (by omega) h⟩
  rw [atI_at rfl (by rw [List.length_map]; omega)]; simp

end L2


set_option Elab.async false
set_option linter.all false
set_option maxRecDepth 100000
set_option maxHeartbeats 1000000
namespace L2
open PySem PySem.Spec PyProof.Rows PySem.W

def NextAt (f : Nat → Int) (p k : Nat) : Prop := p < k ∧ f k < f p ∧ ∀ s, p < s → s < k → f p ≤ f s
open Classical in

noncomputable def dropAt (f : Nat → Int) (k : Nat) : Nat := (List.range k).countP fun p => decide (NextAt f p k)
theorem count_mem {B : List Nat} {n : Nat} (hB : B.Nodup) (hlt : ∀ q ∈ B, q < n) : (List.range n).countP (fun p => decide (p ∈ B)) = B.length := by
  rw [List.countP_eq_length_filter]
  refine List.Perm.length_eq ((List.perm_ext_iff_of_nodup (List.nodup_range.filter _) hB).mpr fun a => ?_)
  rw [List.mem_filter, List.mem_range, decide_eq_true_iff]
  exact ⟨fun h => h.2, fun h => ⟨hlt a h, h⟩⟩
theorem spine_drop {f : Nat → Int} {i : Nat} {A B : List Nat} (hs : Spine f i (A ++ B)) (hA : ∀ q ∈ A, f q ≤ f i) (hB : ∀ q ∈ B, f i < f q) : dropAt f i = B.length := by
  have hm : ∀ p, NextAt f p i ↔ p ∈ B := fun p => by
    constructor
    · rintro ⟨h1, h2, h3⟩
      rcases List.mem_append.mp ((hs.2 p).mpr ⟨h1, h3⟩) with z | z
      · have := hA p z; omega
      · exact z
    · intro z
      obtain ⟨h1, h2⟩ := (hs.2 p).mp (List.mem_append_right _ z)
      exact ⟨h1, hB p z, h2⟩
  have nd : B.Nodup := (List.pairwise_append.mp hs.1).2.1.imp fun h => Nat.ne_of_lt h
  have hlt : ∀ q ∈ B, q < i := fun q hq => ((hs.2 q).mp (List.mem_append_right _ hq)).1
  unfold dropAt
  rw [← count_mem nd hlt]
  refine List.countP_congr fun p _ => ?_
  simp [hm p]
theorem dropAt_congr {f g : Nat → Int} {k : Nat} (h : ∀ q, q ≤ k → f q = g q) : dropAt f k = dropAt g k := by
  unfold dropAt
  refine List.countP_congr fun p hp => ?_
  have hp := List.mem_range.mp hp
  simp only [decide_eq_true_eq]
  constructor
  · rintro ⟨a, b, c⟩
    exact ⟨a, by rw [← h k (Nat.le_refl _), ← h p (by omega)]; exact b, fun s s1 s2 => by rw [← h p (by omega), ← h s (by omega)]; exact c s s1 s2⟩
  · rintro ⟨a, b, c⟩
    exact ⟨a, by rw [h k (Nat.le_refl _), h p (by omega)]; exact b, fun s s1 s2 => by rw [h p (by omega), h s (by omega)]; exact c s s1 s2⟩
def HungD (n i : Nat) (S : List Nat) (es : List Int) (ds : List Nat) : Prop := ∃ f : Nat → Int, Spine f i S ∧ S.Pairwise (fun q r => f q + 2 ^ (n - i) ≤ f r) ∧ (∀ p, p < i → ElderIs f i p (es.getD p 0)) ∧ ∀ k, k < i → dropAt f k = ds.getD k 0
theorem HungD.lt {n i : Nat} {S ds : List Nat} {es : List Int} (h : HungD n i S es ds) : ∀ q ∈ S, q < i := by
  obtain ⟨f, hS, _⟩ := h
  exact fun q hq => ((hS.2 q).mp hq).1
theorem HungD.step {n i : Nat} {A B ds : List Nat} {es : List Int} (h : HungD n i (A ++ B) es ds) (hi : i < n) (hl : es.length = n) (he : es.getD i 0 = -1) (hd : ds.getD i 0 = B.length) : HungD n (i + 1) (A ++ [i]) (setE es A B i) ds := by
  have hlt := h.lt
  obtain ⟨f, hS, hg, hE, hD⟩ := h
  have eD : (2 : Int) ^ (n - i) = 2 * 2 ^ (n - (i + 1)) := by
    rw [show n - i = n - (i + 1) + 1 by omega, Int.pow_succ, Int.mul_comm]
  have pD : (0 : Int) < 2 ^ (n - (i + 1)) := Int.pow_pos (by decide)
  rw [eD] at hg
  generalize hDD : (2 : Int) ^ (n - (i + 1)) = D at hg pD
  have hgA := (List.pairwise_append.mp hg).1
  have hgB := (List.pairwise_append.mp hg).2.1
  have hgX := (List.pairwise_append.mp hg).2.2
  obtain ⟨v, vA, vB⟩ : ∃ v : Int, (∀ q ∈ A, f q + D ≤ v) ∧ ∀ q ∈ B, v < f q := by
    cases B with
    | cons b Br =>
      refine ⟨f b - D, fun q hq => ?_, fun q hq => ?_⟩
      · have := hgX q hq b (by simp); omega
      · rcases List.mem_cons.mp hq with rfl | hq
        · omega
        · have := (List.pairwise_cons.mp hgB).1 q hq; omega
    | nil =>
      rcases snoc_cases A with rfl | ⟨A', a, rfl⟩
      · exact ⟨0, (fun q hq => by cases hq), fun q hq => by cases hq⟩
      · refine ⟨f a + D, fun q hq => ?_, fun q hq => by cases hq⟩
        rcases List.mem_append.mp hq with hq | hq
        · have := (List.pairwise_append.mp hgA).2.2 q hq a (by simp); omega
        · rw [List.mem_singleton.mp hq]; omega
  have gi : (fun q => if q = i then v else f q) i = v := if_pos rfl
  have gq : ∀ q, q < i → (fun q => if q = i then v else f q) q = f q := fun q hq => if_neg (by omega)
  generalize (fun q => if q = i then v else f q) = g at gi gq
  have hag : ∀ q, q < i → f q = g q := fun q hq => (gq q hq).symm
  have lA : ∀ q ∈ A, q < i := fun q hq => hlt q (List.mem_append_left _ hq)
  have lB : ∀ q ∈ B, q < i := fun q hq => hlt q (List.mem_append_right _ hq)
  have sA : ∀ q ∈ A, g q ≤ g i := fun q hq => by rw [gi, gq q (lA q hq)]; have := vA q hq; omega
  have sB : ∀ q ∈ B, g i < g q := fun q hq => by rw [gi, gq q (lB q hq)]; exact vB q hq
  have SS := spine_step (f := g) (i := i) (A := A) (B := B) (spine_congr hag hS) sA sB
  refine ⟨g, SS.1, ?_, fun p hp => ?_, fun k hk => ?_⟩
  · rw [hDD]
    refine List.pairwise_append.mpr ⟨?_, List.pairwise_singleton _ _, fun q hq r hr => ?_⟩
    · refine hgA.imp_of_mem fun {q r} hq hr z => ?_
      rw [gq q (lA q hq), gq r (lA r hr)]; omega
    · rw [List.mem_singleton.mp hr, gi, gq q (lA q hq)]; exact vA q hq
  · have hbi : ∀ b, B.head? = some b → b ≠ i := fun b hb => by
      have := lB b (List.mem_of_head? hb); omega
    rw [setE_at _ _ _ _ _ (by omega) hbi]
    by_cases z : p = i
    · subst z
      rw [if_pos rfl, he]; exact SS.2.1
    · rw [if_neg z]
      exact SS.2.2 p _ (by omega) (elder_congr hag (by omega) (hE p (by omega)))
  · by_cases z : k = i
    · subst z
      rw [hd]; exact spine_drop (spine_congr hag hS) sA sB
    · rw [← dropAt_congr (f := f) (g := g) (k := k) (fun q hq => hag q (by omega))]
      exact hD k (by omega)

end L2


set_option Elab.async false
set_option linter.all false
set_option maxRecDepth 100000
set_option maxHeartbeats 1000000
namespace L2
open PySem PySem.Spec PyProof.Rows PySem.W

end L2
namespace L2
open PySem PySem.Spec PyProof.Rows PySem.W

section
variable {prog : Program} {w : World} {A : Around} {E : Value → Shared → Prop} {s : Shared}
end
def Itrv (lo : Int) (n : Nat) : It := ⟨fun i _ => i < n, fun i H x H' => H' = H ∧ x = .int (lo + n - 1 - i), fun i _ => n ≤ i⟩
section
variable {X : Cx} {tg : Expr}
def iRevR (ta : TA) : TI := fun σ H R => ta σ H fun vs H1 => ∃ (a : Addr) (lo hi : Int), vs = [.ref a] ∧ H1 a = some (.rng lo hi) ∧ -(2 ^ 62) ≤ lo ∧ lo < 2 ^ 62 ∧ -(2 ^ 62) ≤ hi ∧ hi < 2 ^ 62 ∧ R (Itrv lo (hi - lo).toNat) H1
end
end L2
namespace L2

end L2


set_option Elab.async false
set_option linter.all false
set_option maxRecDepth 100000
set_option maxHeartbeats 1000000
namespace L2
open PySem PySem.Spec PyProof.Rows PySem.W
section
variable {X : Cx}

def rMulS : R2 := fun x y H Q => ∃ (i : Str) (n : Int), x = .str i ∧ y = .int n ∧ -1000 ≤ n ∧ n ≤ 1000 ∧ i.length ≤ 1000 ∧ Q (.str (Txt.mul i n)) H
def rJoin (K : Frag) : V → List V → Hp → VK → Prop := fun x xs H Q => ∃ (sep : Str) (a : Addr) (ss : List Str), x = .str sep ∧ xs = [.ref a] ∧ SqL K H a (ss.map V.str) ∧ JoinOk sep ss = true ∧ Q (.str (Txt.join sep ss)) H
def Its (x : Str) : It := ⟨fun i _ => i < x.cps.size, fun i H v H' => H' = H ∧ ∃ c, x.cps[i]? = some c ∧ v = .str ⟨#[c]⟩, fun i _ => x.cps.size ≤ i⟩
def iStr (tl : TE) : TI := fun σ H R => tl σ H fun x H1 => ∃ y : Str, x = .str y ∧ y.cps.all (· < 128) = true ∧ R (Its y) H1
end

end L2
namespace L2
open PySem PySem.Spec PyProof.Rows PySem.W
end L2
namespace L2
open PySem PySem.Spec PyProof.Rows PySem.W

def rSumT (K : Frag) : List V → Hp → VK → Prop := fun xs H Q => ∃ (p : Addr) (ns : List Int), xs = [.ref p] ∧ SqT K H p (ns.map V.int) ∧ Q (.int ns.sum) H
end L2


set_option Elab.async false
set_option linter.all false
set_option maxRecDepth 100000
set_option maxHeartbeats 1000000
namespace L2
open PySem PySem.Spec PyProof.Rows PySem.W
section
variable {X : Cx}

end
end L2


set_option Elab.async false
set_option linter.all false
set_option maxRecDepth 100000
set_option maxHeartbeats 1000000
namespace L2
open PySem PySem.Spec PyProof.Rows PySem.W
section
variable {X : Cx}

def rCountS : V → List V → Hp → VK → Prop := fun x xs H Q => ∃ a b : Str, x = .str a ∧ xs = [.str b] ∧ Q (.int (Txt.count a b)) H
def rRstrip : V → List V → Hp → VK → Prop := fun x xs H Q => ∃ a b : Str, x = .str a ∧ xs = [.str b] ∧ a.length ≤ sizeLine ∧ Q (.str (Txt.rstripChars a b)) H
def rLenS : List V → Hp → VK → Prop := fun xs H Q => ∃ a : Str, xs = [.str a] ∧ a.length ≤ sizeLine ∧ Q (.int (a.length : Nat)) H
end

end L2


set_option Elab.async false
set_option linter.all false
set_option maxRecDepth 100000
set_option maxHeartbeats 1000000
namespace L2

def Ok : Nat → List Nat → Prop
  | _, [] => True
  | st, d :: ds => d ≤ st ∧ Ok (st - d + 1) ds
end L2
namespace L2

end L2
namespace L2
end L2
namespace L2
open PySem PySem.Spec PyProof.Rows PySem.W
end L2


set_option Elab.async false
set_option linter.all false
set_option maxRecDepth 100000
set_option maxHeartbeats 1000000
namespace L2
open PySem PySem.Spec PyProof.Rows PySem.W

section
variable {X : Cx}
def rRepU : R2 := fun x y H Q => ∃ (a : Addr) (n : Int) (xs : List V), x = .ref a ∧ y = .int n ∧ H a = some (.tup xs) ∧ xs ≠ [] ∧ xs.length ≤ 1000 ∧ -1000 ≤ n ∧ n < 1000 ∧ ∀ (p : Addr) H', Same H H' → H' p = some (.tup (List.replicate n.toNat xs).flatten) → Q (.ref p) H'
end
end L2


set_option Elab.async false
set_option linter.all false
set_option maxRecDepth 100000
set_option maxHeartbeats 1000000
namespace L2
end L2


set_option Elab.async false
set_option linter.all false
set_option maxRecDepth 100000
set_option maxHeartbeats 1000000

namespace L2
open PySem PySem.Spec PyProof.Rows PySem.W
end L2


set_option Elab.async false
set_option linter.all false
set_option maxRecDepth 100000
set_option maxHeartbeats 1000000

namespace L2
open PySem PySem.Spec PyProof.Rows PySem.W
section
variable {X : Cx}
def rRemP : V → List V → Hp → VK → Prop := fun x xs H Q => ∃ a b : Str, x = .str a ∧ xs = [.str b] ∧ a.length ≤ sizeLine ∧ Q (.str (Txt.removeprefix a b)) H
def rIsAsc : V → List V → Hp → VK → Prop := fun x xs H Q => ∃ a : Str, x = .str a ∧ xs = [] ∧ Q (.bl (Txt.isascii a)) H
def rIsDig : V → List V → Hp → VK → Prop := fun x xs H Q => ∃ a : Str, x = .str a ∧ xs = [] ∧ Q (.bl (Txt.isdigit a)) H
def rStarts : V → List V → Hp → VK → Prop := fun x xs H Q => ∃ a b : Str, x = .str a ∧ xs = [.str b] ∧ Q (.bl (Txt.startswith a b)) H
def rStrI : List V → Hp → VK → Prop := fun xs H Q => ∃ i : Int, xs = [.int i] ∧ i.natAbs.log2 < 1920 ∧ Q (.str (Str.ofString (toString i))) H
def rIntS : List V → Hp → VK → Prop := fun xs H Q => ∃ (a : Str) (n : Int), xs = [.str a] ∧ PySem.intText? a = some n ∧ a.length ≤ 640 ∧ Q (.int n) H
def rSplit : V → List V → Hp → VK → Prop := fun x xs H Q => ∃ a b : Str, x = .str a ∧ xs = [.str b] ∧ (b.length == 0) = false ∧ a.length ≤ 100000 ∧ ∀ p, H p = none → Q (.ref p) (upd H p (.lst ((Txt.split a b).map V.str)))
end
end L2
namespace L2
open PySem PySem.Spec PyProof.Rows PySem.W

abbrev cds (x : Str) : List Nat := x.cps.toList
def dg (m : Nat) : List Nat := (Nat.toDigits 10 m).map Char.toNat
def numS (i : Int) : Str := Str.ofString (toString i)
structure NumFacts (i : Int) : Prop where
  len : (numS i).length ≤ 61
  fig : ∃ m, cds (Txt.removeprefix (numS i) (Str.ofString "-")) = dg m ∧ (m = 0 → i = 0) ∧ m < 10 ^ 60
  val : PySem.intText? (numS i) = some i
end L2


set_option Elab.async false
set_option linter.all false
set_option maxRecDepth 100000
set_option maxHeartbeats 1000000

namespace L2
open PySem PySem.Spec PyProof.Rows PySem.W

section
variable {X : Cx} {a : Expr} {ta : TE} {pos : Pos}

def tFldC (C : Addr) (ta : TE) (f : Str) : TE := fun σ H Q => ta σ H fun x H1 => ∃ (o dx : Addr) (fs : List (Str × V)) (v : V), x = .ref o ∧ H1 o = some (.ins C dx fs) ∧ fs.lookup f = some v ∧ Q v H1
def sFldC (C : Addr) (ta tv : TE) (f : Str) : TS := fun D σ H => tv σ H fun y H1 => ta σ H1 fun x H2 => ∃ (o dx : Addr) (fs : List (Str × V)), x = .ref o ∧ H2 o = some (.ins C dx fs) ∧ fs.length < 1000 ∧ D.nx σ (upd H2 o (.ins C dx (putF f y fs)))
end
end L2


set_option Elab.async false
set_option linter.all false
set_option maxRecDepth 100000
set_option maxHeartbeats 1000000
namespace L2
open PySem PySem.Spec PyProof.Rows

section
variable {κ : Type} [DecidableEq κ]
def valV (kvs : List (κ × V)) (k : κ) : Option V := (kvs.find? fun kv => decide (kv.1 = k)).map (·.2)

def putK (kvs : List (κ × V)) (k : κ) (v : V) : List (κ × V) :=
  if (kvs.any fun kv => decide (kv.1 = k)) = true then kvs.map (fun kv => if kv.1 = k then (kv.1, v) else kv) else kvs ++ [(k, v)]
def dropK (kvs : List (κ × V)) (k : κ) : List (κ × V) := kvs.filter fun kv => decide (kv.1 ≠ k)

theorem valV_pos {p : κ × V} {r : List (κ × V)} {k : κ} (e : p.1 = k) : valV (p :: r) k = some p.2 := by simp [valV, List.find?_cons, e]
theorem valV_neg {p : κ × V} {r : List (κ × V)} {k : κ} (e : ¬ p.1 = k) : valV (p :: r) k = valV r k := by simp [valV, List.find?_cons, e]
theorem RelO.getD {o : Option V} {u : Option Value} {d : V} {d' : Value} (r : RelO o u) (rd : RelV d d') : RelV (o.getD d) (u.getD d') := by
  cases o with
  | none => cases u with
    | none => exact rd
    | some _ => exact (show False from r).elim
  | some _ => cases u with
    | none => exact (show False from r).elim
    | some _ => exact r


theorem KV.val {kvs : List (κ × V)} {vs : List (κ × Value)} (r : KV kvs vs) (k : κ) : RelO (valV kvs k) (valueAt vs k) := by
  unfold KV at r
  induction r with
  | nil => exact True.intro
  | @cons p q ps qs h t ih =>
    obtain ⟨h1, h2⟩ := h
    by_cases e : p.1 = k
    · have e' : q.1 = k := h1.symm.trans e
      have b : valueAt (q :: qs) k = some q.2 := by simp [valueAt, List.find?_cons, e']
      rw [valV_pos e, b]; exact h2
    · have e' : ¬ q.1 = k := fun z => e (h1.trans z)
      have b : valueAt (q :: qs) k = valueAt qs k := by simp [valueAt, List.find?_cons, e']
      rw [valV_neg e, b]; exact ih
theorem KV.any {kvs : List (κ × V)} {vs : List (κ × Value)} (r : KV kvs vs) (k : κ) : (kvs.any fun kv => decide (kv.1 = k)) = vs.any fun kv => decide (kv.1 = k) := by
  unfold KV at r
  induction r with
  | nil => rfl
  | cons h t ih => rw [List.any_cons, List.any_cons, ih, h.1]
theorem KV.drop {kvs : List (κ × V)} {vs : List (κ × Value)} (r : KV kvs vs) (k : κ) : KV (dropK kvs k) (without vs k) := by
  unfold KV at r ⊢
  unfold dropK without
  induction r with
  | nil => exact .nil
  | @cons p q ps qs h t ih =>
    obtain ⟨h1, h2⟩ := h
    rw [List.filter_cons, List.filter_cons]
    by_cases e : p.1 = k
    · have a : ¬ decide (p.1 ≠ k) = true := by simp [e]
      have b : ¬ decide (q.1 ≠ k) = true := by simp [h1.symm.trans e]
      rw [if_neg a, if_neg b]; exact ih
    · have e' : ¬ q.1 = k := fun z => e (h1.trans z)
      have a : decide (p.1 ≠ k) = true := by simp [e]
      have b : decide (q.1 ≠ k) = true := by simp [e']
      rw [if_pos a, if_pos b]; exact .cons ⟨h1, h2⟩ ih
theorem KV.keys {kvs : List (κ × V)} {vs : List (κ × Value)} (r : KV kvs vs) : kvs.map (·.1) = vs.map (·.1) := by
  unfold KV at r
  induction r with
  | nil => rfl
  | cons h t ih => rw [List.map_cons, List.map_cons, ih, h.1]
theorem KV.length {kvs : List (κ × V)} {vs : List (κ × Value)} (r : KV kvs vs) : kvs.length = vs.length := Paired.length r
end



abbrev KT (H : Hp) : List (List Key × V) → List (List Key × Addr × Value) → Prop := Paired fun p q => p.1 = q.1 ∧ H q.2.1 = some (.tup (p.1.map kV)) ∧ RelV p.2 q.2.2
theorem KT.val {H : Hp} {kvs : List (List Key × V)} {xs : List (List Key × Addr × Value)} (r : KT H kvs xs) (k : List Key) : RelO (valV kvs k) ((atKey xs k).map (·.2)) := by
  induction r with
  | nil => exact True.intro
  | @cons p q ps qs h t ih =>
    obtain ⟨h1, _, h2⟩ := h
    by_cases e : p.1 = k
    · have e' : q.1 = k := h1.symm.trans e
      have b : atKey (q :: qs) k = some q.2 := by simp [atKey, List.find?_cons, e']
      rw [valV_pos e, b]; exact h2
    · have e' : ¬ q.1 = k := fun z => e (h1.trans z)
      have b : atKey (q :: qs) k = atKey qs k := by simp [atKey, List.find?_cons, e']
      rw [valV_neg e, b]; exact ih
theorem KT.keeps {H H' : Hp} {kvs : List (List Key × V)} {xs : List (List Key × Addr × Value)} (r : KT H kvs xs) (ht : ∀ b ys, H b = some (.tup ys) → H' b = some (.tup ys)) : KT H' kvs xs :=
  Paired.mapP r fun _ _ z => ⟨z.1, ht _ _ z.2.1, z.2.2⟩

section
variable {P : Program} {w : World} {H : Hp} {h : Heap} {a : Addr}
end


def DGet (H : Hp) (a : Addr) (y : V) (r : Option V) : Prop :=
  (∃ kvs k, Rd H a (.dK kvs) ∧ y = kV k ∧ r = valV kvs k) ∨ ∃ kvs k b, Rd H a (.dT kvs) ∧ y = .ref b ∧ H b = some (.tup (k.map kV)) ∧ r = valV kvs k

def DPut (H : Hp) (a : Addr) (y v : V) (H' : Hp) : Prop :=
  (∃ kvs k, H a = some (.dK kvs) ∧ y = kV k ∧ kvs.length < sizeLine ∧ H' = upd H a (.dK (putK kvs k v))) ∨
  ∃ kvs k b, H a = some (.dT kvs) ∧ y = .ref b ∧ H b = some (.tup (k.map kV)) ∧ kvs.length < sizeLine ∧ H' = upd H a (.dT (putK kvs k v))
theorem DGet.k {H : Hp} {a : Addr} {kvs : List (Key × V)} {k : Key} (e : H a = some (.dK kvs)) : DGet H a (kV k) (valV kvs k) := .inl ⟨kvs, k, .inl e, rfl, rfl⟩
theorem DGet.t {H : Hp} {a b : Addr} {kvs : List (List Key × V)} {k : List Key} (e : H a = some (.dT kvs)) (eb : H b = some (.tup (k.map kV))) : DGet H a (.ref b) (valV kvs k) := .inr ⟨kvs, k, b, .inl e, rfl, eb, rfl⟩
theorem DPut.k {H : Hp} {a : Addr} {kvs : List (Key × V)} {k : Key} {v : V} (e : H a = some (.dK kvs)) (hl : kvs.length < sizeLine) : DPut H a (kV k) v (upd H a (.dK (putK kvs k v))) := .inl ⟨kvs, k, e, rfl, hl, rfl⟩
theorem DPut.t {H : Hp} {a b : Addr} {kvs : List (List Key × V)} {k : List Key} {v : V} (e : H a = some (.dT kvs)) (eb : H b = some (.tup (k.map kV))) (hl : kvs.length < sizeLine) :
    DPut H a (.ref b) v (upd H a (.dT (putK kvs k v))) := .inr ⟨kvs, k, b, e, rfl, eb, hl, rfl⟩


section
variable {X : Cx} {pins : List (Addr × Obj)} {σ : St} {H : Hp} {s : Shared} {a : Addr} {y v : V} {u r : Value} {o : Option V} {A : Around} {E : Value → Shared → Prop}

theorem Inv.big (I : Inv X pins σ H s) : sysModules < s.heap.objs.size := by
  have h : mainGlobals < s.heap.objs.size := (I.mod.glob.keeps I.bk).lt
  exact Nat.lt_trans (by decide) h


end

section
variable {X : Cx} {pins : List (Addr × Obj)} {σ : St} {H : Hp} {s : Shared} {a : Addr} {kvs : List (Key × V)} {k : Key} {u : Value} {A : Around} {E : Value → Shared → Prop}

end




def tDGet (td ty : TE) : TE := fun σ H Q => td σ H fun x H1 => ty σ H1 fun y H2 => ∃ a v, x = .ref a ∧ DGet H2 a y (some v) ∧ Q v H2

def tDIn (ty td : TE) : TE := fun σ H Q => ty σ H fun y H1 => td σ H1 fun x H2 => ∃ a o, x = .ref a ∧ DGet H2 a y o ∧ Q (.bl o.isSome) H2
def tDNotIn (ty td : TE) : TE := fun σ H Q => ty σ H fun y H1 => td σ H1 fun x H2 => ∃ a o, x = .ref a ∧ DGet H2 a y o ∧ Q (.bl (!o.isSome)) H2

def sDPut (td ty tv : TE) : TS := fun D σ H => tv σ H fun v H1 => td σ H1 fun x H2 => ty σ H2 fun y H3 => ∃ a H4, x = .ref a ∧ DPut H3 a y v H4 ∧ D.nx σ H4

section
variable {X : Cx} {o i e value : Expr} {pos pos' tpos : Pos} {td ty tv : TE}
end



def tDNewK : TE := fun _ H Q => ∀ p, H p = none → Q (.ref p) (upd H p (.dK []))
def tDNewT : TE := fun _ H Q => ∀ p, H p = none → Q (.ref p) (upd H p (.dT []))
section
variable {X : Cx} {pos : Pos}
end


structure M1 (X : Cx) (o : Expr) (m : Str) (apos : Pos) (e : Expr) (cpos : Pos) : Prop where
  base : attributeBase o m X.env (eval o X.env) = eval o X.env
  few : ((backTo cpos (starEach [e] X.env)).all (fun x => !x.1) && (backToKw cpos (keywordEach [] X.env)).all (fun x => x.1.isSome)
    && decide (([e] : List Expr).length + ([] : List Keyword).length + (if ([] : List Keyword).isEmpty then 0 else 1) < 30)) = true
  line : (apos.endLine == cpos.line) = true
  trees : backTo cpos (starEach [e] X.env) = [(false, eval e X.env)]
structure M2 (X : Cx) (o : Expr) (m : Str) (apos : Pos) (e f : Expr) (cpos : Pos) : Prop where
  base : attributeBase o m X.env (eval o X.env) = eval o X.env
  few : ((backTo cpos (starEach [e, f] X.env)).all (fun x => !x.1) && (backToKw cpos (keywordEach [] X.env)).all (fun x => x.1.isSome)
    && decide (([e, f] : List Expr).length + ([] : List Keyword).length + (if ([] : List Keyword).isEmpty then 0 else 1) < 30)) = true
  line : (apos.endLine == cpos.line) = true
  trees : backTo cpos (starEach [e, f] X.env) = [(false, eval e X.env), (false, eval f X.env)]


def IsD (H : Hp) (a : Addr) : Prop := (∃ kvs, Rd H a (.dK kvs)) ∨ ∃ kvs, Rd H a (.dT kvs)
section
variable {X : Cx} {pins : List (Addr × Obj)} {σ : St} {H : Hp} {s : Shared} {a : Addr} {y d : V} {u r : Value} {o : Option V} {A : Around} {E : Value → Shared → Prop}

end

section
variable {X : Cx} {o e f : Expr} {apos cpos : Pos} {td ty tx : TE}
end


section
variable {κ : Type} [DecidableEq κ]
end
end L2


set_option Elab.async false
set_option linter.all false
set_option maxRecDepth 100000
set_option maxHeartbeats 1000000

namespace L2
open PySem PySem.Spec PyProof.Rows PySem.W PySem.Calls
section
variable {X : Cx}
def rSortD : List V → Hp → VK → Prop := fun xs H Q => ∃ (d : Addr) (kvs : List (Key × V)) (ns : List Int), xs = [.ref d] ∧ H d = some (.dK kvs) ∧ kvs.map (·.1) = ns.map Sum.inl ∧ ns.length < 64 ∧
  ∀ (ns' : List Int) (l : Addr), ns'.Perm ns → ns'.Pairwise (· ≤ ·) → H l = none → Q (.ref l) (upd H l (.lst (ns'.map V.int)))
end
end L2


set_option Elab.async false
set_option linter.all false
set_option maxRecDepth 100000
set_option maxHeartbeats 1000000

namespace L2
open PySem PySem.Spec PyProof.Rows PySem.W
section
variable {X : Cx}
def rCatU : R2 := fun x y H Q => ∃ (a b : Addr) (xs ys : List V), x = .ref a ∧ y = .ref b ∧ H a = some (.tup xs) ∧ H b = some (.tup ys) ∧ xs.length + ys.length ≤ sizeLine ∧ ∀ (p : Addr) H', Same H H' → H' p = some (.tup (xs ++ ys)) → Q (.ref p) H'
def rSlV : V → Option Int → Option Int → Hp → VK → Prop := fun x lo hi H Q => ∃ a xs, x = .ref a ∧ H a = some (.tup xs) ∧ ∀ p H', Same H H' → H' p = some (.tup (cutV xs lo hi)) → Q (.ref p) H'
def rCatK (K : Frag) : R2 := fun x y H Q => ∃ (a b : Addr) (xs ys : List V), x = .ref a ∧ y = .ref b ∧ SqL K H a xs ∧ SqL K H b ys ∧ xs.length + ys.length ≤ sizeLine ∧ ∀ p, H p = none → Q (.ref p) (upd H p (.lst (xs ++ ys)))
theorem op_catK {K : Frag} (hK : X.K = K) : OpR X (binaryOp .Add) (rCatK K) := by
  subst hK
  intro pins s σ H x y v u Q I rx ry h
  obtain ⟨a, b, xs, ys, rfl, rfl, ha, hb, hz, q⟩ := h
  cases rx
  cases ry
  obtain ⟨its, r1, p1, _⟩ := I.list ha
  obtain ⟨its2, r2, p2, _⟩ := I.list hb
  obtain ⟨⟨c1, d1, x1, l1⟩, e1, k1, n1, y1⟩ := p1.isList
  obtain ⟨⟨c2, d2, x2, l2⟩, e2, k2, n2, y2⟩ := p2.isList
  simp only at k1 y1 k2 y2
  subst k1 y1 k2 y2
  refine concat_meets ⟨_, e1, rfl⟩ ⟨_, e2, rfl⟩ noFill_list_add seq_list_add PySem.F.slot_list_add PySem.F.entry_list_add (PySem.F.args_list_add_2 _ _) (list_addW a b its.toArray its2.toArray n1 n2 d1 d2 l1 l2 (by rw [List.size_toArray, List.size_toArray, ← r1.length, ← r2.length]; exact hz)) ⟨e1, e2, ?_⟩
  have ea : its.toArray ++ its2.toArray = (its ++ its2).toArray := by simp
  rw [ea]
  exact ⟨.ref _, _, I.lnew (t' := s.toks) (r1.append r2) (by rw [List.length_append]; exact hz), rfl, q _ I.fresh⟩
end
end L2


set_option Elab.async false
set_option linter.all false
set_option maxRecDepth 100000
set_option maxHeartbeats 1000000

namespace L2
open PySem PySem.Spec PyProof.Rows PySem.W
def TrisL (H : Hp) (as : List Addr) (L : List (List V)) : Prop := as.length = L.length ∧ ∀ i (h1 : i < as.length) (h2 : i < L.length), H as[i] = some (.tup L[i])
theorem TrisL.same {H H' : Hp} {as : List Addr} {L : List (List V)} (h : TrisL H as L) (s : Same H H') : TrisL H' as L := ⟨h.1, fun i i1 i2 => s _ _ (h.2 i i1 i2)⟩
theorem TrisL.nil {H : Hp} : TrisL H [] [] := ⟨rfl, fun i h => absurd h (by simp)⟩
theorem TrisL.push {H : Hp} {as : List Addr} {L : List (List V)} {u : Addr} {r : List V} (h : TrisL H as L) (hu : H u = some (.tup r)) : TrisL H (as ++ [u]) (L ++ [r]) := by
  refine ⟨by simp [h.1], fun i i1 i2 => ?_⟩
  have hl := h.1
  by_cases e : i < as.length
  · rw [List.getElem_append_left e, List.getElem_append_left (by omega)]; exact h.2 i e (by omega)
  · have : i = as.length := by simp at i1; omega
    subst this
    have e1 : (as ++ [u])[as.length]'i1 = u := by simp
    have e2 : (L ++ [r])[as.length]'i2 = r := by simp [hl]
    rw [e1, e2]; exact hu
def TrisAt (H : Hp) (c : Addr) (L : List (List V)) : Prop := ∃ as : List Addr, H c = some (.lst (as.map V.ref)) ∧ TrisL H as L
theorem TrisAt.same {H H' : Hp} {c : Addr} {L : List (List V)} (h : TrisAt H c L) (s : Same H H') : TrisAt H' c L := by
  obtain ⟨as, h1, h2⟩ := h
  exact ⟨as, s _ _ h1, h2.same s⟩
end L2


set_option Elab.async false
set_option linter.all false
set_option maxRecDepth 100000
set_option maxHeartbeats 1000000

namespace L2
open PySem PySem.Spec PyProof.Rows PySem.W

def ChB (f : Nat → Int) (N p : Nat) : Prop := NoNext f N p ∧ f N < f p ∧ ∀ q, IsPrev f p q → f q ≤ f N
theorem ChB.unique {f : Nat → Int} {N p p' : Nat} (hp : p < N) (hp' : p' < N) (h : ChB f N p) (h' : ChB f N p') : p = p' := by
  have key : ∀ {p p' : Nat}, p < p' → p' < N → ChB f N p → ChB f N p' → False := fun {p p'} hlt hN h h' => by
    rcases prev_or f p' with z | ⟨q, z⟩
    · have := z p hlt; have := h.1 p' hlt hN; omega
    · have h1 := h'.2.2 q z
      have h2 := h.2.1
      rcases Nat.lt_trichotomy q p with w | w | w
      · have := z.2.2 p w hlt; have := h.1 p' hlt hN; omega
      · rw [w] at h1; omega
      · have := h.1 q w (by have := z.1; omega); omega
  rcases Nat.lt_trichotomy p p' with w | w | w
  · exact (key w hp' h h').elim
  · exact w
  · exact (key w hp h' h).elim

def ChA (f : Nat → Int) (N p : Nat) : Prop := NoPrev (fun i => f (i + 1)) p ∧ f 0 ≤ f (p + 1) ∧ ∀ r, IsNext (fun i => f (i + 1)) N p r → f (r + 1) < f 0
def up1 (e : Int) : Int := if e < 0 then e else e + 1
theorem ChA.unique {f : Nat → Int} {N p p' : Nat} (hp : p < N) (hp' : p' < N) (h : ChA f N p) (h' : ChA f N p') : p = p' := by
  have key : ∀ {p p' : Nat}, p < p' → p' < N → ChA f N p → ChA f N p' → False := fun {p p'} hlt hN h h' => by
    rcases next_or (fun i => f (i + 1)) N p with z | ⟨r, z⟩
    · have := z p' hlt hN; have := h'.1 p hlt; dsimp only at *; omega
    · have h1 := h.2.2 r z
      have h2 := h'.2.1
      rcases Nat.lt_trichotomy r p' with w | w | w
      · have := h'.1 r w; dsimp only at *; omega
      · rw [w] at h1; omega
      · have := z.2.2.2 p' hlt w; have := h'.1 p hlt; dsimp only at *; omega
  rcases Nat.lt_trichotomy p p' with w | w | w
  · exact (key w hp' h h').elim
  · exact w
  · exact (key w hp h' h).elim
end L2


set_option Elab.async false
set_option linter.all false
set_option maxRecDepth 100000
set_option maxHeartbeats 1000000

namespace L2
open PySem PySem.Spec PyProof.Rows PySem.W
section
variable {X : Cx} {a : Expr} {ta : TE} {pos : Pos}
def tMethX (C : Addr) (m : Str) (sp : Sp) (E : St → XK) (ta : TE) (t : TA) : TE := fun σ H Q => ta σ H fun x H1 => ∃ a dx fs, x = .ref a ∧ H1 a = some (.ins C dx fs) ∧ fs.lookup m = none ∧ t σ H1 fun vs H2 => sp (x :: vs) H2 Q (E σ)
end

end L2


set_option Elab.async false
set_option linter.all false
set_option maxRecDepth 100000
set_option maxHeartbeats 1000000
namespace L2
open PySem PySem.Spec PyProof.Rows PySem.W

structure Apart3 (z TI TO i j k a b c : Addr) : Prop where
  own : z ≠ TI ∧ z ≠ TO ∧ z ≠ i ∧ z ≠ j ∧ z ≠ k ∧ TI ≠ TO ∧ TI ≠ i ∧ TI ≠ j ∧ TI ≠ k ∧ TO ≠ i ∧ TO ≠ j ∧ TO ≠ k ∧ i ≠ j ∧ i ≠ k ∧ j ≠ k
  la : a ≠ z ∧ a ≠ TO ∧ a ≠ i ∧ a ≠ j ∧ a ≠ k
  lb : b ≠ z ∧ b ≠ TO ∧ b ≠ i ∧ b ≠ j ∧ b ≠ k
  lc : c ≠ z ∧ c ≠ TO ∧ c ≠ i ∧ c ≠ j ∧ c ≠ k
section
variable {s : Shared} {prog : Program} {w : World} {A : Around} {E : Value → Shared → Prop}
end
abbrev itO (l : Addr) : Obj := { cls := .type "list_iterator", data := .fields #[.ref l, .int 0 0] }
abbrev zA (h : Heap) (a : Addr) : Heap := h.push (itO a)
abbrev zB (h : Heap) (a b : Addr) : Heap := (zA h a).push (itO b)
section
variable {s : Shared} {prog : Program} {w : World} {A : Around} {E : Value → Shared → Prop}
end

def Itz3 (K : Frag) (a b c : Addr) : It :=
  ⟨fun i H => ∃ xs ys us x y u, SqL K H a xs ∧ SqL K H b ys ∧ SqL K H c us ∧ xs[i]? = some x ∧ ys[i]? = some y ∧ us[i]? = some u,
   fun i H v H' => ∃ p x y u, H p = none ∧ v = .ref p ∧ H' = upd H p (.tup [x, y, u]) ∧ (∀ xs, SqL K H a xs → xs[i]? = some x) ∧ (∀ ys, SqL K H b ys → ys[i]? = some y) ∧ ∀ us, SqL K H c us → us[i]? = some u,
   fun i H => ∃ xs ys us, SqL K H a xs ∧ SqL K H b ys ∧ SqL K H c us ∧ (xs.length ≤ i ∨ ys.length ≤ i ∨ us.length ≤ i)⟩
section
variable {X : Cx}
def iZip3 (K : Frag) (ta : TA) : TI := fun σ H R => ta σ H fun vs H1 => ∃ a b c xs ys us, vs = [.ref a, .ref b, .ref c] ∧ SqL K H1 a xs ∧ SqL K H1 b ys ∧ SqL K H1 c us ∧ R (Itz3 K a b c) H1
end
end L2


set_option Elab.async false
set_option linter.all false
set_option maxRecDepth 100000
set_option maxHeartbeats 1000000
namespace L2
open PySem PySem.Spec PyProof.Rows PySem.W
section
variable {X : Cx}

theorem call_max1 (hc : X.calm = true) : CallR X (.builtin "max") (fun xs H Q => ∃ (p : Addr) (ns : List Int), xs = [.ref p] ∧ SqL X.K H p (ns.map V.int) ∧ ns ≠ [] ∧ ∀ m, m ∈ ns → (∀ a ∈ ns, a ≤ m) → Q (.int m) H) := by
  intro pins s σ H xs us Q I r h
  obtain ⟨p, ns, rfl, hp, hne, q⟩ := h
  obtain ⟨u, rfl, ru⟩ := r.one
  cases (show u = Value.ref p from ru)
  obtain ⟨its, rv, pl, hz⟩ := I.list hp
  obtain ⟨ys, e1, e2⟩ := ints_of rv
  have hsz : 0 < ys.size := by
    have := congrArg List.length e2
    rw [List.length_map, Array.length_toList] at this
    cases ns with
    | nil => exact absurd rfl hne
    | cons => simp at this; omega
  refine max_intList (xs := ys) (I.ok.hd hc) (e1 ▸ pl.isList) hsz fun v h' tk hv k => ?_
  obtain ⟨tq, rfl⟩ := intItems_at hv
  obtain ⟨h1, h2⟩ := argBest_gt (numAt ys) (ys.size - 1)
  refine ⟨.int _, H, I.kept k, ⟨tq, rfl⟩, q _ ?_ fun a ha => ?_⟩
  · rw [numAt_eq, e2]; exact getD_mem (by rw [← e2, List.length_map, Array.length_toList]; omega)
  · obtain ⟨jq, hj, rfl⟩ := mem_getD ha
    rw [← e2, List.length_map, Array.length_toList] at hj
    rw [← e2, ← numAt_eq]; exact h2 jq (by omega)
end
end L2


set_option Elab.async false
set_option linter.all false
set_option maxRecDepth 100000
set_option maxHeartbeats 1000000

namespace L2
open PySem PySem.Spec PyProof.Rows PySem.W
section
variable {prog : Program} {w : World} {A : Around} {E : Value → Shared → Prop} {s : Shared} {z TI TO i1 i2 l1 l2 : Addr} {k1 k2 : Nat} {xs ys : Array Value} {a b : Value}

def IsZipG (h : Heap) (z TI TO : Addr) : Prop := ∃ f0 f1 : Value, (f0 = .none ∨ ∃ T : Nat, f0 = rawInt T) ∧ h.get? z = some { cls := .type "zip", dict := none, data := .fields #[f0, f1, .bool false, .ref TI, .ref TO], slots := #[] }
theorem IsZipG.type (hz : IsZipG s.heap z TI TO) : s.TypeIs (.ref z) "zip" := by obtain ⟨f0, f1, _, e⟩ := hz; exact ⟨_, e, rfl⟩
end
section
variable {X : Cx} {pins : List (Addr × Obj)} {σ : St} {H : Hp} {s : Shared}

def Itez (K : Frag) (t u : Bool) (a b : Addr) : It :=
  ⟨fun i H => ∃ xs ys x y, SqB K t H a xs ∧ SqB K u H b ys ∧ xs[i]? = some x ∧ ys[i]? = some y,
   fun i H v H' => ∃ p q x y, H p = none ∧ H q = none ∧ q ≠ p ∧ v = .ref q ∧ H' = upd (upd H p (.tup [x, y])) q (.tup [.int (i : Int), .ref p]) ∧ (∀ xs, SqB K t H a xs → xs[i]? = some x) ∧ ∀ ys, SqB K u H b ys → ys[i]? = some y,
   fun i H => ∃ xs ys, SqB K t H a xs ∧ SqB K u H b ys ∧ (xs.length ≤ i ∨ ys.length ≤ i)⟩
def iEnumZ (K : Frag) (ta : TA) : TI := fun σ H R => ta σ H fun vs H1 => ∃ a b t u xs ys, vs = [.ref a, .ref b] ∧ SqB K t H1 a xs ∧ SqB K u H1 b ys ∧ R (Itez K t u a b) H1
end
end L2


set_option Elab.async false
set_option linter.all false
set_option maxRecDepth 100000
set_option maxHeartbeats 1000000

namespace L2
open PySem PySem.Spec PyProof.Rows PySem.W
section
variable {X : Cx}
theorem pe_bmK {K : Frag} {T : String} {id : String} {name : Str} {r : V → List V → Hp → VK → Prop} {o e : Expr} {es : List Expr} {to : TE} {t : TA} {apos cpos : Pos} (hK : X.K = K) (pa : PlainAttrs T) (slot : Slot T name id) (hty : typeOf (.builtin id) = pure (.type "method_descriptor")) (hm : MtM X id r) (ho : PE X o to) (ha : PA X (e :: es) t)
    (hbase : attributeBase o name X.env (eval o X.env) = eval o X.env := by rfl)
    (hfew : ((backTo cpos (starEach (e :: es) X.env)).all (fun x => !x.1) && (backToKw cpos (keywordEach [] X.env)).all (fun x => x.1.isSome)
      && decide ((e :: es).length + ([] : List Keyword).length + (if ([] : List Keyword).isEmpty then 0 else 1) < 30)) = true := by rfl)
    (hline : (apos.endLine == cpos.line) = true := by rfl) (hs : starEach (e :: es) X.env = (false, eval e X.env) :: starEach es X.env := by rfl) (hplain : (backTo cpos (starEach es X.env)).any (·.1) = false := by rfl) :
    PE X (.Call (.Attribute o name apos) (e :: es) [] cpos) (tBM K T r to t) := by
  subst hK
  exact pe_bm pa slot hty hm ho ha hbase hfew hline hs hplain
end
end L2


set_option Elab.async false
set_option linter.all false
set_option maxRecDepth 100000
set_option maxHeartbeats 1000000

namespace L2
open PySem PySem.Spec PyProof.Rows PySem.W PySem.Calls

def ValsAt (h : Heap) (d : Addr) (vs : List Value) (ep : Nat) : Prop := ∃ (o : Obj) (es : Array DictEntry), h.get? d = some o ∧ o.cls = .type "dict" ∧ o.data = .dict es ep ∧ es.toList.map (·.val) = vs
theorem ValsAt.lt {h : Heap} {d : Addr} {vs : List Value} {ep : Nat} (x : ValsAt h d vs ep) : d < h.objs.size := let ⟨_, _, a, _⟩ := x; Heap.lt_size a
section
variable {prog : Program} {w : World} {A : Around} {E : Value → Shared → Prop} {s : Shared} {va dd ja : Addr} {vs : List Value} {ep i : Nat}
end
section
variable {prog : Program} {w : World} {K : Type} [DecidableEq K] {knd : HeapKind prog w K} {A : Around} {E : Value → Shared → Prop} {s : Shared} {dd ka : Addr} {k : K} {xs : List (K × Addr × Value)} {df : Value}
end
section
variable {X : Cx} {o e f : Expr} {apos cpos : Pos} {td ty tx : TE}

def tDSetD (td ty tx : TE) : TE := fun σ H Q => td σ H fun x H1 => ∃ a, x = .ref a ∧ IsD H1 a ∧ ty σ H1 fun y H2 => tx σ H2 fun z H3 => ∃ kvs k b, H3 a = some (.dT kvs) ∧ y = .ref b ∧ H3 b = some (.tup (k.map kV)) ∧ kvs.length < sizeLine ∧
  (∀ v, valV kvs k = some v → Q v H3) ∧ (valV kvs k = none → Q z (upd H3 a (.dT (kvs ++ [(k, z)]))))
end
section
variable {X : Cx} {o : Expr} {apos cpos : Pos} {td : TE}

def ViewOf (v d : Addr) : Heap → Prop := fun h => h.IsValuesView v d
def tDVals (td : TE) : TE := fun σ H Q => td σ H fun x H1 => ∃ a kvs, x = .ref a ∧ H1 a = some (.dT kvs) ∧ ∀ v, H1 v = none → Q (.ref v) (upd H1 v (.ext (ViewOf v a)))
def rLVals : List V → Hp → VK → Prop := fun xs H Q => ∃ (v a : Addr) (kvs : List (List Key × V)), xs = [.ref v] ∧ H v = some (.ext (ViewOf v a)) ∧ H a = some (.dT kvs) ∧ ∀ l, H l = none → Q (.ref l) (upd H l (.lst (kvs.map (·.2))))
end

def rNInD (K : Frag) : R2 := fun x y H Q => ∃ (q p : Addr) (as : List Addr) (e : Addr → Bool), x = .ref q ∧ y = .ref p ∧ SqL K H p (as.map V.ref) ∧ (∀ a ∈ as, EqD K H 3 (.ref a) x (e a)) ∧ Q (.bl (!as.any e)) H
end L2


set_option Elab.async false
set_option linter.all false
set_option maxRecDepth 100000
set_option maxHeartbeats 1000000
namespace L2
open PySem PySem.Spec PyProof.Rows PySem.W

def cdOf (K : Frag) (f : Addr) : Option Addr := match K.lookup f with
  | some ⟨_, _, .func fd, _⟩ => (match fd.code with | .ref c => some c | _ => none)
  | _ => none
def tabOf (K : Frag) (c : Addr) : Addr := match K.lookup c with
  | some ⟨_, _, .fields vs, _⟩ => (match (vs[11]? : Option Value) with | some (.ref P) => P | _ => 0)
  | _ => 0

def tabP (K : Frag) (mg : Str → Option Value) (x : Str) : Addr := match mg x with
  | some (.ref f) => (match cdOf K f with | some c => tabOf K c | none => 0)
  | _ => 0
def tabQ (q : Str) : HO := .tbl #[.str q 0]
def BM (mg : Str → Option Value) (base : Heap) : Prop :=
  ∃ bm o, mg "__builtins__" = some (.ref bm) ∧ bm ≠ builtinsNs ∧ bm ≠ mainGlobals ∧ base.get? bm = some o ∧ o.cls = .type "module" ∧ o.dict = some builtinsNs ∧ o.data = .plain

def LamO (env : Env) (P : Addr) (q : Str) (params : Arguments) (body : Expr) (scope : Scope) (H : Hp) (f : Addr) : Prop :=
  ∃ c oc vs t cl pm ctv, H f = some (.frz (kla_obj "<lambda>" q params body scope cl pm c ctv) (.own f)) ∧ H c = some (.frz oc (.own P)) ∧ oc.data = .fields vs ∧ vs[1]? = some (.str q t) ∧
    (∀ x c, cl.lookup x = some c → env.cells.lookup x = some c) ∧ (∀ y ∈ scope.names, y.2 = .free → ∃ c, cl.lookup y.1 = some c ∧ env.cells.lookup y.1 = some c)
theorem LamO.same {env : Env} {P : Addr} {q : Str} {params : Arguments} {body : Expr} {scope : Scope} {H H' : Hp} {f : Addr} (h : LamO env P q params body scope H f) (s : Same H H') : LamO env P q params body scope H' f := by
  obtain ⟨c, oc, vs, t, cl, pm, ctv, e1, e2, r⟩ := h
  exact ⟨c, oc, vs, t, cl, pm, ctv, s _ _ e1, s _ _ e2, r⟩
structure LamIn (X : Cx) (P : Addr) (q : Str) : Prop where
  code : ∃ c, X.env.code = .ref c ∧ codeHdIn X.K c P = true
  bm : BM X.mg X.base
  ql : X.env.qual ++ "<lambda>" = q
theorem among_snoc {pos : Pos} {a b : Int} {c cv : Value} : ∀ (l : List Value), TriplesOk l → codeAmong pos (l ++ [rawInt a, rawInt b, c]) = some cv → codeAmong pos l = some cv ∨ cv = c := by
  intro l h e
  fun_induction TriplesOk l with
  | case1 =>
    simp only [List.nil_append, codeAmong, rawInt] at e
    split at e
    · cases e; exact .inr rfl
    · cases e
  | case2 a' t b' u x rest ih =>
    simp only [List.cons_append, codeAmong] at e ⊢
    split at e
    · rename_i hc; rw [if_pos hc]; exact .inl e
    · rename_i hc; rw [if_neg hc]; exact ih h e
  | case3 l h1 h2 => exact h.elim
section
variable {X : Cx}

theorem Inv.lam {pins : List (Addr × Obj)} {σ : St} {H : Hp} {s : Shared} {h' : Heap} {t' : Nat} {P c f : Addr} {q : Str} {oc fo : Obj} {ts : Array Value} {vs : Array Value} {tq : Tok}
    (I : Inv X pins σ H s) (hP : H P = some (tabQ q)) (k : ∀ b o, b ≠ P → s.heap.get? b = some o → h'.get? b = some o) (hts : h'.get? P = some (tabObj ts)) (h3 : TriplesOk ts.toList)
    (hc : H c = some (.frz oc (.own P)) ∨ s.heap.objs.size ≤ c) (hcP : c ≠ P) (hoc : h'.get? c = some oc) (hd : oc.data = .fields vs) (hv : vs[1]? = some (.str q tq)) (hf : s.heap.objs.size ≤ f) (hfc : f ≠ c) (hfo : h'.get? f = some fo)
    (hcodes : ∀ pos cv, codeAmong pos ts.toList = some cv → cv = .ref c ∨ ∃ c2 oc vs t t', cv = .ref c2 ∧ H c2 = some (.frz oc (.own P)) ∧ oc.data = .fields vs ∧ vs[1]? = some (.str q t) ∧ t' = (0 : Tok)) :
    Inv X pins σ (upd (upd H c (.frz oc (.own P))) f (.frz fo (.own f))) { s with heap := h', toks := t' } := by
  have hPlt : P < s.heap.objs.size := I.hok.lt hP
  have hfP : f ≠ P := fun z => by rw [z] at hf; exact absurd (Nat.lt_of_lt_of_le hPlt hf) (Nat.lt_irrefl _)
  have hfn : H f = none := I.hok.fresh hf
  have up : ∀ b o, H b = some o → upd (upd H c (.frz oc (.own P))) f (.frz fo (.own f)) b = some o := fun b o e => by
    have nf : b ≠ f := ne_of_none e hfn
    rw [upd_ne nf]
    rcases hc with hc | hc
    · by_cases z : b = c
      · subst z; rw [upd_same, ← e, hc]
      · rw [upd_ne z]; exact e
    · rw [upd_ne (ne_of_none e (I.hok.fresh hc))]; exact e
  have un : Un X.fs [] H (upd (upd H c (.frz oc (.own P))) f (.frz fo (.own f))) s.heap h' := by
    have nP : ∀ b, H b = none → b ≠ P := fun b n z => by rw [z, hP] at n; cases n
    refine ⟨fun b o e n _ _ => k b o (nP b n) e, fun b o e n _ _ => ⟨o.slots, k b o (nP b n) e⟩, fun b o e n _ => ?_, fun b o e _ => ?_, fun b xs e => up _ _ e, fun b o u e => up _ _ e, fun b ps e => ⟨#[], by rw [up _ _ e]; simp⟩⟩
    · have lt := Heap.lt_size e
      have nf : b ≠ f := fun z => by rw [z] at lt; exact absurd (Nat.lt_of_lt_of_le lt hf) (Nat.lt_irrefl _)
      have nc : b ≠ c := fun z => by
        rcases hc with hc | hc
        · rw [z, hc] at n; cases n
        · rw [z] at lt; exact absurd (Nat.lt_of_lt_of_le lt hc) (Nat.lt_irrefl _)
      rw [upd_ne nf, upd_ne nc]; exact n
    · by_cases z : b = P
      · subst z; exact ⟨_, hts⟩
      · exact ⟨o, k b o z e⟩
  refine I.un un fun b o e => ?_
  by_cases zf : b = f
  · subst zf
    rw [upd_same] at e; cases e
    exact ⟨hfo, _, hfo⟩
  rw [upd_ne zf] at e
  by_cases zc : b = c
  · subst zc
    rw [upd_same] at e; cases e
    exact ⟨hoc, _, hoc⟩
  rw [upd_ne zc] at e
  by_cases zP : b = P
  · subst zP
    rw [hP] at e; cases e
    refine ⟨ts, hts, h3, fun pos cv hcv => ?_⟩
    rcases hcodes pos cv hcv with rfl | ⟨c2, oc2, vs2, t2, t2', e1, e2, e3, e4, _⟩
    · exact ⟨c, oc, vs, q, 0, tq, rfl, by rw [upd_ne (Ne.symm hfc), upd_same], hd, rfl, hv⟩
    · exact ⟨c2, oc2, vs2, q, 0, t2, e1, up _ _ e2, e3, rfl, e4⟩
  · refine (I.hok b o e).stay (fun b2 u hb z => k b2 u ?_ z) (fun b2 z => up _ _ z) (fun b2 xs z => up _ _ z) fun b2 o2 u2 z => up _ _ z
    rcases hb with rfl | hb
    · exact zP
    · intro z; rw [z, hP] at hb; cases hb

def tLam (env : Env) (P : Addr) (q : Str) (params : Arguments) (body : Expr) (scope : Scope) : TE := fun _ H Q => H P = some (tabQ q) ∧ ∀ f H', H f = none → Same H H' → LamO env P q params body scope H' f → Q (.ref f) H'
theorem pe_lam {P : Addr} {q : Str} {params : Arguments} {body : Expr} {scope : Scope} {pos : Pos} (L : LamIn X P q) (hok : compOk X.env.scope scope = true) (hdef : defaultsOf params X.env = ([], []) := by rfl) :
    PE X (.Lambda params body scope pos) (tLam X.env P q params body scope) := by
  intro pins s σ H Q I h
  obtain ⟨hP, h⟩ := h
  obtain ⟨c0, hc0, hcd⟩ := L.code
  have C : CodeHd s.heap c0 P := codeHd_of_K I.kIn hcd
  obtain ⟨bm, ob, b1, b2, b3, b4, b5, b6, b7⟩ := L.bm
  have hbm := I.bs bm ob b4
  have bP : bm ≠ P := fun z => by rw [z, hP] at hbm; cases hbm.2
  have gP : mainGlobals ≠ P := fun z => by
    obtain ⟨o, es, ep, e, _⟩ := I.ok.mod.glob
    have := (I.bs _ _ e).2
    rw [z, hP] at this; cases this
  have hg : s.heap.Ns mainGlobals X.mg := I.ok.mod.glob.keeps I.bk
  have hb : s.heap.BuiltinsAt X.mg P := ⟨bm, ob, b1, b2, b3, bP, hbm.1, b5, b6, b7⟩
  obtain ⟨ts, hts, h3, hco⟩ := I.hok P _ hP
  obtain ⟨cl, hcl, up, hfr⟩ := closure_of (env := X.env) (scope := scope) fun y hy hf => I.ok.has y.1 ((compOk_free hok y hy hf).elim (fun z => .inl z) fun z => .inr z)
  have hco' : ∀ pos cv, codeAmong pos ts.toList = some cv → ∃ c2 oc vs t t', cv = .ref c2 ∧ H c2 = some (.frz oc (.own P)) ∧ oc.data = .fields vs ∧ vs[1]? = some (.str q t) ∧ t' = (0 : Tok) := fun pos cv e => by
    obtain ⟨c, oc, vs, q', t, t', e1, e2, e3, e4, e5⟩ := hco pos cv e
    have e4' : some (Value.str q (0 : Tok)) = some (Value.str q' t) := e4
    cases e4'
    exact ⟨c, oc, vs, t', 0, e1, e2, e3, e5, rfl⟩
  refine kla_eval hdef ?_
  rw [L.ql]
  cases hca : codeAmong pos ts.toList with
  | some cv =>
    obtain ⟨c, oc, vs, tq, t', rfl, e2, e3, e4, _⟩ := hco' pos cv hca
    refine kla_makeFunctionHit (mg := X.mg) hcl I.ok.glob hg hc0 C hts h3 hca hb fun ctv h' tk hk hsz => ?_
    have hoc : s.heap.get? c = some oc := (I.hok c _ e2).1
    have hcP : c ≠ P := fun z => by rw [z, hP] at e2; cases e2
    have lt := Heap.lt_size hoc
    have kk : ∀ b o, s.heap.get? b = some o → (h'.push { cls := .type "function", data := .func (kla_fn "<lambda>" q params body scope cl ((X.mg "__name__").getD .none) (.ref c) ctv) }).get? b = some o := fun b o e => Heap.get?_push_of_some _ (hk b o e)
    have J := I.lam (t' := tk) (f := h'.objs.size) hP (fun b o _ e => kk b o e) (kk _ _ hts) h3 (.inl e2) hcP (kk _ _ hoc) e3 e4 hsz (fun z => by rw [← z] at lt; exact absurd (Nat.lt_of_lt_of_le lt hsz) (Nat.lt_irrefl _)) (Heap.get?_push_size _ rfl) fun p2 cv2 z => .inr (hco' p2 cv2 z)
    have hfn : H h'.objs.size = none := I.hok.fresh hsz
    have ne : c ≠ h'.objs.size := Nat.ne_of_lt (Nat.lt_of_lt_of_le lt hsz)
    refine ⟨.ref h'.objs.size, _, J, rfl, h _ _ hfn (fun b o e => ?_) ⟨c, oc, vs, tq, cl, _, ctv, upd_same, by rw [upd_ne ne, upd_same], e3, e4, up, hfr⟩⟩
    rw [upd_ne (ne_of_none e hfn)]
    by_cases z : b = c
    · subst z; rw [upd_same, ← e, e2]
    · rw [upd_ne z]; exact e
  | none =>
    refine kla_makeFunction (mg := X.mg) hcl I.ok.glob hg hc0 C hts h3 hca gP hb fun c ctv h' tk hx hge hlt hrec htb => ?_
    obtain ⟨c2, oc, vs, tq, e2, hoc, e3, e4⟩ := hrec
    cases e2
    have hsz : s.heap.objs.size ≤ h'.objs.size := Nat.le_trans hge (Nat.le_of_lt hlt)
    have kk : ∀ b o, h'.get? b = some o → (h'.push (kla_obj "<lambda>" q params body scope cl ((X.mg "__name__").getD .none) c ctv)).get? b = some o := fun b o e => Heap.get?_push_of_some _ e
    have hPlt : P < s.heap.objs.size := I.hok.lt hP
    have hcP : c ≠ P := fun z => by rw [z] at hge; exact absurd (Nat.lt_of_lt_of_le hPlt hge) (Nat.lt_irrefl _)
    have tl : (ts ++ #[rawInt pos.line, rawInt pos.col, Value.ref c]).toList = ts.toList ++ [rawInt pos.line, rawInt pos.col, Value.ref c] := by simp
    have J := I.lam (t' := tk) (f := h'.objs.size) (ts := ts ++ #[rawInt pos.line, rawInt pos.col, .ref c]) hP (fun b o nb e => kk b o (hx b o nb e)) (kk _ _ htb) (by rw [tl]; exact TriplesOk_snoc _ _ _ _ h3) (.inr hge) hcP (kk _ _ hoc) e3 e4 hsz (Nat.ne_of_gt hlt) (Heap.get?_push_size _ rfl) fun p2 cv2 z => by
      rw [tl] at z
      rcases among_snoc ts.toList h3 z with y | y
      · exact .inr (hco' p2 cv2 y)
      · exact .inl y
    have hfn : H h'.objs.size = none := I.hok.fresh hsz
    have hcn : H c = none := I.hok.fresh hge
    refine ⟨.ref h'.objs.size, _, J, rfl, h _ _ hfn (fun b o e => ?_) ⟨c, oc, vs, tq, cl, _, ctv, upd_same, by rw [upd_ne (Nat.ne_of_lt hlt), upd_same], e3, e4, up, hfr⟩⟩
    rw [upd_ne (ne_of_none e hfn), upd_ne (ne_of_none e hcn)]; exact e
end
end L2


set_option Elab.async false
set_option linter.all false
set_option maxRecDepth 100000
set_option maxHeartbeats 1000000
namespace L2
open PySem PySem.Spec PyProof.Rows PySem.W


def lamCx (X : Cx) (A' : Around) (Nc : List Str) (q : Str) (scope : Scope) (cl : List (Str × Addr)) (L f c : Addr) (s : Shared) (H : Hp) : Cx where
  prog := X.prog
  w := X.w
  K := X.K
  mg := X.mg
  base := X.base
  A := A'.deeper (envX q scope L f (.ref c) cl)
  N := Nc
  s₀ := s
  H₀ := H
  env := envX q scope L f (.ref c) cl
  outer := X.stack
  stack := envX q scope L f (.ref c) cl :: X.stack
  ex := []
  fn := fun _ => false
  calm := X.calm
  pn := []
  xe := fun _ _ => False
section
variable {X : Cx}
theorem lam_start {pins : List (Addr × Obj)} {σ : St} {H : Hp} {s : Shared} {A' : Around} {Nc : List Str} {js : List (Option Nat)} {q pn : Str} {scope : Scope} {cl : List (Str × Addr)} {h1 : Heap} {tk : Nat} {f c : Addr} {v : V} {u : Value}
    (I : Inv X pins σ H s) (hA : A'.frames = some X.stack) (hh : X.calm = true → A'.handled = none) (hok : compOk X.env.scope scope = true) (htk : takesC X.N Nc scope js 0 = true) (hp0 : Nc[0]? = some pn) (hj0 : js[0]? = some none) (hpl : scope.names.lookup pn = some .local)
    (up : ∀ x c, cl.lookup x = some c → X.env.cells.lookup x = some c) (hfr : ∀ y ∈ scope.names, y.2 = .free → ∃ c, cl.lookup y.1 = some c ∧ X.env.cells.lookup y.1 = some c)
    (r : RelV v u) (old : ∀ b o, s.heap.get? b = some o → h1.get? b = some o) (hns : h1.Ns s.heap.objs.size fun y => [(pn, u)].reverse.lookup y) :
    Inv (lamCx X A' Nc q scope cl s.heap.objs.size f c s H) [] ((iniC js σ).set 0 (some v)) H { s with heap := h1, toks := tk } := by
  have noA : ∀ b : Addr, b ∉ (lamCx X A' Nc q scope cl s.heap.objs.size f c s H).ex := fun b z => absurd (show b ∈ ([] : List Addr) from z) (by simp)
  have kf : ∀ x, ((envX q scope s.heap.objs.size f (.ref c) cl).kindOf x = some .cell ∨ (envX q scope s.heap.objs.size f (.ref c) cl).kindOf x = some .free) → ∃ c, cl.lookup x = some c := fun x hx => by
    rcases hx with z | z
    · exact absurd rfl (compOk_cell hok _ (lookup_mem (show scope.names.lookup x = some .cell from z)))
    · obtain ⟨c, q, _⟩ := hfr _ (lookup_mem (show scope.names.lookup x = some .free from z)) rfl
      exact ⟨c, q⟩
  refine ⟨⟨I.ok.mod, compOk_kind hok, rfl, rfl, Nat.le_refl _, fun x y c e1 e2 => I.ok.inj x y c (up _ _ e1) (up _ _ e2), fun x hx => kf x hx, (fun x c e => nomatch e), hh, Around.frames_deeper hA, .inr ⟨rfl, rfl⟩, fun b z => absurd z (noA b), I.bs, Nat.le_trans I.ok.bsz I.sz, fun b _ _ => noA b, fun b z => absurd z (noA b), I.stack, I.stkFree⟩,
    rfl, I.bare, Un.kept old, ⟨_, hns, fun i x v' e1 e2 e3 => ?_⟩, fun x c e => ?_, I.hok.fresh (Nat.le_refl _), fun x c e => I.freeC x c (up _ _ e), fun p hp => absurd (show p ∈ ([] : List (Addr × Obj)) from hp) (by simp), I.hok.kept old, ?_⟩
  · by_cases hi : i = 0
    · subst hi
      have ex : x = pn := Option.some.inj ((show Nc[0]? = some x from e1).symm.trans hp0)
      subst ex
      have hl : 0 < (iniC js σ).length := by
        unfold iniC
        rw [List.length_map]
        exact (List.getElem?_eq_some_iff.mp hj0).1
      rw [List.getElem?_set_self hl] at e2
      cases e2
      exact ⟨u, r, .inl ⟨hpl, by simp⟩⟩
    · rw [List.getElem?_set_ne (Ne.symm hi)] at e2
      have e2' : (iniC js σ)[i]? = some (some v') := e2
      unfold iniC at e2'
      rw [List.getElem?_map] at e2'
      cases hq : js[i]? with
      | none => rw [hq] at e2'; cases e2'
      | some j0 =>
        cases j0 with
        | none => rw [hq] at e2'; cases e2'
        | some j =>
          rw [hq] at e2'
          simp only [Option.map_some, Option.some.injEq] at e2'
          have e4 : σ[j]? = some (some v') := by
            cases z : σ[j]? with
            | none => rw [z] at e2'; cases e2'
            | some o => rw [z] at e2'; simp only [Option.join_some] at e2'; rw [e2']
          obtain ⟨y, y1, y2, y3⟩ := takesC_at htk hq
          rw [Nat.zero_add] at y1
          have : x = y := Option.some.inj ((show Nc[i]? = some x from e1).symm.trans y1)
          subst this
          have hm := lookup_mem y3
          obtain ⟨c1, h1', h2'⟩ := hfr _ hm rfl
          have hk := compOk_free hok _ hm rfl
          obtain ⟨m0, hn0, hl0⟩ := I.loc
          obtain ⟨u', r', l⟩ := hl0 j x v' y2 e4 (hk.elim (fun z => .inr (.inl z)) fun z => .inr (.inr z))
          refine ⟨u', r', .inr ⟨.inr y3, c1, h1', ?_⟩⟩
          rcases l with ⟨lk, _⟩ | ⟨_, c', c3, c4⟩
          · rcases hk with z | z
            · rw [show X.env.kindOf x = some .cell from z] at lk; cases lk
            · rw [show X.env.kindOf x = some .free from z] at lk; cases lk
          · rw [h2'] at c3; cases c3
            obtain ⟨oc, w1, w2⟩ := c4
            exact ⟨oc, old _ _ w1, w2⟩
  · obtain ⟨v, oc, w1, w2⟩ := I.cell x c (up _ _ e)
    exact ⟨v, oc, old _ _ w1, w2⟩
  · show ((iniC js σ).set 0 (some v)).length = Nc.length
    unfold iniC
    have := takesC_len htk
    rw [List.length_set, List.length_map]
    omega

structure LamSc (X : Cx) (Nc : List Str) (js : List (Option Nat)) (params : Arguments) (body : Expr) (scope : Scope) (pn : Str) : Prop where
  ok : compOk X.env.scope scope = true
  tk : takesC X.N Nc scope js 0 = true
  p0 : Nc[0]? = some pn
  j0 : js[0]? = some none
  pl : scope.names.lookup pn = some .local
  co : scope.isCoroutine = false
  gen : scope.isGenerator = false
  bd : ∀ (q : Str) (cl : List (Str × Addr)) (pm cd ctv u : Value), bindArgs (kla_fn "<lambda>" q params body scope cl pm cd ctv) ⟨[u], []⟩ = pure [(pn, u)]
theorem lam_call {pins : List (Addr × Obj)} {σ : St} {H : Hp} {s : Shared} {A' : Around} {Nc : List Str} {js : List (Option Nat)} {q pn : Str} {params : Arguments} {body : Expr} {scope : Scope} {P f : Addr} {v : V} {u : Value} {tb : TE} {Q : VK} {E : Value → Shared → Prop}
    (S : LamSc X Nc js params body scope pn) (hbody : ∀ cl L f c s H, PE (lamCx X A' Nc q scope cl L f c s H) body tb) (I : Inv X pins σ H s) (hA : A'.frames = some X.stack) (hh : X.calm = true → A'.handled = none) (hroom : A'.depth < recursionLimit) (L : LamO X.env P q params body scope H f)
    (r : RelV v u) (h : tb ((iniC js σ).set 0 (some v)) H Q) : wpAny (model X.prog X.w) A' (call (.ref f) [u]) (EP X pins σ Q) E s := by
  obtain ⟨c, oc, vs, t, cl, pm, ctv, e1, e2, e3, e4, up, hfr⟩ := L
  have hfo := (I.hok f _ e1).1
  have hoc := (I.hok c _ e2).1
  refine wpAny_call (codeAny_mono (R := fun r s' => ∃ u', r = .ok (.ret u') ∧ EP X pins σ Q u' s') (kla_callFunE hroom hfo rfl S.co S.gen rfl ⟨c, oc, vs, t, rfl, hoc, e3, e4⟩ ?_) fun r s' ⟨u', hr, z⟩ => by subst hr; exact z)
  show wpAny _ _ (bindArgs (kla_fn "<lambda>" q params body scope cl pm (.ref c) ctv) ⟨[u], []⟩) _ _ _
  rw [S.bd]
  refine wpAny_pure (wpAny_newFunctionEnv (fun x hx => compOk_cell S.ok x hx) (fun x hx => ?_) (fun h₁ hns hsb => ⟨I.nolimit.fresh _ hsb, ?_⟩) (compOk_kind S.ok))
  · have : x = (pn, u) := by simpa using hx
    subst this; exact S.pl
  show codeAny _ _ (.expr body (envX q scope s.heap.objs.size f (.ref c) cl)) _ _
  have old : ∀ b o, s.heap.get? b = some o → h₁.get? b = some o := fun b o e => hsb.extBut b o (Nat.ne_of_lt (Heap.lt_size e)) (Heap.get?_push_of_some _ e)
  have J := lam_start (q := q) (f := f) (c := c) (tk := s.toks + [(pn, u)].length) I hA hh S.ok S.tk S.p0 S.j0 S.pl up hfr r old hns
  refine kla_codeExpr (wpAny_mono (hbody cl _ f c s H [] _ _ H Q J h) (fun v' s' ⟨x, H', J', r', q'⟩ => ⟨v', rfl, x, H', ?_, r', q'⟩) fun _ _ z => z.elim)
  exact I.call' (ch := []) J'.os J'.base J'.hok J'.bare fun b z => absurd z (by simp)
end

section
variable {prog : Program} {w : World} {A : Around} {E : Value → Shared → Prop} {s : Shared}
def skOut (b : Bool) (st : SortSt) : Array Value := if b then ((arrOf st).map (·.2)).reverse else (arrOf st).map (·.2)
def skHeap (h : Heap) (kS a : Addr) (out : Array Value) : Heap := (h.update kS (Obj.mapSeq fun _ => (#[] : Array Value))).update a (Obj.mapSeq fun _ => out)
theorem sk_tail {a kS : Addr} {b : Bool} {e e1 : Nat} {keys : Array Value} {st : SortSt} {R : PySem.Fin → Shared → Prop} (ok : s.heap.get? kS = some (seqObj "list" keys e)) (oa : s.heap.get? a = some (seqObj "list" #[] e1)) (ne : a ≠ kS) (z1 : keys.size ≤ 1000) (z2 : (arrOf st).size ≤ 1000) (hf : failedOf st = none)
    (h : R (.done (.ret .none)) { s with heap := skHeap s.heap kS a (skOut b st) }) : wpAny (model prog w) A (ksk_tail a b e1 (.ref kS) st) R E s := by
  have oa1 : (s.heap.update kS (Obj.mapSeq fun _ => (#[] : Array Value))).get? a = some (seqObj "list" #[] e1) := (Heap.get?_update_ne _ _ _ _ ne).trans oa
  have zo : (skOut b st).size ≤ sizeLine + 1 := by
    unfold skOut
    cases b
    · rw [if_neg Bool.false_ne_true, Array.size_map]; exact Nat.le_succ_of_le (Nat.le_trans z2 (by decide))
    · rw [if_pos rfl, Array.size_reverse, Array.size_map]; exact Nat.le_succ_of_le (Nat.le_trans z2 (by decide))
  unfold ksk_tail
  dsimp only
  refine wpAny_bind (listUpdate_at ok rfl (wpAny_bind (wpAny_letGo (wpAny_bind (seqEpoch_at oa1 rfl (wpAny_bind (listUpdate_at oa1 rfl ?_ (Nat.zero_le _) zo)))))) (Nat.le_trans z1 (by decide)) (Nat.zero_le _))
  rw [hf]
  simp only [bne_self_eq_false, Bool.false_eq_true, if_false]
  exact wpAny_pure h
theorem sk_end {a kS : Addr} {b : Bool} {e e1 : Nat} {keys : Array Value} {vs : List Value} {kz : List Int} {R : PySem.Fin → Shared → Prop} (ok : s.heap.get? kS = some (seqObj "list" keys e)) (oa : s.heap.get? a = some (seqObj "list" #[] e1)) (ne : a ≠ kS) (hk : IntsAre keys.toList kz) (hl : kz.length = vs.length) (h64 : vs.length < 64)
    (h : ∀ out : Array Value, KskOut b kz vs out.toList → R (.done (.ret .none)) { s with heap := skHeap s.heap kS a out }) : wpAny (model prog w) A (ksk_end a b vs.toArray e1 (.ref kS) keys) R E s := by
  have hz : keys.size = vs.length := by
    have q := hk.length
    rw [Array.length_toList] at q; omega
  have hzz : (keys.zip vs.toArray).size = vs.length := by rw [Array.size_zip, hz, List.size_toArray, Nat.min_self]
  have go : ∀ t : Sem PySem.Fin, wpAny (model prog w) A t R E s → wpAny (model prog w) A (if b = true then (rule "list.sort.reverse" >>= fun _ => t) else t) R E s := fun t ht => by
    cases b
    · exact ht
    · exact wpAny_bind (wpAny_rule ht)
  have hst : (if b = true then (keys.zip vs.toArray).reverse else keys.zip vs.toArray).Perm (keys.zip vs.toArray) := by
    cases b
    · exact .refl _
    · exact Array.perm_iff_toList_perm.mpr (by rw [if_pos rfl, Array.toList_reverse]; exact List.reverse_perm _)
  have done : ∀ st : SortSt, (arrOf st).Perm (keys.zip vs.toArray) → failedOf st = none → SortedTo (arrOf st) (arrOf st).size → wpAny (model prog w) A (ksk_tail a b e1 (.ref kS) st) R E s := fun st q1 q2 q3 =>
    sk_tail ok oa ne (by omega) (by rw [q1.size_eq, hzz]; omega) q2 (h _ (ksk_out hk q1 q3))
  unfold ksk_end
  refine go _ ?_
  by_cases h2 : vs.length < 2
  · have h2' : vs.toArray.size < 2 := by rw [List.size_toArray]; exact h2
    rw [if_pos h2', if_pos h2']
    refine wpAny_bind (wpAny_pure ?_)
    dsimp only
    rw [StateT.run_pure]
    refine wpAny_bind (wpAny_pure (done (SortSt.mk' general' (if b = true then (keys.zip vs.toArray).reverse else keys.zip vs.toArray) #[] 7 none) hst rfl fun i j hij hj => ?_))
    have hj' : j < (if b = true then (keys.zip vs.toArray).reverse else keys.zip vs.toArray).size := hj
    rw [hst.size_eq, hzz] at hj'
    rw [show i = j by omega]
    exact Int.le_refl _
  · have h2' : ¬ vs.toArray.size < 2 := by rw [List.size_toArray]; exact h2
    rw [if_neg h2', if_neg h2', ksk_kind hk (by omega)]
    refine wpAny_bind (wpAny_pure (wpAny_bind (wpAny_mono (wpS_sortRuns (a₀ := keys.zip vs.toArray) (st := SortSt.mk' oneType' (if b = true then (keys.zip vs.toArray).reverse else keys.zip vs.toArray) #[] 7 none)
      (Q := fun _ st => (arrOf st).Perm (keys.zip vs.toArray) ∧ failedOf st = none ∧ SortedTo (arrOf st) (keys.zip vs.toArray).size) (ksk_intKeys hk) ⟨hst, rfl, rfl, rfl⟩ (by omega) (by omega) fun st q1 q2 q3 => ⟨q1, q2, q3⟩) ?_ fun _ _ z => z)))
    rintro ⟨⟨⟩, st⟩ s' ⟨rfl, q1, q2, q3⟩
    exact done st q1 q2 (by rw [q1.size_eq]; exact q3)
end
end L2


set_option Elab.async false
set_option linter.all false
set_option maxRecDepth 100000
set_option maxHeartbeats 1000000
namespace L2
open PySem PySem.Spec PyProof.Rows PySem.W
section
variable {X : Cx}

theorem Inv.track {pins : List (Addr × Obj)} {σ : St} {H : Hp} {s : Shared} {a : Addr} {o : HO} (I : Inv X pins σ H s) (hn : H a = none) (hL : a ≠ X.env.locals) (h1 : a ∈ X.ex ∨ X.s₀.heap.objs.size ≤ a) (h2 : ∀ x c, X.env.cells.lookup x = some c → c ≠ a) (h3 : ∀ p ∈ X.pn ++ pins, p.1 ≠ a)
    (new : ObjOk X.prog X.w (upd H a o) s.heap a o) : Inv X pins σ (upd H a o) s := by
  have up : ∀ b u, H b = some u → upd H a o b = some u := fun b u e => by rw [upd_ne (ne_of_none e hn)]; exact e
  have J := I.step (g' := s.gens) (d' := s.drawn) (t' := s.toks) (h' := s.heap) (H' := upd H a o) (ch := [a]) (fun b hb => ?_) (fun b o _ _ _ e _ => e) (fun b o _ _ _ e _ => ⟨o.slots, e⟩) (fun b o hb e n => ?_) (fun b o _ e => ⟨o, e⟩) (fun b xs e => up _ _ e) (fun b o u e => up _ _ e) (fun b ps e => ⟨#[], by rw [up _ _ e]; simp⟩) (fun m hm => hm) (fun b u e => ?_) I.bare
  · exact J
  · have e : b = a := by simpa using hb
    subst e
    exact ⟨h1, hL, h2, h3⟩
  · rw [upd_ne (fun z => hb (by simp [z]))]; exact n
  · by_cases z : b = a
    · subst z; rw [upd_same] at e; cases e; exact new
    · rw [upd_ne z] at e
      exact (I.hok b u e).stay (fun c v _ q => q) (fun c q => up _ _ q) (fun c xs q => up _ _ q) fun c o' u' q => up _ _ q

theorem sk_rest {pins : List (Addr × Obj)} {σ : St} {H : Hp} {s : Shared} {A' : Around} {E : Value → Shared → Prop} {f : Value} {b : Bool} {a kS : Addr} {e1 : Nat} {vs : List Value} {ns : List Int} {kz : Int → Int} {R : PySem.Fin → Shared → Prop}
    (I : Inv X ((kS, seqObj "list" #[] 0) :: (a, seqObj "list" #[] e1) :: pins) σ H s) (hk0 : X.s₀.heap.objs.size ≤ kS) (ha0 : X.s₀.heap.objs.size ≤ a) (ne : a ≠ kS) (hp : ∀ p ∈ X.pn ++ pins, p.1 ≠ kS ∧ p.1 ≠ a) (hv : IntsAre vs ns) (h64 : vs.length < 64)
    (turn : ∀ (H' : Hp) (s' : Shared) (pins' : List (Addr × Obj)) (n : Int) (u : Value), n ∈ ns → Inv X pins' σ H' s' → Same H H' → RelV (.int n) u → wpAny (model X.prog X.w) A' (call f [u]) (EP X pins' σ fun v H2 => v = .int (kz n) ∧ Same H' H2) (fun _ _ => False) s')
    (fin : ∀ (H' : Hp) (s' : Shared) (out : Array Value) (c : Nat), Inv X pins σ H' s' → Same H H' → H' a = none → s'.heap.get? a = some (seqObj "list" out c) → KskOut b (ns.map kz) vs out.toList → R (.done (.ret .none)) s') :
    wpAny (model X.prog X.w) A' (ksk_rest a f b vs.toArray e1 (.ref kS)) R E s := by
  have hlen : vs.length = ns.length := hv.length
  have facts : ∀ {H' : Hp} {s' : Shared} {ps : List (Addr × Obj)} {x : Addr} {xs : Array Value} {c : Nat}, Inv X ps σ H' s' → (x, seqObj "list" xs c) ∈ ps → s'.heap.get? x = some (seqObj "list" xs c) ∧ H' x = none ∧ x ≠ X.env.locals ∧ x ∉ X.fs ∧ ∀ y cc, X.env.cells.lookup y = some cc → cc ≠ x := fun {H' s' ps x xs c} J hm => by
    obtain ⟨q1, q2, q3, q4, _⟩ := J.pin _ (List.mem_append_right _ hm)
    refine ⟨q1, q2, q3, q4, fun y cc hc z => ?_⟩
    obtain ⟨v, oc, w1, w2⟩ := J.cell y cc hc
    rw [z, q1] at w1; cases w1; cases w2
  unfold ksk_rest
  refine wpAny_bind (wpAny_rule ?_)
  first
    | rw [List.forIn_toArray]
    | (rw [← Array.forIn_toList]; simp only [List.toList_toArray])
  refine wpAny_bind (ksk_fold (fun i s' => ∃ H' kA e, Inv X ((kS, seqObj "list" kA e) :: (a, seqObj "list" #[] e1) :: pins) σ H' s' ∧ Same H H' ∧ IntsAre kA.toList ((ns.take i).map kz)) vs 0 s ⟨H, #[], 0, I, Same.refl H, by simpa using IntsAre.nil⟩ ?step ?done)
  case step =>
    rintro j x s' hx ⟨H', kA, e, J, sm, hk⟩
    simp only [Nat.zero_add] at hk ⊢
    have hj : j < vs.length := (List.getElem?_eq_some_iff.mp hx).1
    have hnj : ns[j]? = some ns[j] := List.getElem?_eq_getElem (by omega)
    obtain ⟨t, ht⟩ := hv.get j _ hnj
    rw [hx] at ht
    cases ht
    have hz : kA.size ≤ 64 := by
      have h1 := hk.length
      rw [Array.length_toList, List.length_map, List.length_take] at h1
      omega
    refine wpAny_bind (wpAny_attempt (wpAny_mono (turn H' s' _ ns[j] _ (List.getElem_mem _) J sm ⟨t, rfl⟩) (fun v s'' he => ?_) fun _ _ hF => hF.elim))
    obtain ⟨x2, H2, J2, r2, rfl, sm2⟩ := he
    obtain ⟨t2, rfl⟩ := r2
    obtain ⟨o1, n1, l1, _, c1⟩ := facts J2 (List.mem_cons_self ..)
    try dsimp only
    obtain ⟨c2, hc2⟩ : ∃ c2, (s''.heap.update kS (Obj.mapSeq (·.push (.int (kz ns[j]) t2)))).get? kS = some (seqObj "list" (kA.push (.int (kz ns[j]) t2)) c2) := ⟨_, get?_update_seq o1 (·.push (.int (kz ns[j]) t2))⟩
    refine wpAny_bind (listUpdate_at o1 rfl ?_ (Nat.le_trans hz (by decide)) (Nat.le_trans (Nat.le_of_eq (Array.size_push ..)) (Nat.le_succ_of_le (Nat.le_trans (Nat.succ_le_succ hz) (by decide)))))
    have J3 : Inv X ((a, seqObj "list" #[] e1) :: pins) σ H2 s'' := J2.pins_of fun p hp' => by
      obtain ⟨q1, q2, q3, q4, q5⟩ := J2.pin p (List.mem_append_right _ (List.mem_cons_of_mem _ hp'))
      exact ⟨q1, q2, q3, q4, q5⟩
    have J4 := J3.turned (t' := s''.toks) (h' := s''.heap.update kS (Obj.mapSeq (·.push (.int (kz ns[j]) t2)))) (it := kS) (fun b o nb e => (Heap.get?_update_ne _ _ _ _ nb).trans e) n1 l1 (.inr hk0) c1 (fun p hp' => by
      rcases List.mem_append.mp hp' with z | z
      · exact (hp p (List.mem_append_left _ z)).1
      · rcases List.mem_cons.mp z with rfl | z
        · exact ne
        · exact (hp p (List.mem_append_right _ z)).1)
    have o1f := (facts J2 (List.mem_cons_self ..)).2.2.2.1
    have J5 : Inv X ((kS, seqObj "list" (kA.push (.int (kz ns[j]) t2)) c2) :: (a, seqObj "list" #[] e1) :: pins) σ H2 { s'' with heap := s''.heap.update kS (Obj.mapSeq (·.push (.int (kz ns[j]) t2))) } := J4.pins_of fun p hp' => by
      rcases List.mem_cons.mp hp' with rfl | hp'
      · exact ⟨hc2, n1, l1, o1f, fun v z => by cases z⟩
      · exact J4.pin p (List.mem_append_right _ hp')
    refine wpAny_pure ⟨rfl, H2, _, _, J5, sm.trans sm2, ?_⟩
    have ek : (ns.take (j + 1)).map kz = (ns.take j).map kz ++ [kz ns[j]] := by rw [List.take_add_one, hnj, List.map_append]; rfl
    have ea : (kA.push (Value.int (kz ns[j]) t2)).toList = kA.toList ++ [Value.int (kz ns[j]) t2] := by simp
    rw [ea, ek]; exact ksk_snoc hk
  case done =>
    rintro s' ⟨H', kA, e, J, sm, hk⟩
    have hk' : IntsAre kA.toList (ns.map kz) := by
      rw [List.take_of_length_le (by omega)] at hk
      exact hk
    obtain ⟨o1, n1, l1, f1, c1⟩ := facts J (List.mem_cons_self ..)
    obtain ⟨o2, n2, l2, f2, c2⟩ := facts J (List.mem_cons_of_mem _ (List.mem_cons_self ..))
    refine wpAny_bind (listItems_at o1 rfl ?_)
    refine sk_end o1 o2 ne hk' (by rw [List.length_map]; exact hlen.symm) h64 fun out ho => ?_
    have J3 : Inv X pins σ H' s' := J.pins_of fun p hp' => J.pin p (List.mem_append_right _ (List.mem_cons_of_mem _ (List.mem_cons_of_mem _ hp')))
    have J4 := J3.turned (t' := s'.toks) (h' := s'.heap.update kS (Obj.mapSeq fun _ => (#[] : Array Value))) (it := kS) (fun b o nb e => (Heap.get?_update_ne _ _ _ _ nb).trans e) n1 l1 (.inr hk0) c1 fun p hp' => (hp p hp').1
    have J5 := J4.turned (t' := s'.toks) (h' := skHeap s'.heap kS a out) (it := a) (fun b o nb e => (Heap.get?_update_ne _ _ _ _ nb).trans e) n2 l2 (.inr ha0) c2 fun p hp' => (hp p hp').2
    have o3 : (s'.heap.update kS (Obj.mapSeq fun _ => (#[] : Array Value))).get? a = some (seqObj "list" #[] e1) := (Heap.get?_update_ne _ _ _ _ ne).trans o2
    exact fin H' _ out _ J5 sm n2 (get?_update_seq o3 fun _ => out) ho

theorem sk_tree {pins : List (Addr × Obj)} {σ : St} {H : Hp} {s : Shared} {A' : Around} {E : Value → Shared → Prop} {f : Value} {b : Bool} {a : Addr} {e0 : Nat} {vs : List Value} {ns : List Int} {kz : Int → Int} {R : PySem.Fin → Shared → Prop}
    (I : Inv X ((a, seqObj "list" vs.toArray e0) :: pins) σ H s) (ha0 : X.s₀.heap.objs.size ≤ a) (hp : ∀ p ∈ X.pn ++ pins, p.1 ≠ a) (hv : IntsAre vs ns) (h64 : vs.length < 64)
    (turn : ∀ (H' : Hp) (s' : Shared) (pins' : List (Addr × Obj)) (n : Int) (u : Value), n ∈ ns → Inv X pins' σ H' s' → Same H H' → RelV (.int n) u → wpAny (model X.prog X.w) A' (call f [u]) (EP X pins' σ fun v H2 => v = .int (kz n) ∧ Same H' H2) (fun _ _ => False) s')
    (fin : ∀ (H' : Hp) (s' : Shared) (out : Array Value) (c : Nat), Inv X pins σ H' s' → Same H H' → H' a = none → s'.heap.get? a = some (seqObj "list" out c) → KskOut b (ns.map kz) vs out.toList → R (.done (.ret .none)) s') :
    wpAny (model X.prog X.w) A' (ksk_tree a f b) R E s := by
  obtain ⟨oa, na, la, fa, da⟩ := I.pin _ (List.mem_append_right _ (List.mem_cons_self ..))
  have ca : ∀ y cc, X.env.cells.lookup y = some cc → cc ≠ a := fun y cc hc z => by
    obtain ⟨v, oc, w1, w2⟩ := I.cell y cc hc
    rw [z, oa] at w1; cases w1; cases w2
  have lt := Heap.lt_size oa
  obtain ⟨e1, oa1⟩ : ∃ e1, (s.heap.update a (Obj.mapSeq fun _ => (#[] : Array Value))).get? a = some (seqObj "list" #[] e1) := ⟨_, get?_update_seq oa fun _ => #[]⟩
  have I0 : Inv X pins σ H s := I.pins_of fun p hp' => I.pin p (List.mem_append_right _ (List.mem_cons_of_mem _ hp'))
  have I1 := I0.turned (t' := s.toks) (h' := s.heap.update a (Obj.mapSeq fun _ => (#[] : Array Value))) (it := a) (fun b o nb e => (Heap.get?_update_ne _ _ _ _ nb).trans e) na la (.inr ha0) ca hp
  have sz : (s.heap.update a (Obj.mapSeq fun _ => (#[] : Array Value))).objs.size = s.heap.objs.size := Heap.size_update ..
  have I2 := I1.kept (h' := ((s.heap.update a (Obj.mapSeq fun _ => (#[] : Array Value))).push (seqObj "tuple" vs.toArray 0)).push (seqObj "list" #[] 0)) (t' := s.toks) fun b o e => Heap.get?_push_of_some _ (Heap.get?_push_of_some _ e)
  have sz2 : ((s.heap.update a (Obj.mapSeq fun _ => (#[] : Array Value))).push (seqObj "tuple" vs.toArray 0)).objs.size = s.heap.objs.size + 1 := (size_push' ..).trans (congrArg (· + 1) sz)
  have hge : X.s₀.heap.objs.size ≤ s.heap.objs.size := I.sz
  have hkL : X.env.locals < s.heap.objs.size := I.lt
  have nk : H (s.heap.objs.size + 1) = none := I.hok.fresh (Nat.le_succ _)
  unfold ksk_tree
  refine wpAny_bind (listItems_at oa rfl (wpAny_bind (listUpdate_at oa rfl (wpAny_bind (seqEpoch_at oa1 rfl (wpAny_bind (wpAny_newTuple (wpAny_bind (wpAny_newList (wpAny_holding ?_) (Nat.zero_le _))) ?_)))) ?_ (Nat.zero_le _))))
  · rw [sz2]
    refine sk_rest (kS := s.heap.objs.size + 1) (e1 := e1) (I2.pins_of fun p hp' => ?_) (Nat.le_succ_of_le hge) ha0 (Nat.ne_of_lt (Nat.lt_succ_of_lt lt)) (fun p hp' => ⟨?_, hp p hp'⟩) hv h64 turn fin
    · rcases List.mem_cons.mp hp' with rfl | hp'
      · exact ⟨by rw [← sz2]; exact Heap.get?_push_size _ rfl, nk, Nat.ne_of_gt (Nat.lt_succ_of_lt hkL), I.nofs (Nat.le_succ _), fun v z => by cases z⟩
      · rcases List.mem_cons.mp hp' with rfl | hp'
        · exact ⟨Heap.get?_push_of_some _ (Heap.get?_push_of_some _ oa1), na, la, fa, fun v z => by cases z⟩
        · exact I2.pin p (List.mem_append_right _ hp')
    · have := Heap.lt_size (I0.pin p hp').1
      exact Nat.ne_of_lt (Nat.lt_succ_of_lt this)
  · exact Nat.le_trans (show vs.length ≤ 64 by omega) (by decide)
  · rw [List.size_toArray]; exact Nat.le_trans (show vs.length ≤ 64 by omega) (by decide)
end

theorem iadd_rng {prog : Program} {w : World} {A : Around} {R : Result → Shared → Prop} {s : Shared} {r S : Addr} {a b c : Int} {t u v : Tok} {n c₀ : Nat} (hh : A.handled = none) (hr : IsRange s.heap r a b c t u v) (hsmall : Builtin.Range.small a b c = true)
    (hn : Builtin.Range.rangeSize a b c = n) (hlen : n ≤ 2 ^ 24) (hS : s.heap.get? S = some { cls := .type "list", data := .seq #[] c₀ })
    (hR : ∀ h' tk acc' c', (∀ b o, b ≠ S → s.heap.get? b = some o → h'.get? b = some o) → h'.get? S = some { cls := .type "list", dict := none, data := .seq acc' c', slots := #[] } → ItemsOf (fun i v => ∃ t, v = .int (a + i * c) t) acc' n → R (.ok (.ret (.ref S))) { s with heap := h', toks := tk }) :
    codeAny (model prog w) A (.builtin "list.__iadd__" ⟨[.ref S, .ref r], []⟩) R s :=
  codeAny_builtin entry_list_iadd' (wpAny_extend_range hh hr hsmall hn hlen S (.ref S) c₀ hS hR)
theorem collect_rng {prog : Program} {w : World} {A : Around} {E : Value → Shared → Prop} {s : Shared} {r : Addr} {a b c : Int} {t u v : Tok} {n : Nat} {Q : List Value → Shared → Prop} (hh : A.handled = none) (hr : IsRange s.heap r a b c t u v) (hsmall : Builtin.Range.small a b c = true)
    (hn : Builtin.Range.rangeSize a b c = n) (hlen : n ≤ 2 ^ 24) (h : ∀ (h' : Heap) (tk : Nat) (acc : Array Value), (∀ b o, s.heap.get? b = some o → h'.get? b = some o) → ItemsOf (fun i v => ∃ t, v = .int (a + i * c) t) acc n → Q acc.toList { s with heap := h', toks := tk }) :
    wpAny (model prog w) A (collect (.ref r)) Q E s := by
  unfold collect
  refine wpAny_bind (wpAny_runValue (codeAny_builtin entry_proto_collect' ?_))
  show wpAny _ _ (newList [] >>= fun l => again (.builtin "list.__iadd__" ⟨[l, .ref r], []⟩)) _ _ s
  refine wpAny_bind (wpAny_newList (wpAny_pure ⟨Code.quiet_builtin _ (by decide +kernel), ?_⟩))
  refine iadd_rng (s := { s with heap := s.heap.push (seqObj "list" #[] 0) }) hh (Heap.get?_push_of_some _ hr) hsmall hn hlen (Heap.get?_push_size _ rfl) fun h' tk acc c' hk hS hacc => ?_
  refine wpAny_bind (wpAny_load hS (wpAny_pure (h h' tk acc (fun b o e => hk b o (Nat.ne_of_lt (Heap.lt_size e)) (Heap.get?_push_of_some _ e)) hacc)))
end L2


set_option Elab.async false
set_option linter.all false
set_option maxRecDepth 100000
set_option maxHeartbeats 1000000
namespace L2
open PySem PySem.Spec PyProof.Rows PySem.W

theorem zip_keys (g : Int → Int) : ∀ vs : List Value, ((vs.map numOf).map g).zip vs = vs.map fun v => (g (numOf v), v)
  | [] => rfl
  | v :: vs => by
    simp only [List.map_cons, List.zip_cons_cons]
    rw [zip_keys g vs]
theorem skOut_ints {b : Bool} {g : Int → Int} {vs out : List Value} {ns : List Int} (hv : IntsAre vs ns) (h : KskOut b (ns.map g) vs out) : ∃ ns', IntsAre out ns' ∧ ns'.Perm ns ∧ ns'.Pairwise fun x y => if b then g y ≤ g x else g x ≤ g y := by
  obtain ⟨ps, hp, rfl, hs⟩ := h
  have en : ns = vs.map numOf := hv.nums.symm
  rw [en, zip_keys] at hp
  have mem : ∀ p ∈ ps, p.1 = g (numOf p.2) ∧ p.2 ∈ vs := fun p hp' => by
    obtain ⟨v, hv', rfl⟩ := List.mem_map.mp (hp.mem_iff.mp hp')
    exact ⟨rfl, hv'⟩
  refine ⟨(ps.map Prod.snd).map numOf, intsAre_map _ fun v hv' => ?_, ?_, ?_⟩
  · obtain ⟨p, hp', rfl⟩ := List.mem_map.mp hv'
    exact hv.all _ (mem p hp').2
  · have := (hp.map Prod.snd).map numOf
    rw [List.map_map (l := vs), show (Prod.snd ∘ fun v => (g (numOf v), v)) = (id : Value → Value) from rfl, List.map_id] at this
    rw [en]; exact this
  · rw [List.pairwise_map, List.pairwise_map]
    refine hs.imp_of_mem fun {p q} hp' hq' hr => ?_
    rw [← (mem p hp').1, ← (mem q hq').1]
    exact hr
def nats (n : Int) : List Int := (List.range n.toNat).map fun (i : Nat) => (i : Int)
section
variable {X : Cx}
theorem sorted_rng {pins : List (Addr × Obj)} {σ : St} {H : Hp} {s : Shared} {kw : List (Str × Value)} {f : Value} {b : Bool} {p : Addr} {n : Int} {kz : Int → Int} {Q : VK} (I : Inv X pins σ H s) (hc : X.calm = true) (hp : H p = some (.rng 0 n)) (h0 : 0 ≤ n) (h64 : n < 64)
    (ha1 : argsOk "sorted" ⟨[.ref p], kw⟩) (ha2 : ∀ x, argsOk "list.sort" ⟨[.ref x], kw⟩) (ht : ∀ x, Builtin.«list.sort» ⟨[.ref x], kw⟩ = ksk_tree x f b)
    (turn : ∀ (H' : Hp) (s' : Shared) (pins' : List (Addr × Obj)) (i : Int) (u : Value), 0 ≤ i → i < n → Inv X pins' σ H' s' → Same H H' → RelV (.int i) u → wpAny (model X.prog X.w) X.A.in1.in1 (call f [u]) (EP X pins' σ fun v H2 => v = .int (kz i) ∧ Same H' H2) (fun _ _ => False) s')
    (fin : ∀ (ns : List Int) (l : Addr) (H' : Hp), ns.Perm (nats n) → (ns.Pairwise fun x y => if b then kz y ≤ kz x else kz x ≤ kz y) → Same H H' → H l = none → H' l = some (.lst (ns.map V.int)) → Q (.ref l) H') :
    wpAny (model X.prog X.w) X.A (call (.builtin "sorted") [.ref p] kw) (EP X pins σ Q) X.xe s := by
  obtain ⟨t, u, v, hob⟩ := (show ∃ t u v, s.heap.get? p = some { cls := .type "range", data := .fields #[.int 0 t, .int n u, .int 1 v] } from I.hok p _ hp)
  refine call_function_entry_kw kind_sorted plain_sorted entry_sorted ha1 ?_
  unfold Builtin.«sorted»
  refine wpAny_bind (m := checkCount "sorted" 1 1 _) (wpAny_pure (wpAny_bind (collect_rng (n := n.toNat) (I.ok.hd hc) hob (small_one (by omega) (by omega) (by omega) (by omega)) (by rw [rangeSize_one]; split <;> omega) (by omega) fun h1 tk acc k1 hacc => wpAny_bind (wpAny_newList ?_ ?_))))
  case refine_2 => rw [Array.length_toList, hacc.1]; exact Nat.le_trans (show n.toNat ≤ 1000 by omega) (by decide)
  have hia : IntsAre acc.toList (nats n) := by
    have hv : Vals ((nats n).map V.int) acc.toList := by
      unfold nats
      rw [List.map_map]
      exact vals_of (g := fun (i : Nat) => V.int (i : Int)) (P := fun (i : Nat) v => ∃ t, v = .int (0 + (i : Int) * 1) t) (fun i v h => by obtain ⟨t, e⟩ := h; exact ⟨t, by rw [e]; simp⟩) _ _ (by rw [Array.length_toList]; exact hacc.1) fun k v hk => hacc.2 k v (by simpa using hk)
    exact intsAre_of hv
  have I1 := I.kept (t' := tk) k1
  show wpAny _ _ _ _ _ { s with heap := h1.push (seqObj "list" acc.toList.toArray 0), toks := tk }
  have oa : (h1.push (seqObj "list" acc.toList.toArray 0)).get? h1.objs.size = some (seqObj "list" acc.toList.toArray 0) := Heap.get?_push_size _ rfl
  have I2 := I1.kept (h' := h1.push (seqObj "list" acc.toList.toArray 0)) (t' := tk) fun b o e => Heap.get?_push_of_some _ e
  have na : H h1.objs.size = none := I1.hok.fresh (Nat.le_refl _)
  have la : h1.objs.size ≠ X.env.locals := Nat.ne_of_gt I1.lt
  have a0 : X.s₀.heap.objs.size ≤ h1.objs.size := I1.sz
  have hl : acc.toList.length < 64 := by rw [Array.length_toList, hacc.1]; omega
  refine wpAny_bind (wpAny_holding (wpAny_call_entry_kw slot_list_sort ⟨_, oa, rfl⟩ entry_list_sort ?body (ha2 _)))
  case body =>
    show wpAny (model X.prog X.w) X.A.in1.in1 (Builtin.«list.sort» ⟨[.ref h1.objs.size], kw⟩) _ _ _
    rw [ht]
    refine sk_tree (e0 := 0) (pins := pins) (ns := nats n) (kz := kz) (I2.pins_of fun q hq => ?_) a0 (fun q hq => ?_) hia hl (fun H' s' pins' i u hi J sm r => ?_) fun H' s' out c J sm n2 o2 ko => ⟨_, rfl, wpAny_pure ⟨_, rfl, ?_⟩⟩
    · rcases List.mem_cons.mp hq with rfl | hq
      · exact ⟨oa, na, la, I1.nofs (Nat.le_refl _), fun v z => by cases z⟩
      · exact I2.pin q (List.mem_append_right _ hq)
    · exact Nat.ne_of_lt (Heap.lt_size (I1.pin q hq).1)
    · obtain ⟨k, hk, rfl⟩ := List.mem_map.mp hi
      have := List.mem_range.mp hk
      exact turn H' s' pins' _ u (by omega) (by omega) J sm r
    · obtain ⟨ns, hi, hpm, hpw⟩ := skOut_ints hia ko
      have ca : ∀ y cc, X.env.cells.lookup y = some cc → cc ≠ h1.objs.size := fun y cc hc' z => by
        obtain ⟨v, oc, w1, w2⟩ := I1.cell y cc hc'
        exact absurd (Heap.lt_size w1) (by rw [z]; exact Nat.lt_irrefl _)
      have K := J.track (a := h1.objs.size) (o := .lst (ns.map V.int)) n2 la (.inr a0) ca (fun q hq => Nat.ne_of_lt (Heap.lt_size (I1.pin q hq).1)) ⟨?_, out.toList, c, vals_ints hi, by rw [Array.toArray_toList]; exact o2⟩
      · exact ⟨.ref h1.objs.size, _, K, rfl, fin ns _ _ hpm hpw (fun b o e => by rw [upd_ne (ne_of_none e na)]; exact sm _ _ e) na upd_same⟩
      · rw [List.length_map, hpm.length_eq]
        unfold nats
        rw [List.length_map, List.length_range]
        exact Nat.le_trans (show n.toNat ≤ 1000 by omega) (by decide)

def tSortR1 (ta td : TA) (tb : TE) (js : List (Option Nat)) (env : Env) (P : Addr) (q : Str) (params : Arguments) (body : Expr) (scope : Scope) : TE := fun σ H Q => ta σ H fun vs H1 => td σ H1 fun zs H2 => ∃ (p f : Addr) (n : Int) (kz : Int → Int),
  vs = [.ref p] ∧ zs = [.ref f] ∧ H2 p = some (.rng 0 n) ∧ 0 ≤ n ∧ n < 64 ∧ LamO env P q params body scope H2 f ∧
  (∀ i H3, 0 ≤ i → i < n → Same H2 H3 → tb ((iniC js σ).set 0 (some (.int i))) H3 fun v H4 => v = .int (kz i) ∧ Same H3 H4) ∧
  ∀ (ns : List Int) (l : Addr) (H3 : Hp), ns.Perm (nats n) → (ns.Pairwise fun x y => kz x ≤ kz y) → Same H2 H3 → H2 l = none → H3 l = some (.lst (ns.map V.int)) → Q (.ref l) H3

def tSortR2 (ta td : TA) (tb : TE) (js : List (Option Nat)) (env : Env) (P : Addr) (q : Str) (params : Arguments) (body : Expr) (scope : Scope) : TE := fun σ H Q => ta σ H fun vs H1 => td σ H1 fun zs H2 => ∃ (p f : Addr) (n : Int) (kz : Int → Int),
  vs = [.ref p] ∧ zs = [.ref f, .bl true] ∧ H2 p = some (.rng 0 n) ∧ 0 ≤ n ∧ n < 64 ∧ LamO env P q params body scope H2 f ∧
  (∀ i H3, 0 ≤ i → i < n → Same H2 H3 → tb ((iniC js σ).set 0 (some (.int i))) H3 fun v H4 => v = .int (kz i) ∧ Same H3 H4) ∧
  ∀ (ns : List Int) (l : Addr) (H3 : Hp), ns.Perm (nats n) → (ns.Pairwise fun x y => kz y ≤ kz x) → Same H2 H3 → H2 l = none → H3 l = some (.lst (ns.map V.int)) → Q (.ref l) H3
theorem turn_lam {pins' : List (Addr × Obj)} {σ : St} {H' : Hp} {s' : Shared} {Nc : List Str} {js : List (Option Nat)} {q pn : Str} {params : Arguments} {body : Expr} {scope : Scope} {P f : Addr} {tb : TE} {Q : VK} {m : Nat} {i : Int} {u : Value} (hr : Room m X.A)
    (S : LamSc X Nc js params body scope pn) (hbody : ∀ cl L f c s H, PE (lamCx X X.A.in1.in1 Nc q scope cl L f c s H) body tb) (J : Inv X pins' σ H' s') (L : LamO X.env P q params body scope H' f) (r : RelV (.int i) u)
    (h : tb ((iniC js σ).set 0 (some (.int i))) H' Q) : wpAny (model X.prog X.w) X.A.in1.in1 (call (.ref f) [u]) (EP X pins' σ Q) (fun _ _ => False) s' :=
  lam_call S hbody J J.ok.frames J.ok.hd hr.depth L r h
theorem pe_sortR1 {Nc : List Str} {js : List (Option Nat)} {q pn : Str} {params : Arguments} {body : Expr} {scope : Scope} {P : Addr} {ta td : TA} {tb : TE} {m : Nat} {e : Expr} {p pos lpos kp1 : Pos} (hc : X.calm = true) (hr : Room m X.A) (S : LamSc X Nc js params body scope pn)
    (hbody : ∀ cl L f c s H, PE (lamCx X X.A.in1.in1 Nc q scope cl L f c s H) body tb) (hg : Gl X "sorted") (hm : X.mg "sorted" = none) (ha : PA X [e] ta) (hd : PK X [⟨some (Str.ofString "key"), .Lambda params body scope lpos, kp1⟩] td)
    (hpl : (backTo pos (starEach [e] X.env)).any (·.1) = false := by rfl) (hall : (backToKw pos (keywordEach [⟨some (Str.ofString "key"), .Lambda params body scope lpos, kp1⟩] X.env)).all (·.1.isSome) = true := by rfl)
    (hnn : (backToKw pos (keywordEach [⟨some (Str.ofString "key"), .Lambda params body scope lpos, kp1⟩] X.env)).any (·.1.isNone) = false := by rfl) (hks : (backToKw pos (keywordEach [⟨some (Str.ofString "key"), .Lambda params body scope lpos, kp1⟩] X.env)).filterMap (·.1) = [Str.ofString "key"] := by rfl) (hb : backTo pos (starEach [e] X.env) = (false, eval e X.env) :: backTo pos (starEach [] X.env) := by rfl) :
    PE X (.Call (.Name "sorted" p) [e] [⟨some (Str.ofString "key"), .Lambda params body scope lpos, kp1⟩] pos) (tSortR1 ta td tb js X.env P q params body scope) := by
  intro pins s σ H Q I h
  refine wpAny_Call_Name_kw (ld_blt I hg hm bt_sorted ?_)
  refine PyProof.Rows.callWith_kw (thn (ha pos pins s σ H _ I h) fun us s1 ⟨vs, H1, I1, r1, q1⟩ => ?_) hb hpl hall hnn
  refine thn (hd pos pins s1 σ H1 _ I1 q1) fun ws s2 ⟨zs, H2, I2, r2, pp, f, n, kz, e1, e2, hp, h0, h64, L, tn, fin⟩ => ?_
  subst e1 e2
  obtain ⟨u, rfl, ru⟩ := r1.one
  cases (show u = Value.ref pp from ru)
  rw [hks]
  obtain ⟨v, rfl, rv⟩ := r2.one
  cases (show v = Value.ref f from rv)
  exact sorted_rng (f := .ref f) (b := false) (kz := kz) I2 hc hp h0 h64 (ksk_s1 _ _) (fun x => ksk_l1 _ _) (fun x => ksk_t1 _ _) (fun H' s' pins' i u hi0 hi1 J sm r => turn_lam hr S hbody J (L.same sm) r (tn i H' hi0 hi1 sm)) (fun ns l H' a1 a2 => fin ns l H' a1 a2)
end
end L2


set_option Elab.async false
set_option linter.all false
set_option maxRecDepth 100000
set_option maxHeartbeats 1000000
namespace L2
open PySem PySem.Spec PyProof.Rows PySem.W

def lamQ (x : Str) : Str := (x ++ ".<locals>.") ++ "<lambda>"

def TabH (K : Frag) (mg : Str → Option Value) (x : Str) (H : Hp) : Prop := H (tabP K mg x) = some (tabQ (lamQ x))
theorem TabH.same {K : Frag} {mg : Str → Option Value} {x : Str} {H H' : Hp} (h : TabH K mg x H) (s : Same H H') : TabH K mg x H' := s _ _ h
def LamD (K : Frag) (mg : Str → Option Value) (x : Str) (f : Addr) : Prop := ∃ c, cdOf K f = some c ∧ codeHdIn K c (tabP K mg x) = true
section
variable {P : Program} {w : World} {K : Frag} {mg : Str → Option Value} {base : Heap}
theorem Fun.okL {x qual : Str} {st : Stmt} {f : Addr} {fd : FuncData} {N ps : List Str} {k : Nat} {sp : Sp} (F : Fun K x qual st f fd) (L : LamD K mg qual f) (B : BM mg base) (S : FnScope N ps (defScope st)) (len : ∀ vs H Q E, sp vs H Q E → vs.length = ps.length)
    (hbody : ∀ (cdv : Value) (A : Around) (outer : List Env) (s : Shared) (H : Hp) (vs : List V) (Q : VK) (E : XK), LamIn (cxOf (CXE P w) P w K mg base N qual (defScope st) f cdv A outer s H E) (tabP K mg qual) (lamQ qual) → Room k (A.deeper (envOfC qual (defScope st) s.heap.objs.size f cdv)) → sp vs H Q E →
      ∃ t, PSs (cxOf (CXE P w) P w K mg base N qual (defScope st) f cdv A outer s H E) (defBody st) t ∧ t { nx := fun _ H' => Q .non H', rt := Q } (start N vs) H) : FnOk P w K mg base (CXE P w) (k + 1) f fd ps sp := by
  obtain ⟨oc, od, kV, doc, pm, an, cdv, ct, osl, rfl, lk, hcd⟩ := F.ex
  obtain ⟨c, h1, h2⟩ := L
  have e : cdv = .ref c := by
    unfold cdOf at h1
    rw [lk] at h1
    dsimp only at h1
    cases cdv <;> first | (cases h1; rfl) | (cases h1; done)
  exact fn_of lk hcd S len fun A outer s H vs Q E hr hsp => hbody cdv A outer s H vs Q E ⟨⟨c, e, h2⟩, B, rfl⟩ hr hsp
end
theorem mem_lk {b : Addr} {q : Str} : ∀ {l : List (Addr × Str)}, l.lookup b = some q → (b, q) ∈ l
  | [], e => by cases e
  | (c, y) :: r, e => by
    rw [List.lookup_cons] at e
    cases hb : b == c with
    | true => rw [hb] at e; cases e; rw [eq_of_beq hb]; exact List.mem_cons_self
    | false => rw [hb] at e; exact List.mem_cons_of_mem _ (mem_lk e)
theorem tabP_of {K : Frag} {mg : Str → Option Value} {x : Str} {f c T : Addr} {oc1 oc2 : Value} {od1 od2 : Option Addr} {fd : FuncData} {sl1 sl2 : Array (Option Value)} {vs : Array Value} (hm : mg x = some (.ref f)) (l1 : K.lookup f = some ⟨oc1, od1, .func fd, sl1⟩) (e : fd.code = .ref c) (l2 : K.lookup c = some ⟨oc2, od2, .fields vs, sl2⟩) (h11 : vs[11]? = some (.ref T)) : tabP K mg x = T ∧ cdOf K f = some c := by
  have h1 : cdOf K f = some c := by
    unfold cdOf
    rw [l1]
    dsimp only
    rw [e]
  refine ⟨?_, h1⟩
  unfold tabP
  rw [hm]
  dsimp only
  rw [h1]
  dsimp only
  unfold tabOf
  rw [l2]
  dsimp only
  rw [h11]
theorem law_callT {P : Program} {w : World} {K : Frag} {mg mb : Str → Option Value} {CX : CXT} {k : Nat} {fa a : Addr} {fd : FuncData} {x : Str} {sp : Sp} {s₁ : Shared} {vs : List Value} {ns : List Int} {tabs : List (Addr × Str)}
    (KX : K.In s₁.heap) (hns : s₁.heap.Ns mainGlobals mg) (hb : s₁.heap.Ns builtinsNs mb) (hbb : ∀ x : Str, x ≠ "__name__" → mb x = bootBuiltins x) (hlim : s₁.heap.NoLimit) (hg : s₁.gens = #[]) (hbm : BM mg s₁.heap)
    (ha : s₁.heap.get? a = some { cls := .type "list", data := .seq vs.toArray }) (hi : IntsAre vs ns) (hl : ns.length ≤ sizeLine) (hr : Room k callerA)
    (hT : ∀ p ∈ tabs, s₁.heap.get? p.1 = some (tabObj #[]) ∧ K.lookup p.1 = none ∧ ∃ c, codeHdIn K c p.1 = true) (nd : (tabs.map (·.1)).Nodup)
    (F : ∀ base : Heap, K.In base → base.Ns mainGlobals mg → BM mg base → FnOk P w K mg base CX k fa fd [x] sp) (hbind : ∀ (s : Shared) (u : Value), BindsTo s fd ⟨[u], []⟩ [(x, u)])
    (hsp : ∀ H : Hp, SqL K H a (ns.map V.int) → (∀ p ∈ tabs, H p.1 = some (tabQ p.2)) → sp [.ref a] H (fun v _ => v = .bl true) fun _ _ _ => False)
    (hCX : ∀ H e s', CX [] H s₁ (fun _ _ _ => False) e s' → False) :
    codeAny (model P w) callerA (.call (.ref fa) ⟨[.ref a], []⟩) (fun r s' => r = .ok (.ret (.bool true)) ∧ OldK s₁.heap s'.heap ∧ s'.os = s₁.os ∧ AllBare s'.gens) s₁ := by
  have rv := vals_ints hi
  have lenV := hi.length
  have tmem : ∀ b q, tabs.lookup b = some q → (b, q) ∈ tabs := fun b q e => mem_lk e
  have tlook : ∀ p ∈ tabs, tabs.lookup p.1 = some p.2 := by
    clear hT hsp tmem
    induction tabs with
    | nil => intro p hp; cases hp
    | cons t r ih =>
      intro p hp
      rw [List.map_cons, List.nodup_cons] at nd
      rcases List.mem_cons.mp hp with rfl | hp
      · rw [List.lookup_cons, beq_self_eq_true]
      · have : (p.1 == t.1) = false := beq_eq_false_iff_ne.mpr fun z => nd.1 (List.mem_map.mpr ⟨p, hp, z⟩)
        rw [List.lookup_cons, this]
        exact ih nd.2 p hp
  have core : ∀ H : Hp, SqL K H a (ns.map V.int) → HOk P w H s₁.heap → (∀ b, H b = none ∨ (b = a ∧ K.lookup a = none ∧ ∃ o xs, H b = some (.frz o (.lst xs))) ∨ ∃ q, (b, q) ∈ tabs ∧ H b = some (tabQ q)) → (∀ p ∈ tabs, H p.1 = some (tabQ p.2)) →
      codeAny (model P w) callerA (.call (.ref fa) ⟨[.ref a], []⟩) (fun r s' => r = .ok (.ret (.bool true)) ∧ OldK s₁.heap s'.heap ∧ s'.os = s₁.os ∧ AllBare s'.gens) s₁ := by
    intro H hS hok hA hTb
    have base_of : ∀ {b : Addr} {o : Obj}, s₁.heap.get? b = some o → H b = none → (hidT s₁.heap H).get? b = some o := fun e n => hidT_get e n
    have noA : ∀ {b : Addr} {o : Obj}, s₁.heap.get? b = some o → o.cls ≠ .type "list" → o.cls ≠ .none → H b = none := fun {b o} e d1 d2 => by
      rcases hA b with z | ⟨z, _⟩ | ⟨q, z, _⟩
      · exact z
      · subst z; rw [ha] at e; cases e; exact absurd rfl d1
      · rw [(hT _ z).1] at e; cases e; exact absurd rfl d2
    have noD : ∀ {b : Addr} {o : Obj} {es : Array DictEntry} {ep : Nat}, s₁.heap.get? b = some o → o.data = .dict es ep → H b = none := fun {b o es ep} e d => by
      rcases hA b with z | ⟨z, _⟩ | ⟨q, z, _⟩
      · exact z
      · subst z; rw [ha] at e; cases e; cases d
      · rw [(hT _ z).1] at e; cases e; cases d
    have nsK : ∀ {b : Addr} {m : Str → Option Value}, s₁.heap.Ns b m → (hidT s₁.heap H).Ns b m := fun {b m} ⟨o, es, ep, e, d, r⟩ => ⟨o, es, ep, base_of e (noD e d), d, r⟩
    have hKb : K.In (hidT s₁.heap H) := fun b o e => base_of (KX b o e) (by
      rcases hA b with z | ⟨z, zk, _⟩ | ⟨q, z, _⟩
      · exact z
      · subst z; rw [zk] at e; cases e
      · rw [(hT _ z).2.1] at e; cases e)
    have hM : Mod K mg (hidT s₁.heap H) := ⟨hKb, nsK hns, ⟨mb, nsK hb, hbb⟩, let ⟨mc, h1, h2⟩ := hlim; ⟨mc, nsK h1, h2⟩⟩
    have hB : BM mg (hidT s₁.heap H) := by
      obtain ⟨bm, ob, b1, b2, b3, b4, b5, b6, b7⟩ := hbm
      exact ⟨bm, ob, b1, b2, b3, base_of b4 (noA b4 (by rw [b5]; decide) (by rw [b5]; nofun)), b5, b6, b7⟩
    have e0 : Env0 P w K mg (hidT s₁.heap H) callerA [] s₁ H := ⟨rfl, hM, fun b o e => of_hidT e, Nat.le_of_eq (hidT_size _ _), trivial, fun b hb => absurd (show b ∈ ([] : List Addr) from hb) (by simp), hok, .of_eq hg⟩
    refine codeAny_mono ((F _ hKb (nsK hns) hB).run callerA [] s₁ H ⟨[.ref a], []⟩ [.ref a] [.ref a] _ _ hr e0 (hbind s₁ (.ref a)) (.cons rfl .nil) (hsp H hS hTb)) fun r s' h => ?_
    cases r with
    | error e => exact (hCX H e s' h).elim
    | ok fl =>
      cases fl with
      | next => exact False.elim h
      | brk => exact False.elim h
      | cont => exact False.elim h
      | ret u =>
        obtain ⟨v, H', os, bare, un, hok', r', q⟩ := h
        have q' : v = .bl true := q
        subst q'
        obtain rfl : u = Value.bool true := r'
        have old : ∀ b o, s₁.heap.get? b = some o → asItWas s₁.heap s'.heap b o ∧ ∃ o', s'.heap.get? b = some o' := fun b o e => by
          rcases hA b with z | ⟨_, _, ob, xs, z⟩ | ⟨q, zm, z⟩
          · have := un.keep b o e z (by intro y; exact absurd (show b ∈ ([] : List Addr) from y) (by simp)) (by simp)
            exact ⟨.inl this, o, this⟩
          · have z2 := un.frzs b ob _ z
            obtain ⟨e1, _⟩ := hok b _ z
            obtain ⟨e2, _⟩ := hok' b _ z2
            rw [e] at e1; cases e1
            exact ⟨.inl e2, o, e2⟩
          · obtain ⟨more, z2⟩ := un.tbls b _ z
            obtain ⟨ts, e2, _⟩ := hok' b _ z2
            obtain ⟨t1, _, c, t3⟩ := hT _ zm
            have t1' : s₁.heap.get? b = some (tabObj #[]) := t1
            rw [e] at t1'; cases t1'
            refine ⟨.inr (.inl ⟨((codeHd_of_K KX t3).tab t1).isCodeTable, rfl, #[], ts, rfl, by rw [Array.empty_append]; exact e2⟩), _, e2⟩
        exact ⟨rfl, ⟨fun b o e => (old b o e).1, fun b o e => (old b o e).2⟩, os, bare⟩
  have neA : ∀ q, (a, q) ∉ tabs := fun q z => by
    have := (hT _ z).1
    rw [show ((a, q) : Addr × Str).1 = a from rfl, ha] at this; cases this
  have tabok : ∀ (H : Hp) (b : Addr) (q : Str), (b, q) ∈ tabs → ObjOk P w H s₁.heap b (tabQ q) := fun H b q z => ⟨#[], (hT _ z).1, trivial, fun pos cv e => by cases e⟩
  cases hk : K.lookup a with
  | some o =>
    have e := KX a o hk
    rw [ha] at e
    cases e
    refine core (fun b => (tabs.lookup b).map tabQ) (.inr ⟨_, vs.toArray, _, hk, rfl, rfl, rfl, by rw [List.size_toArray, lenV]; exact hl, by simpa using rv⟩) (fun b u z => ?_) (fun b => ?_) fun p hp => by rw [tlook p hp]; rfl
    · dsimp only at z
      cases q : tabs.lookup b with
      | none => rw [q] at z; cases z
      | some y => rw [q] at z; cases z; exact tabok _ b y (tmem b y q)
    · cases q : tabs.lookup b with
      | none => exact .inl rfl
      | some y => exact .inr (.inr ⟨y, tmem b y q, rfl⟩)
  | none =>
    refine core (fun b => if b = a then some (.frz { cls := .type "list", data := .seq vs.toArray } (.lst (ns.map V.int))) else (tabs.lookup b).map tabQ) (.inl (.inr ⟨{ cls := .type "list", data := .seq vs.toArray }, if_pos rfl⟩)) (fun b u z => ?_) (fun b => ?_) fun p hp => ?_
    · by_cases hb : b = a
      · have z' := (if_pos hb).symm.trans z
        cases z'
        subst hb
        exact ⟨ha, by rw [List.length_map]; exact hl, vs, _, rv, ha⟩
      · have z' := (if_neg hb).symm.trans z
        cases q : tabs.lookup b with
        | none => rw [q] at z'; cases z'
        | some y => rw [q] at z'; cases z'; exact tabok _ b y (tmem b y q)
    · by_cases hb : b = a
      · exact .inr (.inl ⟨hb, hk, _, _, if_pos hb⟩)
      · cases q : tabs.lookup b with
        | none => exact .inl (by rw [if_neg hb]; rfl)
        | some y => exact .inr (.inr ⟨y, tmem b y q, by rw [if_neg hb]; rfl⟩)
    · have : p.1 ≠ a := fun z => neA p.2 (by rw [← z]; exact hp)
      rw [if_neg this, tlook p hp]; rfl
theorem walk_ofT {l : OpenLaw} {n k : Nat} {q : Program} {loose : List Str} {XP : (Str → Option Value) → Heap → Prop} {YP : World → Heap → Prop} {d : DefRec} {K : Params → Frag} {CX : World → CXT} {sp : World → (Str → Option Value) → Sp} {x : Str} {ts : List Addr} {tabs : Frag → (Str → Option Value) → List (Addr × Str)}
    (hn : l.most = some n) (hn2 : n ≤ sizeLine) (hdf : d.params.defaults = []) (hr : Room k callerA)
    (hY : ∀ (w : World) (h : Heap), YP w h → (K w.params).In h) (hY2 : ∀ (w : World) (h : Heap), YP w h → ∀ P ∈ ts, h.get? P = some (tabObj #[]))
    (F : ∀ (w : World) (mg : Str → Option Value) (fa : Addr) (h : Heap), (K w.params).In h → h.Ns mainGlobals mg → mg d.name = some (.ref fa) →
      ∃ fd : FuncData, (∀ (s : Shared) (u : Value), BindsTo s fd ⟨[u], []⟩ [(x, u)]) ∧ (∀ p ∈ tabs (K w.params) mg, p.1 ∈ ts ∧ (K w.params).lookup p.1 = none ∧ ∃ c, codeHdIn (K w.params) c p.1 = true) ∧ ((tabs (K w.params) mg).map (·.1)).Nodup ∧
        ∀ base : Heap, (K w.params).In base → base.Ns mainGlobals mg → BM mg base → FnOk l.prog w (K w.params) mg base (CX w) k fa fd [x] (sp w mg))
    (hsp : ∀ (w : World) (mg : Str → Option Value) (H : Hp) (a : Addr) (ns : List Int), ns.length ≤ n → SqL (K w.params) H a (ns.map V.int) → (∀ p ∈ tabs (K w.params) mg, H p.1 = some (tabQ p.2)) → sp w mg [.ref a] H (fun v _ => v = .bl true) fun _ _ _ => False)
    (hCX : ∀ (w : World) (H : Hp) (s : Shared) (e : Value) (s' : Shared), CX w [] H s (fun _ _ _ => False) e s' → False) :
    WalkO q loose XP YP l.row.toRowW d [] (fun f vs => PySem.call f vs) := by
  refine Att.attach_call hn hdf fun w s₀ s₁ mg mb fa o pm cd doc a vs ns G Y ho hd hcd hmg hobj hints hlen hg => ?_
  have KX := hY w _ Y
  have TX := hY2 w _ Y
  obtain ⟨fd, hb, hT, nd, hF⟩ := F w mg fa _ KX G.T.g hmg
  have hbm : BM mg s₁.heap := by
    obtain ⟨bm, ob, b1, b2, b3, b4, b5, b6⟩ := G.T.bmain
    have bG : bm ≠ mainGlobals := fun z => by
      obtain ⟨o, es, ep, e, hd, _⟩ := G.T.g
      rw [z, e] at b3; cases b3; rw [hd] at b6; cases b6
    exact ⟨bm, ob, b1, b2, bG, b3, b4, b5, b6⟩
  exact law_callT KX G.T.g G.T.b G.T.builtins G.T.nolimit hg hbm hobj hints (Nat.le_trans hlen hn2) hr (fun p hp => ⟨TX _ (hT p hp).1, (hT p hp).2⟩) nd hF hb (fun H hS hTb => hsp w mg H a ns hlen hS hTb) fun H e s' => hCX w H s₁ e s'
end L2


set_option Elab.async false
set_option linter.all false
set_option maxRecDepth 100000
set_option maxHeartbeats 1000000
namespace L2
open PySem PySem.Spec PyProof.Rows PySem.W
section
variable {X : Cx}

def rMin1 (K : Frag) : List V → Hp → VK → Prop := fun xs H Q => ∃ (p : Addr) (ns : List Int), xs = [.ref p] ∧ SqL K H p (ns.map V.int) ∧ ns ≠ [] ∧ ∀ m, m ∈ ns → (∀ a ∈ ns, m ≤ a) → Q (.int m) H
def rMax1 (K : Frag) : List V → Hp → VK → Prop := fun xs H Q => ∃ (p : Addr) (ns : List Int), xs = [.ref p] ∧ SqL K H p (ns.map V.int) ∧ ns ≠ [] ∧ ∀ m, m ∈ ns → (∀ a ∈ ns, a ≤ m) → Q (.int m) H
end
end L2


set_option Elab.async false
set_option linter.all false
set_option maxRecDepth 100000
set_option maxHeartbeats 4000000
namespace K61
open PySem PySem.Spec PyProof.Rows L2
local macro_rules | `(tactic| walk_at "rd") => `(tactic| simp only [tIfS, tNot, tTest, tChain, rI0, rI, rU, tVar, tC, tB, tIf, tAndV, tOrV, tNotV, tCall, tCallX, tCons, tNil, tAsg, tSeq, tRet, tNext, tOp, tUn, tAnd, tOr, tDrop, gName, gSub, tAug, tCB, tSl, tRaise, tLst, tTup, L2.start, tYes, gTup, gCons, gNil, iniC, Option.join_some, Option.join_none, rEq, rNe, scal_ii, scal_bb, scal_ss, scal_nn, scal_ni, scal_in, tBM, Bool.true_eq_false, List.map_cons, List.map_nil, List.cons_append, List.nil_append, List.length_cons, List.length_nil, List.replicate, List.append_nil, List.set_cons_zero, List.set_cons_succ, List.getElem?_cons_zero, List.getElem?_cons_succ, Option.some.injEq, V.int.injEq, V.bl.injEq, V.ref.injEq, List.cons.injEq, and_true, true_and, exists_eq_left, exists_eq_left', exists_and_left, exists_eq, decide_eq_true_eq, Bool.not_eq_true', decide_eq_false_iff_not, cxK, and_assoc, Bool.false_eq_true, ↓reduceIte, tFor_eq, tWhile_eq, tComp_eq, iRng1, iRng2, iList, iTup, iZip, iRev, rIxL, rIxT, rSetL, rCat, rIsi, rSum, rCount, tDelT, rPop, rIntB, tPar, rInsert, rIndex, rLen, rLof, rTof, tChain3, rBits, iSeq, tBM0, rEqD, tRngV, rLstR, tRngV2, rLstR2, rIn, gSubSl, rSlQ, iEnum, iEnumT, rInD, tMaxDT, tMaxD, tMinD, rIndexF, rSorted, rOr, rAll, rAny, ipM, rIxQ, tRev, rSlL, tPart, tNoPart, tSl, ipI, rAppend, rRep, cOf_ref, cOf_ty, rTupR2, rPopAt, iZipQ, rExtend, rSortT, rSlU, tAugS, iRevR, rMulS, rJoin, iStr, rSumT, V.str.injEq, rCountS, rRstrip, rLenS, rLtT, rRepU, rRemP, rIsAsc, rIsDig, rStarts, rStrI, rIntS, rSplit, tFldC, sFldC, tMeth, tMake, tDNewK, tDGet, sDPut, tDIn, tDNotIn, rSortD, rCatU, rSlV, rCatK, tMethX, iZip3, iEnumZ, tDNewT, tDSetD, tDVals, rLVals, rNInD, tLam, tSortR1, tSortR2, rMin1, rMax1])
def top (i : Nat) : Stmt := PySem.Challenge.pw_dipkin_k61_the_nearest_judged.main.body.getD i (.Pass ⟨0, 0, 0, 0⟩)
abbrev s_settle : Stmt := top 6
abbrev s_tree_of : Stmt := top 7
abbrev s_way_up : Stmt := top 8
abbrev s_is_tree : Stmt := top 9
abbrev s_need_tree : Stmt := top 10
abbrev s_flat_number : Stmt := top 12
abbrev s_flattest : Stmt := top 13
abbrev s_heights_of : Stmt := top 15
abbrev s_is_over : Stmt := top 16
abbrev s_pair_shows : Stmt := top 18
abbrev s_nearest_right : Stmt := top 19
abbrev s__law_deal : Stmt := top 21
abbrev s__law_take : Stmt := top 22
abbrev s__law_row : Stmt := top 23
abbrev s__law_elder : Stmt := top 24
abbrev s__law_tree : Stmt := top 25
abbrev s__law_over : Stmt := top 26
abbrev s__law_flat : Stmt := top 27
abbrev s__law_either : Stmt := top 28
abbrev s__law_wide_row : Stmt := top 29
abbrev s__law_least_row : Stmt := top 30
abbrev s__law_kin_row : Stmt := top 31
abbrev s__law_over_by : Stmt := top 32
abbrev s__law_far : Stmt := top 33
abbrev s__law_any_row : Stmt := top 34
abbrev s__law_is_so : Stmt := top 35
abbrev s__law_pairs : Stmt := top 36
abbrev s__law_bent : Stmt := top 37
abbrev s__law_parts : Stmt := top 38
abbrev s_law : Stmt := top 39
structure Txt (K : PySem.W.Frag) (mg : Str → Option Value) : Prop where
  b_abs : mg "abs" = none
  b_all : mg "all" = none
  b_any : mg "any" = none
  b_bool : mg "bool" = none
  b_int : mg "int" = none
  b_isinstance : mg "isinstance" = none
  b_len : mg "len" = none
  b_list : mg "list" = none
  b_max : mg "max" = none
  b_min : mg "min" = none
  b_range : mg "range" = none
  b_sorted : mg "sorted" = none
  b_tuple : mg "tuple" = none
  b_zip : mg "zip" = none
  c_DipError : mg "DipError" = some (.ref (clsAt mg "DipError"))
  x_DipError : PySem.W.excIn K (clsAt mg "DipError") bmV newV = true
  c_Unlike : mg "Unlike" = some (.ref (clsAt mg "Unlike"))
  x_Unlike : PySem.W.excIn K (clsAt mg "Unlike") bmV newV = true
  c_NoTree : mg "NoTree" = some (.ref (clsAt mg "NoTree"))
  x_NoTree : PySem.W.excIn K (clsAt mg "NoTree") bmV newV = true
  m_MOST_PLACES : mg "MOST_PLACES" = some (.int 40 (tokAt mg "MOST_PLACES"))
def tabsL (K : PySem.W.Frag) (mg : Str → Option Value) : List (Addr × Str) := [(tabP K mg "_law_kin_row", lamQ "_law_kin_row")]
abbrev SpT := PySem.W.Frag → (Str → Option Value) → Sp
def spLaw (K : PySem.W.Frag) (mg : Str → Option Value) : Sp := fun vs H Q E => ∃ (a : Addr) (ns : List Int), vs = [.ref a] ∧ SqL K H a (ns.map V.int) ∧ ns.length ≤ 63 ∧ (∀ p ∈ tabsL K mg, H p.1 = some (tabQ p.2)) ∧ ∀ H', Q (.bl true) H'
def sp__law_whole : SpT := fun K mg vs H Q E => ∃ i : Int, vs = [.int i] ∧ Q (.bl true) H

def sp__law_deal : SpT := fun K mg vs H Q E => ∃ (a : Addr) (ns : List Int) (k : Int), vs = [.ref a, .int k] ∧ SqL K H a (ns.map V.int) ∧ 0 ≤ k ∧ k ≤ 100 ∧ ∀ p H', H p = none → Same H H' → PotAt H' p → Q (.ref p) H'
def sp__law_take : SpT := fun K mg vs H Q E => ∃ (p : Addr) (many : Int), vs = [.ref p, .int many] ∧ 0 < many ∧ many ≤ 1000000001 ∧ PotAt H p ∧ ∀ d H', 0 ≤ d → d < many → PotAt H' p → Exc p H H' → Q (.int d) H'
def sp__law_row : SpT := fun K mg vs H Q E => ∃ (p : Addr) (most : Int), vs = [.ref p, .int most] ∧ 0 ≤ most ∧ most ≤ 1000 ∧ PotAt H p ∧ ∀ (r : Addr) (ns : List Int) H', H r = none → (ns.length : Int) ≤ most → H' r = some (.lst (ns.map V.int)) → PotAt H' p → Exc p H H' → Q (.ref r) H'
def sp__law_elder : SpT := fun K mg vs H Q E => ∃ (r : Addr) (ns : List Int) (i : Nat), vs = [.ref r, .int (i : Int)] ∧ (SqL K H r (ns.map V.int) ∨ SqT K H r (ns.map V.int)) ∧ ns.length ≤ 1000 ∧ i < ns.length ∧ ∀ (e : Int) H', ElderIs (nth ns) ns.length i e → Same H H' → Q (.int e) H'
def sp__law_tree : SpT := fun K mg vs H Q E => ∃ (r : Addr) (ns : List Int), vs = [.ref r] ∧ (SqL K H r (ns.map V.int) ∨ SqT K H r (ns.map V.int)) ∧ ns.length ≤ 1000 ∧ ∀ (t : Addr) (es : List Int) H', TreeIs ns es → Same H H' → H' t = some (.tup (es.map V.int)) → Q (.ref t) H'

def sp_settle : SpT := fun K mg vs H Q E => ∃ (el sp : Addr) (es : List Int) (A B : List Nat) (i : Nat), vs = [.ref el, .ref sp, .int i, .int A.length] ∧ H el = some (.lst (es.map V.int)) ∧ H sp = some (.lst (natsV (A ++ B))) ∧ el ≠ sp ∧ i < es.length ∧ (∀ q ∈ A ++ B, q < es.length) ∧ (A ++ B).length ≤ 1000 ∧
  ∀ H', (∀ b o, b ≠ el → b ≠ sp → H b = some o → H' b = some o) → H' el = some (.lst ((setE es A B i).map V.int)) → H' sp = some (.lst (natsV (A ++ [i]))) → Q .non H'
def sp_tree_of : SpT := fun K mg vs H Q E => ∃ (r : Addr) (ns : List Int), vs = [.ref r] ∧ (SqL K H r (ns.map V.int) ∨ SqT K H r (ns.map V.int)) ∧ ns.length ≤ 1000 ∧ ∀ (t : Addr) (es : List Int) H', TreeIs ns es → Same H H' → H' t = some (.tup (es.map V.int)) → Q (.ref t) H'

def sp_way_up : SpT := fun K mg vs H Q E => ∃ (t : Addr) (T : List Int) (p : Nat), vs = [.ref t, .int p] ∧ (SqL K H t (T.map V.int) ∨ SqT K H t (T.map V.int)) ∧ T.length ≤ 1000 ∧ p < T.length ∧ ∀ (w : Addr) H', H w = none → Same H H' → H' w = some (.lst ((wayI T p).map V.int)) → Q (.ref w) H'

def sp_is_tree : SpT := fun K mg vs H Q E => ∃ (t : Addr) (T : List Int), vs = [.ref t] ∧ H t = some (.tup (T.map V.int)) ∧ T.length ≤ 1000 ∧ (GoodT T → ∀ H', Same H H' → Q (.bl true) H') ∧ (¬ GoodT T → ∀ H', Same H H' → Q (.bl false) H')

def sp_need_tree : SpT := fun K mg vs H Q E => ∃ (t : Addr) (T : List Int), vs = [.ref t] ∧ H t = some (.tup (T.map V.int)) ∧ T.length ≤ 1000 ∧ (GoodT T → ∀ H', Same H H' → Q .non H') ∧ (¬ GoodT T → ∀ H', Same H H' → E (.ref (clsAt mg "NoTree")) none H')

def sp_flat_number : SpT := fun K mg vs H Q E => ∃ (t : Addr) (T : List Int) (p : Nat), vs = [.ref t, .int p] ∧ H t = some (.tup (T.map V.int)) ∧ T.length ≤ 1000 ∧ p < T.length ∧ ∀ H', Same H H' → Q (.int (flatN T p : Nat)) H'
def sp_flattest : SpT := fun K mg vs H Q E => ∃ (t : Addr) (T : List Int), vs = [.ref t] ∧ H t = some (.tup (T.map V.int)) ∧ T.length ≤ 1000 ∧ (GoodT T → ∀ (t' : Addr) H', Same H H' → H' t' = some (.tup ((flatI T).map V.int)) → Q (.ref t') H') ∧ (¬ GoodT T → ∀ H', Same H H' → E (.ref (clsAt mg "NoTree")) none H')

def sp__law_over : SpT := fun K mg vs H Q E => ∃ (t : Addr) (T : List Int) (p : Nat), vs = [.ref t, .int p] ∧ H t = some (.tup (T.map V.int)) ∧ T.length ≤ 1000 ∧ p < T.length ∧ endsIn T T.length (nth T p) ∧ ∀ (w : Addr) H', H w = none → Same H H' → H' w = some (.lst ((wayI T p).map V.int)) → Q (.ref w) H'
def sp__law_flat : SpT := fun K mg vs H Q E => ∃ (t : Addr) (T : List Int), vs = [.ref t] ∧ H t = some (.tup (T.map V.int)) ∧ T.length ≤ 1000 ∧ (∀ p, p < T.length → endsIn T T.length (nth T p)) ∧ ∀ (w : Addr) H', H w = none → Same H H' → H' w = some (.lst ((flatI T).map V.int)) → Q (.ref w) H'

def sp__law_either : SpT := fun K mg vs H Q E => ∃ (p r : Addr) (ns : List Int), vs = [.ref p, .ref r] ∧ PotAt H p ∧ r ≠ p ∧ H r = some (.lst (ns.map V.int)) ∧ ns.length ≤ 1000 ∧ ∀ (u : Addr) H', H u = none → (H' u = some (.lst (ns.map V.int)) ∨ H' u = some (.tup (ns.map V.int))) → PotAt H' p → Exc p H H' → Q (.ref u) H'

def sp__law_wide_row : SpT := fun K mg vs H Q E => ∃ p : Addr, vs = [.ref p] ∧ PotAt H p ∧ ∀ (r : Addr) (ns : List Int) H', H r = none → ns.length ≤ 40 → H' r = some (.lst (ns.map V.int)) → PotAt H' p → Exc p H H' → Q (.ref r) H'

/-- the heights of a row by the flat one -/
def hgt (F ns : List Int) : List Int := (List.range F.length).map fun i => nth ns i - nth F i
def sp_heights_of : SpT := fun K mg vs H Q E => ∃ (f r : Addr) (F ns : List Int), vs = [.ref f, .ref r] ∧ H f = some (.tup (F.map V.int)) ∧ (SqL K H r (ns.map V.int) ∨ SqT K H r (ns.map V.int)) ∧ F.length ≤ 1000 ∧ ns.length ≤ 1000 ∧ (ns.length = F.length → ∀ (l : Addr) H', H l = none → Same H H' → H' l = some (.lst ((hgt F ns).map V.int)) → Q (.ref l) H') ∧ (ns.length ≠ F.length → ∀ H', Same H H' → E (.ref (clsAt mg "Unlike")) none H')
def sp_is_over : SpT := fun K mg vs H Q E => ∃ (t : Addr) (T : List Int) (a b : Int), vs = [.ref t, .int a, .int b] ∧ H t = some (.tup (T.map V.int)) ∧ T.length ≤ 1000 ∧ ∀ H', Same H H' → Q (.bl (decide (0 ≤ b ∧ b < T.length ∧ a ∈ wayI T b.toNat))) H'

/-- the least row by the places over each: the greatest of what they ask -/
def DueIs (T ls ds : List Int) : Prop := ds.length = T.length ∧ ∀ p, p < T.length → (∃ o ∈ p :: way T p, nth ds p = nth ls o + nth (flatI T) p - nth (flatI T) o) ∧ ∀ o ∈ p :: way T p, nth ls o + nth (flatI T) p - nth (flatI T) o ≤ nth ds p
def sp__law_least_row : SpT := fun K mg vs H Q E => ∃ (t a : Addr) (T ls : List Int), vs = [.ref t, .ref a] ∧ H t = some (.tup (T.map V.int)) ∧ H a = some (.lst (ls.map V.int)) ∧ GoodT T ∧ ls.length = T.length ∧ ∀ (l : Addr) (ds : List Int) H', H l = none → Same H H' → DueIs T ls ds → H' l = some (.lst (ds.map V.int)) → Q (.ref l) H'
def sp__law_kin_row : SpT := fun K mg vs H Q E => ∃ (p t : Addr) (T : List Int), vs = [.ref p, .ref t] ∧ PotAt H p ∧ H t = some (.tup (T.map V.int)) ∧ GoodT T ∧ TabH K mg "_law_kin_row" H ∧ ∀ (r : Addr) (ns : List Int) H', H r = none → ns.length = T.length → H' r = some (.lst (ns.map V.int)) → PotAt H' p → Exc p H H' → Q (.ref r) H'

def PairAt (H : Hp) (v : V) : Option (Int × Int) → Prop
  | none => v = .non
  | some z => ∃ a : Addr, v = .ref a ∧ H a = some (.tup [.int z.1, .int z.2])
def overN (T : List Int) (a b : Int) : Prop := 0 ≤ b ∧ b < T.length ∧ a ∈ wayI T b.toNat
def showsN (T hs : List Int) (far : Int) : Option (Int × Int) → Prop
  | none => far = 0
  | some z => far ≠ 0 ∧ overN T z.1 z.2 ∧ (nth hs z.1.toNat - nth hs z.2.toNat = 2 * far ∨ nth hs z.1.toNat - nth hs z.2.toNat = 2 * far - 1)
def rightN (T ns : List Int) (far : Int) (ms : List Int) (pr : Option (Int × Int)) : Prop := TreeIs ms T ∧ (∀ p, p < T.length → (if nth ms p - nth ns p < 0 then -(nth ms p - nth ns p) else nth ms p - nth ns p) ≤ far) ∧ showsN T (hgt (flatI T) ns) far pr
def sp_pair_shows : SpT := fun K mg vs H Q E => ∃ (t h : Addr) (far : Int) (v : V) (T hs : List Int) (pr : Option (Int × Int)), vs = [.ref t, .ref h, .int far, v] ∧ H t = some (.tup (T.map V.int)) ∧ H h = some (.lst (hs.map V.int)) ∧ PairAt H v pr ∧ GoodT T ∧ hs.length = T.length ∧ ∀ (z : Bool) H', (z = true ↔ showsN T hs far pr) → Same H H' → Q (.bl z) H'
def sp_nearest_right : SpT := fun K mg vs H Q E => ∃ (t r m : Addr) (far : Int) (v : V) (T ns ms : List Int) (pr : Option (Int × Int)), vs = [.ref t, .ref r, .int far, .ref m, v] ∧ H t = some (.tup (T.map V.int)) ∧ (SqL K H r (ns.map V.int) ∨ SqT K H r (ns.map V.int)) ∧ (SqL K H m (ms.map V.int) ∨ SqT K H m (ms.map V.int)) ∧ PairAt H v pr ∧ GoodT T ∧ ns.length = T.length ∧ ms.length ≤ 1000 ∧ ∀ (z : Bool) H', (z = true ↔ rightN T ns far ms pr) → Same H H' → Q (.bl z) H'
def obN (F ns : List Int) (a b : Nat) : Int := nth ns a + nth F b - nth F a - nth ns b
def sp__law_over_by : SpT := fun K mg vs H Q E => ∃ (f r : Addr) (F ns : List Int) (a b : Nat), vs = [.ref f, .ref r, .int (a : Int), .int (b : Int)] ∧ H f = some (.lst (F.map V.int)) ∧ H r = some (.lst (ns.map V.int)) ∧ F.length = ns.length ∧ a < ns.length ∧ b < ns.length ∧ Q (.int (obN F ns a b)) H
/-- half of the most that a place lies too low under one over it, upward -/
def FarIs (T ns : List Int) (far : Int) : Prop := 0 ≤ far ∧ (∀ b, b < T.length → ∀ a ∈ way T b, obN (flatI T) ns a b ≤ 2 * far) ∧ (far = 0 ∨ ∃ b, b < T.length ∧ ∃ a ∈ way T b, obN (flatI T) ns a b = 2 * far ∨ obN (flatI T) ns a b = 2 * far - 1)
def sp__law_far : SpT := fun K mg vs H Q E => ∃ (t r : Addr) (T ns : List Int), vs = [.ref t, .ref r] ∧ H t = some (.tup (T.map V.int)) ∧ H r = some (.lst (ns.map V.int)) ∧ GoodT T ∧ ns.length = T.length ∧ ∀ (far : Int) H', FarIs T ns far → Same H H' → Q (.int far) H'
def sp__law_any_row : SpT := fun K mg vs H Q E => ∃ (p t : Addr) (T : List Int), vs = [.ref p, .ref t] ∧ PotAt H p ∧ H t = some (.tup (T.map V.int)) ∧ GoodT T ∧ TabH K mg "_law_kin_row" H ∧ ∀ (r : Addr) (ns : List Int) H', H r = none → ns.length = T.length → H' r = some (.lst (ns.map V.int)) → PotAt H' p → Exc p H H' → Q (.ref r) H'
def sp__law_is_so : SpT := fun K mg vs H Q E => ∃ (t r m : Addr) (far : Int) (v : V) (T ns ms : List Int) (pr : Option (Int × Int)), vs = [.ref t, .ref r, .int far, .ref m, v] ∧ H t = some (.tup (T.map V.int)) ∧ H r = some (.lst (ns.map V.int)) ∧ H m = some (.lst (ms.map V.int)) ∧ PairAt H v pr ∧ GoodT T ∧ ns.length = T.length ∧ ms.length ≤ 1000 ∧ ∀ (z : Bool) H', (z = true ↔ rightN T ns far ms pr) → Same H H' → Q (.bl z) H'
def PrsIn (H : Hp) (as : List Addr) (zs : List (Nat × Nat)) : Prop := as.length = zs.length ∧ ∀ (i : Nat) (a : Addr) (z : Nat × Nat), as[i]? = some a → zs[i]? = some z → H a = some (.tup [.int (z.1 : Int), .int (z.2 : Int)])
def sp__law_pairs : SpT := fun K mg vs H Q E => ∃ (t : Addr) (T : List Int), vs = [.ref t] ∧ H t = some (.tup (T.map V.int)) ∧ GoodT T ∧ ∀ (l : Addr) (as : List Addr) (zs : List (Nat × Nat)) H', H l = none → H' l = some (.lst (as.map V.ref)) → PrsIn H' as zs → as.length ≤ 1600 → (∀ z : Nat × Nat, z ∈ zs ↔ z.2 < T.length ∧ z.1 ∈ way T z.2) → Same H H' → Q (.ref l) H'
def sp__law_parts : SpT := fun K mg vs H Q E => ∃ (t r : Addr) (T ns : List Int), vs = [.ref t, .ref r] ∧ H t = some (.tup (T.map V.int)) ∧ H r = some (.lst (ns.map V.int)) ∧ GoodT T ∧ ns.length = T.length ∧ ∀ (u m : Addr) (far : Int) (v : V) (ms : List Int) (pr : Option (Int × Int)) H', H m = none → ms.length = T.length → rightN T ns far ms pr → PairAt H' v pr → H' u = some (.tup [.int far, .ref m, v]) → H' m = some (.lst (ms.map V.int)) → Same H H' → Q (.ref u) H'
def sp__law_bent : SpT := fun K mg vs H Q E => ∃ (p t c m : Addr) (far : Int) (v : V) (T ms : List Int) (pr : Option (Int × Int)), vs = [.ref p, .ref t, .ref c] ∧ PotAt H p ∧ H t = some (.tup (T.map V.int)) ∧ H c = some (.tup [.int far, .ref m, v]) ∧ H m = some (.lst (ms.map V.int)) ∧ m ≠ p ∧ PairAt H v pr ∧ GoodT T ∧ ms.length ≤ 1000 ∧ TabH K mg "_law_kin_row" H ∧ ∀ (u m' : Addr) (far' : Int) (v' : V) (ms' : List Int) (pr' : Option (Int × Int)) H', H m' = none → ms'.length ≤ 1000 → PairAt H' v' pr' → H' u = some (.tup [.int far', .ref m', v']) → H' m' = some (.lst (ms'.map V.int)) → PotAt H' p → Exc p H H' → Q (.ref u) H'

section
variable {P : Program} {w : World} {K : PySem.W.Frag} {mg : Str → Option Value} {base : Heap}
theorem sc_settle : FnScope ["elders", "spine", "place", "keep"] ["elders", "spine", "place", "keep"] (defScope s_settle) := ⟨rfl, rfl, rfl, by decide +kernel, rfl, by decide +kernel, by decide +kernel⟩
theorem sc_tree_of : FnScope ["row", "elders", "spine", "place", "keep"] ["row"] (defScope s_tree_of) := ⟨rfl, rfl, rfl, by decide +kernel, rfl, by decide +kernel, by decide +kernel⟩
theorem sc_way_up : FnScope ["tree", "place", "way", "at"] ["tree", "place"] (defScope s_way_up) := ⟨rfl, rfl, rfl, by decide +kernel, rfl, by decide +kernel, by decide +kernel⟩
theorem sc_is_tree : FnScope ["tree", "depths"] ["tree"] (defScope s_is_tree) := ⟨rfl, rfl, rfl, by decide +kernel, rfl, by decide +kernel, by decide +kernel⟩
theorem sc_need_tree : FnScope ["tree"] ["tree"] (defScope s_need_tree) := ⟨rfl, rfl, rfl, by decide +kernel, rfl, by decide +kernel, by decide +kernel⟩
theorem sc_flat_number : FnScope ["tree", "place"] ["tree", "place"] (defScope s_flat_number) := ⟨rfl, rfl, rfl, by decide +kernel, rfl, by decide +kernel, by decide +kernel⟩
theorem sc_flattest : FnScope ["tree"] ["tree"] (defScope s_flattest) := ⟨rfl, rfl, rfl, by decide +kernel, rfl, by decide +kernel, by decide +kernel⟩
theorem sc_heights_of : FnScope ["flat", "row"] ["flat", "row"] (defScope s_heights_of) := ⟨rfl, rfl, rfl, by decide +kernel, rfl, by decide +kernel, by decide +kernel⟩
theorem sc_is_over : FnScope ["tree", "a", "b"] ["tree", "a", "b"] (defScope s_is_over) := ⟨rfl, rfl, rfl, by decide +kernel, rfl, by decide +kernel, by decide +kernel⟩
theorem sc_pair_shows : FnScope ["tree", "heights", "far", "pair", "a", "b"] ["tree", "heights", "far", "pair"] (defScope s_pair_shows) := ⟨rfl, rfl, rfl, by decide +kernel, rfl, by decide +kernel, by decide +kernel⟩
theorem sc_nearest_right : FnScope ["tree", "row", "far", "made", "pair", "heights", "near"] ["tree", "row", "far", "made", "pair"] (defScope s_nearest_right) := ⟨rfl, rfl, rfl, by decide +kernel, rfl, by decide +kernel, by decide +kernel⟩
theorem sc__law_deal : FnScope ["script", "k", "cell", "seed", "number", "turn"] ["script", "k"] (defScope s__law_deal) := ⟨rfl, rfl, rfl, by decide +kernel, rfl, by decide +kernel, by decide +kernel⟩
theorem sc__law_take : FnScope ["pot", "many", "digit"] ["pot", "many"] (defScope s__law_take) := ⟨rfl, rfl, rfl, by decide +kernel, rfl, by decide +kernel, by decide +kernel⟩
theorem sc__law_row : FnScope ["pot", "most", "many", "kind", "turn", "row", "k"] ["pot", "most"] (defScope s__law_row) := ⟨rfl, rfl, rfl, by decide +kernel, rfl, by decide +kernel, by decide +kernel⟩
theorem sc__law_elder : FnScope ["row", "place", "earlier", "later"] ["row", "place"] (defScope s__law_elder) := ⟨rfl, rfl, rfl, by decide +kernel, rfl, by decide +kernel, by decide +kernel⟩
theorem sc__law_tree : FnScope ["row"] ["row"] (defScope s__law_tree) := ⟨rfl, rfl, rfl, by decide +kernel, rfl, by decide +kernel, by decide +kernel⟩
theorem sc__law_over : FnScope ["tree", "place", "way", "here"] ["tree", "place"] (defScope s__law_over) := ⟨rfl, rfl, rfl, by decide +kernel, rfl, by decide +kernel, by decide +kernel⟩
theorem sc__law_flat : FnScope ["tree"] ["tree"] (defScope s__law_flat) := ⟨rfl, rfl, rfl, by decide +kernel, rfl, by decide +kernel, by decide +kernel⟩
theorem sc__law_either : FnScope ["pot", "some"] ["pot", "some"] (defScope s__law_either) := ⟨rfl, rfl, rfl, by decide +kernel, rfl, by decide +kernel, by decide +kernel⟩
theorem sc__law_wide_row : FnScope ["pot", "row", "way"] ["pot"] (defScope s__law_wide_row) := ⟨rfl, rfl, rfl, by decide +kernel, rfl, by decide +kernel, by decide +kernel⟩
theorem sc__law_least_row : FnScope ["tree", "least", "flat", "told", "place", "some"] ["tree", "least"] (defScope s__law_least_row) := ⟨rfl, rfl, rfl, by decide +kernel, rfl, by decide +kernel, by decide +kernel⟩
theorem sc__law_kin_row : FnScope ["pot", "tree", "flat", "row", "place", "elder", "more"] ["pot", "tree"] (defScope s__law_kin_row) := ⟨rfl, rfl, rfl, by decide +kernel, rfl, by decide +kernel, by decide +kernel⟩
theorem sc__law_over_by : FnScope ["flat", "row", "a", "b"] ["flat", "row", "a", "b"] (defScope s__law_over_by) := ⟨rfl, rfl, rfl, by decide +kernel, rfl, by decide +kernel, by decide +kernel⟩
theorem sc__law_far : FnScope ["tree", "row", "flat", "most", "b", "a"] ["tree", "row"] (defScope s__law_far) := ⟨rfl, rfl, rfl, by decide +kernel, rfl, by decide +kernel, by decide +kernel⟩
theorem sc__law_any_row : FnScope ["pot", "tree", "row", "way"] ["pot", "tree"] (defScope s__law_any_row) := ⟨rfl, rfl, rfl, by decide +kernel, rfl, by decide +kernel, by decide +kernel⟩
theorem sc__law_is_so : FnScope ["tree", "row", "far", "made", "pair", "a", "b"] ["tree", "row", "far", "made", "pair"] (defScope s__law_is_so) := ⟨rfl, rfl, rfl, by decide +kernel, rfl, by decide +kernel, by decide +kernel⟩
theorem sc__law_pairs : FnScope ["tree", "told", "b"] ["tree"] (defScope s__law_pairs) := ⟨rfl, rfl, rfl, by decide +kernel, rfl, by decide +kernel, by decide +kernel⟩
theorem sc__law_bent : FnScope ["pot", "tree", "parts", "far", "made", "pair", "way", "at", "some"] ["pot", "tree", "parts"] (defScope s__law_bent) := ⟨rfl, rfl, rfl, by decide +kernel, rfl, by decide +kernel, by decide +kernel⟩
theorem sc__law_parts : FnScope ["tree", "row", "far", "made", "flat", "pairs"] ["tree", "row"] (defScope s__law_parts) := ⟨rfl, rfl, rfl, by decide +kernel, rfl, by decide +kernel, by decide +kernel⟩
theorem sc_law : FnScope ["script", "k", "pot", "tree", "row", "parts", "turn", "far", "made", "pair", "bend", "handed", "told"] ["script"] (defScope s_law) := ⟨rfl, rfl, rfl, by decide +kernel, rfl, by decide +kernel, by decide +kernel⟩
theorem ok__law_deal {f : Addr} {fd : FuncData} (F : Fun K "_law_deal" "_law_deal" s__law_deal f fd)  (T : Txt K mg) : FnOk P w K mg base (CXE P w) 1 f fd ["script", "k"] (sp__law_deal K mg) := by
  refine F.okX sc__law_deal (fun vs H Q E h => ?_) (fun cdv A outer s H vs Q E hr h => ?_)
  · obtain ⟨a, ns, k, rfl, _⟩ := h; rfl
  obtain ⟨a, ns, k, rfl, hS, h0, h1, k1⟩ := h
  refine ⟨_, (pss_cons (ps_set (i := 2) sc__law_deal.nd rfl (Or.inl rfl) pe_int)
      (pss_cons (ps_if (pt_cmpR op_lt (pv 1) (pe_callB (call_lenK (K := K) rfl) rfl T.b_len PySem.boot_len (pa_cons (pv 0) pa_nil)) (nomark _)) (pss_one (ps_set (i := 2) sc__law_deal.nd rfl (Or.inl rfl) (pe_op op_mod (pe_ix ix_list (pv 0) (pv 1) (fun _ _ => rfl)) (pe_op op_mulX (pe_op op_mulX (pe_op op_mulX (pe_op op_pow pe_int pe_int) (pe_op op_pow pe_int pe_int)) (pe_op op_pow pe_int pe_int)) (pe_op op_pow pe_int pe_int))))) pss_nil)
      (pss_cons (ps_if (pt_cmpR op_ge (pv 2) (pe_op op_pow pe_int pe_int) (nomark _)) (pss_one (ps_ret (pe_lst (pa_cons (pe_op op_sub (pv 2) (pe_op op_pow pe_int pe_int)) pa_nil)))) pss_nil)
      (pss_cons (ps_set (i := 3) sc__law_deal.nd rfl (Or.inl rfl) (pe_op op_add (pe_op op_add (pe_op op_mod (pv 2) pe_int) (pe_op op_mulX pe_int (pv 1))) pe_int))
      (pss_cons (ps_set (i := 4) sc__law_deal.nd rfl (Or.inl rfl) pe_int)
      (pss_cons (ps_nox (ps_for PassesOwn.never rfl (pi_range1 rfl T.b_range (pa_cons pe_int pa_nil)) (pg_name (i := 5) sc__law_deal.nd rfl (Or.inl rfl)) (pss_cons (ps_set (i := 3) sc__law_deal.nd rfl (Or.inl rfl) (pe_op op_mod (pe_op op_add (pe_op op_mulX (pv 3) pe_int) pe_int) pe_int))
      (pss_one (ps_set (i := 4) sc__law_deal.nd rfl (Or.inl rfl) (pe_op op_add (pe_op op_mulX (pv 4) pe_int) (pe_op op_mod (pe_op op_fdivL (pe_op op_mod (pe_op op_mulX (pv 3) (pv 3)) pe_int) pe_int) pe_int)))))))
      (pss_one (ps_ret (pe_lst (pa_cons (pv 4) pa_nil)))))))))), ?_⟩
  simp only [tIfS, tNot, tTest, tChain, rI0, rI, rU, tVar, tC, tB, tIf, tAndV, tOrV, tNotV, tCall, tCallX, tCons, tNil, tAsg, tSeq, tRet, tNext, tOp, tUn, tAnd, tOr, tDrop, gName, gSub, tAug, tCB, tSl, tRaise, tLst, tTup, L2.start, tYes, gTup, gCons, gNil, iniC, Option.join_some, Option.join_none, rEq, rNe, scal_ii, scal_bb, scal_ss, scal_nn, scal_ni, scal_in, tBM, Bool.true_eq_false, List.map_cons, List.map_nil, List.cons_append, List.nil_append, List.length_cons, List.length_nil, List.replicate, List.append_nil, List.set_cons_zero, List.set_cons_succ, List.getElem?_cons_zero, List.getElem?_cons_succ, Option.some.injEq, V.int.injEq, V.bl.injEq, V.ref.injEq, List.cons.injEq, and_true, true_and, exists_eq_left, exists_eq_left', exists_and_left, exists_eq, decide_eq_true_eq, Bool.not_eq_true', decide_eq_false_iff_not, cxK, and_assoc, Bool.false_eq_true, ↓reduceIte, tFor_eq, tWhile_eq, tComp_eq, iRng1, iRng2, iList, iTup, iZip, iRev, rIxL, rIxT, rSetL, rCat, rIsi, rSum, rCount, tDelT, rPop, rIntB, tPar, rInsert, rIndex, rLen, rLof, rTof, tChain3, rBits, iSeq, tBM0, rEqD, tRngV, rLstR, tRngV2, rLstR2, rIn, gSubSl, rSlQ, iEnum, iEnumT, rInD, tMaxDT, tMaxD, tMinD, rIndexF, rSorted, rOr, rAll, rAny, ipM, rIxQ, tRev, rSlL, tPart, tNoPart, tSl, ipI, rAppend, rRep, cOf_ref, cOf_ty, rTupR2, rPopAt, iZipQ, rExtend, rSortT, rSlU, tAugS, iRevR, rMulS, rJoin, iStr, rSumT, V.str.injEq, rCountS, rRstrip, rLenS, rLtT, rRepU, rRemP, rIsAsc, rIsDig, rStarts, rStrI, rIntS, rSplit, tFldC, sFldC, tMeth, tMake, tDNewK, tDGet, sDPut, tDIn, tDNotIn, rSortD, rCatU, rSlV, rCatK, tMethX, iZip3, iEnumZ, tDNewT, tDSetD, tDVals, rLVals, rNInD, tLam, tSortR1, tSortR2, rMin1, rMax1, cp18, cp60, qm1, qm2, qm3, qm4]
  have fin : ∀ g : Int, 0 ≤ g → ∀ p, H p = none → Q (V.ref p) (upd H p (.lst [V.int g])) := fun g hg p hp => k1 p _ hp ((Same.refl H).upd hp) ⟨_, upd_same, hg⟩
  refine ⟨_, .inl hS, ite2 (fun hk => ?_) (fun hk => ?_)⟩
  case' refine_1 =>
    obtain ⟨j, hj0⟩ := Int.eq_ofNat_of_zero_le h0
    have hj : j < (ns.map V.int).length := by omega
    refine ⟨_, hS, _, atI_at hj0 hj, ns[j]'(by simpa using hj), by simp, ite2 (fun c => ⟨by decide, fin _ (Int.sub_nonneg.mpr c)⟩) (fun _ => ⟨by decide, mul_l (by decide) (by decide), by decide, by decide, ?_⟩)⟩
  case' refine_2 =>
    refine ite2 (fun z => absurd z (by decide)) (fun _ => ⟨by decide, mul_l (by decide) (by decide), by decide, by decide, ?_⟩)
  all_goals
    refine for_range (fun i σ H' => ∃ v2 g o v5, σ = [some (.ref a), some (.int k), v2, some (.int o), some (.int g), v5] ∧ 0 ≤ g ∧ H' = H) ⟨_, 0, _, none, rfl, Int.le_refl _, rfl⟩ ?_ ?_
    · rintro i σ H' hi ⟨v2, g, o, v5, rfl, hg, rfl⟩
      walk_at "rd"
      have b1 := Int.emod_nonneg (o * 48271 + 12345) (b := 2147483647) (by decide)
      have b2 := Int.emod_lt_of_pos (o * 48271 + 12345) (b := 2147483647) (by decide)
      refine ⟨mul_r (by decide) (by decide), by decide, mul_r (by decide) (by decide), mul_l (by omega) (by omega), by decide, ⟨by decide, by decide⟩, by decide, ?_⟩
      have b3 := Int.emod_nonneg ((o * 48271 + 12345) % 2147483647 * ((o * 48271 + 12345) % 2147483647) % 2147483629 / 64) (b := 16777216) (by decide)
      have b4 := Int.mul_nonneg hg (show (0 : Int) ≤ 16777216 by decide)
      omega
    · rintro σ H' ⟨v2, g, o, v5, rfl, hg, rfl⟩
      walk_at "rd"
      exact ⟨by decide, fin g hg⟩
theorem ok__law_take {f : Addr} {fd : FuncData} (F : Fun K "_law_take" "_law_take" s__law_take f fd)  (T : Txt K mg) : FnOk P w K mg base (CXE P w) 1 f fd ["pot", "many"] (sp__law_take K mg) := by
  refine F.okX sc__law_take (fun vs H Q E h => ?_) (fun cdv A outer s H vs Q E hr h => ?_)
  · obtain ⟨p, many, rfl, _⟩ := h; rfl
  obtain ⟨p, many, rfl, h0, h1, ⟨x, hp, hx⟩, k1⟩ := h
  refine ⟨_, (pss_cons (ps_set (i := 2) sc__law_take.nd rfl (Or.inl rfl) (pe_op op_mod (pe_ix ix_list (pv 0) pe_int (fun _ _ => rfl)) (pv 1)))
      (pss_cons (ps_asg (pe_op op_fdivL (pe_ix ix_list (pv 0) pe_int (fun _ _ => rfl)) (pv 1)) (pg_sub (pv 0) pe_int set_list (fun _ => rfl)))
      (pss_one (ps_ret (pv 2))))), ?_⟩
  walk_at "rd"
  refine ⟨_, SqL.of hp, _, rfl, _, rfl, h0, ?_⟩
  refine ⟨_, SqL.of hp, _, rfl, _, rfl, ⟨h0, by omega⟩, _, hp, _, rfl, ?_⟩
  exact k1 _ _ (Int.emod_nonneg _ (by omega)) (Int.emod_lt_of_pos _ h0) ⟨_, upd_same, Int.ediv_nonneg hx (by omega)⟩ Exc.upd
theorem ok__law_row {f : Addr} {fd : FuncData} (F : Fun K "_law_row" "_law_row" s__law_row f fd) (G__law_take : Callee P w K mg base "_law_take" 1 ["pot", "many"] (sp__law_take K mg)) (T : Txt K mg) : FnOk P w K mg base (CXE P w) 2 f fd ["pot", "most"] (sp__law_row K mg) := by
  refine F.okX sc__law_row (fun vs H Q E h => ?_) (fun cdv A outer s H vs Q E hr h => ?_)
  · obtain ⟨p, most, rfl, _⟩ := h; rfl
  obtain ⟨p, most, rfl, h0, h1, hP, k1⟩ := h
  refine ⟨_, (pss_cons (ps_set (i := 2) sc__law_row.nd rfl (Or.inl rfl) (pe_callF G__law_take (hr.mono (by decide)) rfl passE (pa_cons (pv 0) (pa_cons (pe_op op_add (pv 1) pe_int) pa_nil))))
      (pss_cons (ps_set (i := 3) sc__law_row.nd rfl (Or.inl rfl) (pe_callF G__law_take (hr.mono (by decide)) rfl passE (pa_cons (pv 0) (pa_cons pe_int pa_nil))))
      (pss_cons (ps_set (i := 4) sc__law_row.nd rfl (Or.inl rfl) (pe_op op_add pe_int (pe_callF G__law_take (hr.mono (by decide)) rfl passE (pa_cons (pv 0) (pa_cons pe_int pa_nil)))))
      (pss_cons (ps_set (i := 5) sc__law_row.nd rfl (Or.inr rfl) (pe_lst pa_nil))
      (pss_cons (ps_nox (ps_for PassesOwn.never rfl (pi_range1 rfl T.b_range (pa_cons (pv 2) pa_nil)) (pg_name (i := 6) sc__law_row.nd rfl (Or.inl rfl)) (pss_one (ps_if (pt_cmpR op_lt (pv 3) pe_int (nomark _)) (pss_one (ps_expr (pe_bm PySem.F.plainAttrs_list PySem.F.slot_list_append PySem.F.type_list_append mt_append (pv 5) (pa_cons (pe_callF G__law_take (hr.mono (by decide)) rfl passE (pa_cons (pv 0) (pa_cons (pv 4) pa_nil))) pa_nil)))) (pss_one (ps_if (pt_cmpR op_eq (pv 3) pe_int (nomark _)) (pss_one (ps_expr (pe_bm PySem.F.plainAttrs_list PySem.F.slot_list_insert PySem.F.type_list_insert mt_insert (pv 5) (pa_cons (pe_callF G__law_take (hr.mono (by decide)) rfl passE (pa_cons (pv 0) (pa_cons (pe_op op_add (pv 6) pe_int) pa_nil))) (pa_cons (pv 6) pa_nil))))) (pss_one (ps_if (pt_cmpR op_eq (pv 3) pe_int (nomark _)) (pss_one (ps_expr (pe_bm PySem.F.plainAttrs_list PySem.F.slot_list_append PySem.F.type_list_append mt_append (pv 5) (pa_cons (pe_op op_sub (pe_op op_mod (pv 6) (pv 4)) (pe_op op_fdivL (pv 6) (pv 4))) pa_nil)))) (pss_one (ps_if (pt_cmpR op_eq (pv 3) pe_int (nomark _)) (pss_one (ps_expr (pe_bm PySem.F.plainAttrs_list PySem.F.slot_list_append PySem.F.type_list_append mt_append (pv 5) (pa_cons (pe_ix ix_list (pe_lst (pa_cons (pv 6) (pa_cons (pe_un un_neg (pv 6)) pa_nil))) (pe_op op_mod (pv 4) pe_int) (fun _ _ => rfl)) pa_nil)))) (pss_one (ps_if (pt_cmpR op_eq (pv 3) pe_int (nomark _)) (pss_one (ps_expr (pe_bm PySem.F.plainAttrs_list PySem.F.slot_list_append PySem.F.type_list_append mt_append (pv 5) (pa_cons (pe_op op_mulX (pe_op op_sub (pe_callF G__law_take (hr.mono (by decide)) rfl passE (pa_cons (pv 0) (pa_cons pe_int pa_nil))) pe_int) (pe_op op_pow pe_int pe_int)) pa_nil)))) (pss_one (ps_expr (pe_bm PySem.F.plainAttrs_list PySem.F.slot_list_append PySem.F.type_list_append mt_append (pv 5) (pa_cons (pe_op op_sub (pe_callF G__law_take (hr.mono (by decide)) rfl passE (pa_cons (pv 0) (pa_cons pe_int pa_nil))) pe_int) pa_nil))))))))))))))))
      (pss_cons (ps_if (pt_cmpR op_eq (pv 3) pe_int (nomark _)) (pss_one (ps_set (i := 5) sc__law_row.nd rfl (Or.inr rfl) (pe_compN ["k", "row"] [none, some 5] rfl rfl rfl (pi_range1 rfl T.b_range (pa_cons (pv 2) pa_nil)) (fun _ _ _ _ _ => (pg_name (i := 0) (show (["k", "row"] : List Str).Nodup from by decide +kernel) rfl (Or.inl rfl))) (fun _ _ _ _ _ => pifs_nil) (fun _ _ _ _ _ => (pe_bmK (K := K) rfl PySem.F.plainAttrs_list PySem.F.slot_list_index PySem.F.type_list_index (mt_index (K := K) rfl) (pv 1) (pa_cons (pv 0) pa_nil))) only_name))) pss_nil)
      (pss_one (ps_ret (pv 5))))))))), ?_⟩
  refine seqR (fun σ Hx => ∃ m : Int, σ = [some (.ref p), some (.int most), some (.int m), none, none, none, none] ∧ 0 ≤ m ∧ m ≤ most ∧ PotAt Hx p ∧ Exc p H Hx) (fun R hR => ?_) ?_
  · walk_at "rd"
    exact ⟨p, _, rfl, by omega, by omega, hP, fun d H1 d0 d1 P1 e1 => hR _ _ ⟨d, rfl, d0, by omega, P1, e1⟩⟩
  rintro σ H1 ⟨many, rfl, m0, m1, P1, e1⟩
  refine seqR (fun σ Hx => ∃ k : Int, σ = [some (.ref p), some (.int most), some (.int many), some (.int k), none, none, none] ∧ 0 ≤ k ∧ k < 8 ∧ PotAt Hx p ∧ Exc p H Hx) (fun R hR => ?_) ?_
  · walk_at "rd"
    exact ⟨p, _, rfl, by decide, by decide, P1, fun d H2 d0 d1 P2 e2 => hR _ _ ⟨d, rfl, d0, d1, P2, e1.trans e2⟩⟩
  clear P1 e1 H1
  rintro σ H1 ⟨kd, rfl, d0, d1, P1, e1⟩
  refine seqR (fun σ Hx => ∃ t : Int, σ = [some (.ref p), some (.int most), some (.int many), some (.int kd), some (.int t), none, none] ∧ 2 ≤ t ∧ t < 6 ∧ PotAt Hx p ∧ Exc p H Hx) (fun R hR => ?_) ?_
  · walk_at "rd"
    exact ⟨p, _, rfl, by decide, by decide, P1, fun d H2 d0 d1 P2 e2 => ⟨d, rfl, hR _ _ ⟨_, rfl, by omega, by omega, P2, e1.trans e2⟩⟩⟩
  clear P1 e1 H1
  rintro σ H1 ⟨tn, rfl, t0, t1, P1, e1⟩
  refine seqR (fun σ Hx => ∃ q : Addr, σ = [some (.ref p), some (.int most), some (.int many), some (.int kd), some (.int tn), some (.ref q), none] ∧ H q = none ∧ q ≠ p ∧ Hx q = some (.lst []) ∧ PotAt Hx p ∧ Exc p H Hx) (fun R hR => ?_) ?_
  · walk_at "rd"
    exact ⟨Nat.zero_le _, fun q hq => hR _ _ ⟨q, rfl, e1.free (P1.ne hq) hq, P1.ne hq, upd_same, P1.upd hq, e1.same ((Same.refl H1).upd hq)⟩⟩
  clear P1 e1 H1
  rintro σ H1 ⟨q, rfl, zq, nqp, hq1, P1, e1⟩
  refine seqR (fun σ Hx => ∃ (ns : List Int) (v6 : Option V), σ = [some (.ref p), some (.int most), some (.int many), some (.int kd), some (.int tn), some (.ref q), v6] ∧ (ns.length : Int) = many ∧ (kd = 3 → ∀ j : Nat, (j : Int) < many → (j : Int) ∈ ns) ∧ Hx q = some (.lst (ns.map V.int)) ∧ PotAt Hx p ∧ Exc p H Hx) (fun R hR => ?_) ?_
  · walk_at "rd"
    refine ⟨by omega, by omega, ?_⟩
    refine for_range (fun i σ Hx => ∃ (ns : List Int) (v6 : Option V), σ = [some (.ref p), some (.int most), some (.int many), some (.int kd), some (.int tn), some (.ref q), v6] ∧ ns.length = i ∧ (kd = 3 → ∀ j : Nat, j < i → (j : Int) ∈ ns) ∧ Hx q = some (.lst (ns.map V.int)) ∧ PotAt Hx p ∧ Exc p H Hx) ⟨[], none, rfl, rfl, (fun _ j hj => absurd hj (by omega)), hq1, P1, e1⟩ ?_ ?_
    · rintro i σ Hx hi ⟨ns, v6, rfl, hl, hin, hqx, Px, ex⟩
      have hi' : i < 1000 := by omega
      have hb : (ns.map V.int).length < sizeLine := Nat.lt_of_le_of_lt (show _ ≤ 1000 by rw [List.length_map]; omega) (by decide)
      have app : kd ≠ 3 → ∀ (y : Int) (Hy : Hp), Hy q = some (.lst (ns.map V.int)) → PotAt Hy p → Exc p H Hy → ∃ x_1, Hy q = some (HO.lst x_1) ∧ x_1.length < sizeLine ∧ ∃ ns' : List Int, ns'.length = i + 1 ∧ (kd = 3 → ∀ (j : Nat), j < i + 1 → (j : Int) ∈ ns') ∧ upd Hy q (HO.lst (x_1 ++ [V.int y])) q = some (HO.lst (List.map V.int ns')) ∧ PotAt (upd Hy q (HO.lst (x_1 ++ [V.int y]))) p ∧ Exc p H (upd Hy q (HO.lst (x_1 ++ [V.int y]))) := fun n3 y Hy hy Py ey =>
        ⟨_, hy, hb, ns ++ [y], by simp [hl], (fun z => absurd z n3), by rw [upd_same]; simp, Py.updN nqp, ey.updN zq⟩
      walk_at "rd"
      refine ite2 (fun k3 => ⟨tyV_list hqx, p, _, rfl, by omega, by omega, Px, fun d H2 d0 d1 P2 e2 => app (by omega) d H2 (e2 _ _ nqp hqx) P2 (ex.trans e2)⟩) fun k3 => ?_
      refine ite2 (fun k4 => ⟨tyV_list hqx, p, _, rfl, by omega, by omega, Px, fun d H2 d0 d1 P2 e2 => ?_⟩) fun k4 => ?_
      · refine ⟨_, d, rfl, e2 _ _ nqp hqx, d0, by omega, hb, ns.take d.toNat ++ (0 + (i : Int)) :: ns.drop d.toNat, by simp; omega, fun _ j hj => ?_, by rw [upd_same]; simp, P2.updN nqp, (ex.trans e2).updN zq⟩
        by_cases ej : j = i
        · rw [ej]; simp
        · have hm := hin k4 j (by omega)
          rw [← List.take_append_drop d.toNat ns] at hm
          rcases List.mem_append.mp hm with z | z
          · exact List.mem_append_left _ z
          · exact List.mem_append_right _ (List.mem_cons_of_mem _ z)
      refine ite2 (fun k5 => ⟨tyV_list hqx, by omega, ⟨by omega, by omega⟩, app k4 _ Hx hqx Px ex⟩) fun k5 => ?_
      refine ite2 (fun k6 => ⟨tyV_list hqx, by decide, fun u hu => ⟨by decide, ?_⟩⟩) fun k6 => ?_
      · obtain ⟨v, hv, y, rfl⟩ := atI_all (xs := [V.int (0 + (i : Int)), V.int (-(0 + (i : Int)))]) (i := tn % 2) (fun v => ∃ y : Int, v = V.int y) (by omega) (by show _ < ((2 : Nat) : Int); omega) (by
          intro x hx
          simp only [List.mem_cons, List.not_mem_nil, or_false] at hx
          rcases hx with rfl | rfl <;> exact ⟨_, rfl⟩)
        have g := (Same.refl Hx).upd (o := .lst [V.int (0 + (i : Int)), V.int (-(0 + (i : Int)))]) hu
        exact ⟨_, SqL.of upd_same, _, hv, app k4 y _ (g _ _ hqx) (Px.same g) (ex.same g)⟩
      exact ite2 (fun k7 => ⟨tyV_list hqx, p, _, rfl, by decide, by decide, Px, fun d H2 d0 d1 P2 e2 => ⟨d, rfl, cp59, mul_l (by omega) (by omega), app k4 _ H2 (e2 _ _ nqp hqx) P2 (ex.trans e2)⟩⟩) fun k7 => ⟨tyV_list hqx, p, _, rfl, by decide, by decide, Px, fun d H2 d0 d1 P2 e2 => ⟨d, rfl, app k4 _ H2 (e2 _ _ nqp hqx) P2 (ex.trans e2)⟩⟩
    · rintro σ Hx ⟨ns, v6, rfl, hl, hin, hqx, Px, ex⟩
      exact hR _ _ ⟨ns, v6, rfl, by omega, (fun z j hj => hin z j (by omega)), hqx, Px, ex⟩
  clear P1 e1 hq1 H1
  rintro σ H1 ⟨ns, v6, rfl, hl, hin, hq1, P1, e1⟩
  refine seqR (fun σ Hx => ∃ (q : Addr) (ns : List Int) (v6 : Option V), σ = [some (.ref p), some (.int most), some (.int many), some (.int kd), some (.int tn), some (.ref q), v6] ∧ H q = none ∧ (ns.length : Int) = many ∧ Hx q = some (.lst (ns.map V.int)) ∧ PotAt Hx p ∧ Exc p H Hx) (fun R hR => ?_) ?_
  · walk_at "rd"
    refine ite2 (fun k3 => ⟨by omega, by omega, ?_⟩) fun k3 => hR _ _ ⟨q, ns, v6, rfl, zq, hl, hq1, P1, e1⟩
    refine comp_map (n := many.toNat) (fun j => V.int ((ns.idxOf ((j : Nat) : Int) : Nat) : Int)) (Nat.lt_of_le_of_lt (show _ ≤ 1000 by omega) (by decide)) (fun j Hx s hj => hj) (fun Hx s => Nat.le_refl _) ?_ ?_
    · rintro j x Hx Hy hj s ⟨rfl, rfl⟩
      have e0 : ((0 : Int) + (j : Int)) = (j : Int) := by omega
      rw [e0]
      walk_at "rd"
      exact ⟨tyV_list (s _ _ hq1), _, SqL.of (s _ _ hq1), by omega, hin k3 j (by omega), CW.next hj rfl s⟩
    · intro l Hx s hlx
      have em : (List.range many.toNat).map (fun j => V.int ((ns.idxOf ((j : Nat) : Int) : Nat) : Int)) = ((List.range many.toNat).map fun j => ((ns.idxOf ((j : Nat) : Int) : Nat) : Int)).map V.int := by rw [List.map_map]; rfl
      rw [em]
      exact hR _ _ ⟨l, _, v6, rfl, e1.free ((P1.same s).ne hlx) (s.free hlx), by simp; omega, upd_same, (P1.same s).upd hlx, (e1.same s).same ((Same.refl Hx).upd hlx)⟩
  rintro σ H2 ⟨q2, ms, v6', rfl, zq2, hl2, hq2, P2, e2⟩
  walk_at "rd"
  exact k1 q2 ms _ zq2 (by omega) hq2 P2 e2
theorem ok__law_elder {f : Addr} {fd : FuncData} (F : Fun K "_law_elder" "_law_elder" s__law_elder f fd)  (T : Txt K mg) : FnOk P w K mg base (CXE P w) 1 f fd ["row", "place"] (sp__law_elder K mg) := by
  refine F.okX sc__law_elder (fun vs H Q E h => ?_) (fun cdv A outer s H vs Q E hr h => ?_)
  · obtain ⟨r, ns, i, rfl, _⟩ := h; rfl
  obtain ⟨r, ns, i, rfl, hr1, hn, hi, k1⟩ := h
  refine ⟨_, (pss_cons (ps_setCN (i := 2) ["other", "row", "place"] [none, some 0, some 1] sc__law_elder.nd rfl (Or.inl rfl) rfl rfl rfl (pi_range1 rfl T.b_range (pa_cons (pv 1) pa_nil)) (fun _ _ _ _ _ => (pg_name (i := 0) (show (["other", "row", "place"] : List Str).Nodup from by decide +kernel) rfl (Or.inl rfl))) (fun _ _ _ _ _ => pifs_one (pt_cmpR op_le (pe_ix (ix_q (K := K) rfl) (pv 1) (pv 0) (fun _ _ => rfl)) (pe_ix (ix_q (K := K) rfl) (pv 1) (pv 2) (fun _ _ => rfl)) (nomark _))) (fun _ _ _ _ _ => (pv 0)) only_name)
      (pss_cons (ps_setCN (i := 3) ["other", "row", "place"] [none, some 0, some 1] sc__law_elder.nd rfl (Or.inl rfl) rfl rfl rfl (pi_range2 rfl T.b_range (pa_cons (pe_op op_add (pv 1) pe_int) (pa_cons (pe_callB (call_lenK (K := K) rfl) rfl T.b_len PySem.boot_len (pa_cons (pv 0) pa_nil)) pa_nil))) (fun _ _ _ _ _ => (pg_name (i := 0) (show (["other", "row", "place"] : List Str).Nodup from by decide +kernel) rfl (Or.inl rfl))) (fun _ _ _ _ _ => pifs_one (pt_cmpR op_lt (pe_ix (ix_q (K := K) rfl) (pv 1) (pv 0) (fun _ _ => rfl)) (pe_ix (ix_q (K := K) rfl) (pv 1) (pv 2) (fun _ _ => rfl)) (nomark _))) (fun _ _ _ _ _ => (pv 0)) only_name)
      (pss_cons (ps_if (PW.pt (pw_or (pt_cmpR (op_eqD (K := K) rfl hr) (pv 2) (pe_lst pa_nil) (nomark _)) (pw_or1 (pt_cmpR (op_eqD (K := K) rfl hr) (pv 3) (pe_lst pa_nil) (nomark _))))) (pss_one (ps_ret (pe_ix ix_list (pe_op op_cat (pe_op op_cat (pe_slice sl_list (pv 2) (po_some (pe_un un_neg pe_int)) po_none) (pe_slice sl_list (pv 3) po_none (po_some pe_int))) (pe_lst (pa_cons (pe_un un_neg pe_int) pa_nil))) pe_int (fun _ _ => rfl)))) pss_nil)
      (pss_cons (ps_if (pt_cmpR op_gt (pe_ix (ix_q (K := K) rfl) (pv 0) (pe_ix ix_list (pv 2) (pe_un un_neg pe_int) (fun _ _ => rfl)) (fun _ _ => rfl)) (pe_ix (ix_q (K := K) rfl) (pv 0) (pe_ix ix_list (pv 3) pe_int (fun _ _ => rfl)) (fun _ _ => rfl)) (nomark _)) (pss_one (ps_ret (pe_ix ix_list (pv 2) (pe_un un_neg pe_int) (fun _ _ => rfl)))) pss_nil)
      (pss_one (ps_ret (pe_ix ix_list (pv 3) pe_int (fun _ _ => rfl)))))))), ?_⟩
  have eL : (ns.map V.int).length = ns.length := List.length_map ..
  have EE := elder_lists (f := nth ns) hi
  generalize hA : ((List.range i).filter fun q => decide (nth ns q ≤ nth ns i)) = A at EE
  generalize hB : ((List.range (ns.length - (i + 1))).filter fun j => decide (nth ns (i + 1 + j) < nth ns i)) = B at EE
  have hqa : ∀ q ∈ A, q < ns.length := fun q hq => by
    rw [← hA] at hq
    have := List.mem_range.mp (List.mem_filter.mp hq).1; omega
  have hqb : ∀ j ∈ B, i + 1 + j < ns.length := fun j hq => by
    rw [← hB] at hq
    have := List.mem_range.mp (List.mem_filter.mp hq).1; omega
  refine seqR (fun σ Hz => ∃ a, σ = [some (.ref r), some (.int (i : Int)), some (.ref a), none] ∧ Same H Hz ∧ Hz a = some (.lst (natsV A))) (fun R hR => ?_) ?_
  · walk_at "rd"
    refine ⟨by omega, by omega, ?_⟩
    have e1 : ((i : Int)).toNat = i := by omega
    rw [e1]
    refine comp_filt (n := i) (fun q => decide (nth ns q ≤ nth ns i)) (fun q => V.int ((q : Nat) : Int)) (Nat.lt_of_le_of_lt (show _ ≤ 1000 by omega) (by decide)) (fun j Hx s hj => hj) (fun Hx s => Nat.le_refl _) ?_ ?_
    · rintro j x Hx Hz hj s ⟨rfl, rfl⟩
      have e0 : ((0 : Int) + (j : Int)) = (j : Int) := by omega
      rw [e0]
      walk_at "rd"
      exact ⟨_, s.q hr1, _, nth_at (by omega), _, s.q hr1, _, nth_at (by omega), _, rfl, _, rfl, ite2 (fun h => CF.take hj (decide_eq_true h) rfl s) (fun h => CF.skip hj (decide_eq_false h) s)⟩
    · intro l1 H1 s1 hl1
      exact hR _ _ ⟨l1, rfl, s1.upd' hl1, by rw [upd_same, hA]; rfl⟩
  rintro σ Hx ⟨a, rfl, sx, hxa⟩
  refine seqR (fun σ Hy => ∃ b, σ = [some (.ref r), some (.int (i : Int)), some (.ref a), some (.ref b)] ∧ Same H Hy ∧ Hy a = some (.lst (natsV A)) ∧ Hy b = some (.lst (natsV (B.map fun j => i + 1 + j)))) (fun R hR => ?_) ?_
  · walk_at "rd"
    refine ⟨_, (sx.q hr1), by omega, by omega, by omega, by rw [eL]; omega, ?_⟩
    have e1 : ((((ns.map V.int).length : Nat) : Int) - ((i : Int) + 1)).toNat = ns.length - (i + 1) := by rw [eL]; omega
    rw [e1]
    refine comp_filt (n := ns.length - (i + 1)) (fun q => decide (nth ns (i + 1 + q) < nth ns i)) (fun q => V.int ((i + 1 + q : Nat) : Int)) (Nat.lt_of_le_of_lt (show _ ≤ 1000 by omega) (by decide)) (fun j Hx s hj => hj) (fun Hx s => Nat.le_refl _) ?_ ?_
    · rintro j x Hy Hz hj s ⟨rfl, rfl⟩
      have e0 : ((i : Int) + 1 + (j : Int)) = ((i + 1 + j : Nat) : Int) := by omega
      rw [e0]
      walk_at "rd"
      exact ⟨_, (sx.trans s).q hr1, _, nth_at (by omega), _, (sx.trans s).q hr1, _, nth_at (by omega), _, rfl, _, rfl, ite2 (fun h => CF.take hj (decide_eq_true h) rfl s) (fun h => CF.skip hj (decide_eq_false h) s)⟩
    · intro l1 H1 s1 hl1
      exact hR _ _ ⟨l1, rfl, (sx.trans s1).upd' hl1, (s1.upd' hl1) _ _ hxa, by rw [upd_same, hB]; simp [natsV, Function.comp_def]⟩
  clear sx hxa Hx
  rintro σ Hx ⟨b, rfl, sx, hxa, hxb⟩
  have ka : cutV (natsV A) (some (-1)) none = natsV (A.drop (A.length - 1)) := by rw [cut_m1, natsV_len]; simp [natsV, List.map_drop]
  have kb : cutV (natsV (B.map fun j => i + 1 + j)) none (some 1) = natsV ((B.take 1).map fun j => i + 1 + j) := by rw [cut_to1]; simp [natsV, List.map_take]
  have lA : A.length ≤ 1000 := by rw [← hA]; exact Nat.le_trans (List.length_filter_le _ _) (by simp; omega)
  refine seqR (fun σ Hy => σ = [some (.ref r), some (.int (i : Int)), some (.ref a), some (.ref b)] ∧ Same Hx Hy ∧ A ≠ [] ∧ B ≠ []) (fun R hR => ?_) ?_
  · refine ifR (fun H1 => Same Hx H1 ∧ (A = [] ∨ B = [])) (fun H1 => Same Hx H1 ∧ A ≠ [] ∧ B ≠ []) ?_ ?_ ?_
    · rintro H1 ⟨s1, hc⟩
      have key : ∃ e : Int, atI (natsV (A.drop (A.length - 1)) ++ natsV ((B.take 1).map fun j => i + 1 + j) ++ [V.int (-1)]) 0 = some (V.int e) ∧ ElderIs (nth ns) ns.length i e := by
        rcases hc with rfl | rfl
        · cases B with
          | nil => exact ⟨-1, rfl, by simpa using EE⟩
          | cons j B' => exact ⟨((i + 1 + j : Nat) : Int), rfl, by simpa using EE⟩
        · rcases snoc_cases A with rfl | ⟨ys, y, rfl⟩
          · exact ⟨-1, rfl, by simpa using EE⟩
          · refine ⟨(y : Int), ?_, by simpa using EE⟩
            have : (ys ++ [y]).drop ((ys ++ [y]).length - 1) = [y] := by simp
            rw [this]; rfl
      obtain ⟨e, he, hE⟩ := key
      have m1 := s1 _ _ hxa
      have m2 := s1 _ _ hxb
      walk_at "rd"
      refine ⟨_, SqL.of m1, fun c1 z1 => ?_⟩
      rw [ka]
      have u1 := (Same.refl H1).upd (o := .lst (natsV (A.drop (A.length - 1)))) z1
      refine ⟨_, SqL.of (u1 _ _ m2), fun c2 z2 => ?_⟩
      rw [kb]
      have u2 := (Same.refl _).upd (o := .lst (natsV ((B.take 1).map fun j => i + 1 + j))) z2
      refine ⟨_, u2 _ _ upd_same, _, upd_same, Nat.le_trans (show _ ≤ 1001 by rw [natsV_len, natsV_len]; simp; omega) (by decide), fun c3 z3 => ⟨by decide, fun c4 z4 => ?_⟩⟩
      have u4 := (Same.refl _).upd (o := .lst [V.int (-1)]) z4
      refine ⟨_, u4 _ _ upd_same, _, upd_same, Nat.le_trans (show _ ≤ 1003 by rw [List.length_append, natsV_len, natsV_len]; simp; omega) (by decide), fun c5 z5 => ⟨_, SqL.of upd_same, _, he, k1 e _ hE (((((((sx.trans s1).trans u1).trans u2).upd' z3).trans u4).upd' z5))⟩⟩
    · rintro H1 ⟨s1, hc⟩
      walk_at "rd"
      exact hR _ _ ⟨rfl, s1, hc⟩
    · intro B0 hT hU
      walk_at "rd"
      refine ⟨Nat.zero_le _, fun c hc => ?_⟩
      have u1 := (Same.refl Hx).upd (o := .lst []) hc
      refine ⟨_, eqd_nil (u1 _ _ hxa) upd_same, ?_⟩
      by_cases zA : A = []
      · exact ite2 (fun _ => hT _ ⟨u1, .inl zA⟩) fun z => absurd (decide_eq_true zA) z
      refine ite2 (fun z => absurd (of_decide_eq_true z) zA) fun _ => ⟨Nat.zero_le _, fun d hd => ?_⟩
      have u2 := u1.upd' (o := .lst []) hd
      refine ⟨_, eqd_nil (u2 _ _ hxb) upd_same, ?_⟩
      by_cases zB : B = []
      · have : decide (B.map (fun j => i + 1 + j) = []) = true := decide_eq_true (by rw [zB]; rfl)
        rw [this]; exact hT _ ⟨u2, .inr zB⟩
      · have : decide (B.map (fun j => i + 1 + j) = []) = false := decide_eq_false (by simpa using zB)
        rw [this]; exact hU _ ⟨u2, zA, zB⟩
  rintro σ Hy ⟨rfl, sy, nA, nB⟩
  replace hxa := sy _ _ hxa
  replace hxb := sy _ _ hxb
  replace sx := sx.trans sy
  rcases snoc_cases A with rfl | ⟨ys, y, rfl⟩
  · exact absurd rfl nA
  cases B with
  | nil => exact absurd rfl nB
  | cons j B' =>
    have hy : y < ns.length := hqa y (by simp)
    have hj : i + 1 + j < ns.length := hqb j (by simp)
    have el : atI (natsV (ys ++ [y])) (-1) = some (V.int (y : Int)) := by rw [natsV_app]; exact atI_last _ _
    have ej : atI (natsV ((j :: B').map fun j => i + 1 + j)) 0 = some (V.int ((i + 1 + j : Nat) : Int)) := natsV_at (j := 0) rfl
    have eg : (ys ++ [y]).getLast? = some y := by simp
    rw [eg] at EE
    walk_at "rd"
    refine ⟨_, SqL.of hxa, _, el, _, _, rfl, sx.q hr1, _, nth_at hy, _, SqL.of hxb, _, ej, _, _, rfl, sx.q hr1, _, nth_at hj, _, rfl, _, rfl, ite2 (fun z => ⟨_, SqL.of hxa, _, el, k1 _ _ ?_ sx⟩) fun z => ⟨_, SqL.of hxb, _, ej, k1 _ _ ?_ sx⟩⟩
    · simp only [List.head?_cons, if_neg (show ¬ nth ns y ≤ nth ns (i + 1 + j) by omega)] at EE
      exact EE
    · simp only [List.head?_cons, if_pos (show nth ns y ≤ nth ns (i + 1 + j) by omega)] at EE
      exact EE
theorem ok__law_tree {f : Addr} {fd : FuncData} (F : Fun K "_law_tree" "_law_tree" s__law_tree f fd) (G__law_elder : Callee P w K mg base "_law_elder" 1 ["row", "place"] (sp__law_elder K mg)) (T : Txt K mg) : FnOk P w K mg base (CXE P w) 2 f fd ["row"] (sp__law_tree K mg) := by
  refine F.okX sc__law_tree (fun vs H Q E h => ?_) (fun cdv A outer s H vs Q E hr h => ?_)
  · obtain ⟨r, ns, rfl, _⟩ := h; rfl
  obtain ⟨r, ns, rfl, hr0, hn, k1⟩ := h
  refine ⟨_, (pss_one (ps_ret (pe_callTy (call_tupK (K := K) rfl) rfl T.b_tuple bt_tuple (pa_cons (pe_compN ["place", "row"] [none, some 0] rfl rfl rfl (pi_range1 rfl T.b_range (pa_cons (pe_callB (call_lenK (K := K) rfl) rfl T.b_len PySem.boot_len (pa_cons (pv 0) pa_nil)) pa_nil)) (fun _ _ _ _ _ => (pg_name (i := 0) (show (["place", "row"] : List Str).Nodup from by decide +kernel) rfl (Or.inl rfl))) (fun _ _ _ _ _ => pifs_nil) (fun _ _ _ _ _ => (pe_callF G__law_elder (hr.mono (by decide)) rfl passE (pa_cons (pv 1) (pa_cons (pv 0) pa_nil)))) only_name) pa_nil)))), ?_⟩
  walk_at "rd"
  have eL : (ns.map V.int).length = ns.length := List.length_map ..
  refine ⟨_, hr0, by omega, by omega, ?_⟩
  have e1 : (((ns.map V.int).length : Nat) : Int).toNat = ns.length := by rw [eL]; omega
  rw [e1]
  refine comp_inv (n := ns.length) (fun i acc Hx => ∃ es : List Int, acc = es.map V.int ∧ es.length = i ∧ (∀ p, p < i → ElderIs (nth ns) ns.length p (es.getD p 0)) ∧ Same H Hx) (Nat.lt_of_le_of_lt (show _ ≤ 1000 by omega) (by decide)) ⟨[], rfl, rfl, (fun p hp => absurd hp (by omega)), Same.refl _⟩ (fun i acc Hx _ hi => hi) (fun acc Hx _ => Nat.le_refl _) ?_ ?_
  · rintro i x acc Hx Hy hi hla ⟨es, rfl, hl, hE, sx⟩ ⟨rfl, rfl⟩
    walk_at "rd"
    refine ⟨r, ns, i, by rw [Int.zero_add], sx.q hr0, hn, hi, fun e H2 he s2 => CA.take hi hla ⟨es ++ [e], by simp, by simp [hl], fun p hp => ?_, sx.trans s2⟩⟩
    by_cases z : p < es.length
    · rw [show (es ++ [e]).getD p 0 = es.getD p 0 by simp [List.getD_eq_getElem?_getD, List.getElem?_append_left z]]
      exact hE p (by omega)
    · have ep : p = es.length := by omega
      rw [show (es ++ [e]).getD p 0 = e by rw [ep]; simp [List.getD_eq_getElem?_getD], ep, hl]
      exact he
  · rintro l acc Hx ⟨es, rfl, hl, hE, sx⟩ _ hlx
    refine ⟨l, rfl, _, .inl ⟨SqL.of upd_same, fun t ht => k1 t es _ ⟨hl, hE⟩ ((sx.upd' hlx).upd' ht) upd_same⟩⟩

theorem ok_settle {f : Addr} {fd : FuncData} (F : Fun K "settle" "settle" s_settle f fd)  (T : Txt K mg) : FnOk P w K mg base (CXE P w) 1 f fd ["elders", "spine", "place", "keep"] (sp_settle K mg) := by
  refine F.okX sc_settle (fun vs H Q E h => ?_) (fun cdv A outer s H vs Q E hr h => ?_)
  · obtain ⟨el, sp, es, A, B, i, rfl, _⟩ := h; rfl
  obtain ⟨el, sp, es, A', B, i, rfl, hel, hsp, hne, hi, hq, hlen, k1⟩ := h
  refine ⟨_, (pss_cons (ps_if (pt_cmpR op_lt (pv 3) (pe_callB (call_lenK (K := K) rfl) rfl T.b_len PySem.boot_len (pa_cons (pv 1) pa_nil)) (nomark _)) (pss_one (ps_asg (pv 2) (pg_sub (pv 0) (pe_ix ix_list (pv 1) (pv 3) (fun _ _ => rfl)) set_list (fun _ => rfl)))) pss_nil)
      (pss_cons (ps_if (pt_cmpR op_gt (pv 3) pe_int (nomark _)) (pss_one (ps_asg (pe_ix ix_list (pv 1) (pe_op op_sub (pv 3) pe_int) (fun _ _ => rfl)) (pg_sub (pv 0) (pv 2) set_list (fun _ => rfl)))) pss_nil)
      (pss_cons (ps_delTail (pv 1) (pv 3))
      (pss_one (ps_expr (pe_bm PySem.F.plainAttrs_list PySem.F.slot_list_append PySem.F.type_list_append mt_append (pv 1) (pa_cons (pv 2) pa_nil))))))), ?_⟩
  walk_at "rd"
  have hb1 : (natsV A').length < sizeLine := by
    rw [natsV_len]
    rw [List.length_append] at hlen
    exact Nat.lt_of_le_of_lt (show _ ≤ 1000 by omega) (by decide)
  have etk : List.take A'.length (natsV (A' ++ B)) = natsV A' := by
    rw [natsV_app]
    have : A'.length = (natsV A').length := (natsV_len A').symm
    rw [this, List.take_left]
  have hle : A'.length ≤ (natsV (A' ++ B)).length := by rw [natsV_len, List.length_append]; omega
  have esn : natsV A' ++ [V.int (i : Nat)] = natsV (A' ++ [i]) := by rw [natsV_app]; rfl
  refine ⟨_, .inl (SqL.of hsp), ?_⟩
  rw [natsV_len, List.length_append]
  -- the end: behind the two stores
  have fin : ∀ (es1 : List Int) (Hx : Hp), (∀ b o, b ≠ el → b ≠ sp → H b = some o → Hx b = some o) → Hx el = some (.lst (es1.map V.int)) → Hx sp = some (.lst (natsV (A' ++ B))) → es1 = setE es A' B i →
      ∃ (xs : List V) (k : Nat), (A'.length : Int) = (k : Int) ∧ Hx sp = some (HO.lst xs) ∧ k ≤ xs.length ∧ tyV K "list" (V.ref sp) (upd Hx sp (HO.lst (List.take k xs))) ∧ ∃ x, upd Hx sp (HO.lst (List.take k xs)) sp = some (HO.lst x) ∧ x.length < sizeLine ∧ Q V.non (upd (upd Hx sp (HO.lst (List.take k xs))) sp (HO.lst (x ++ [V.int (i : Nat)]))) := by
    intro es1 Hx h1 h2 h3 h4
    refine ⟨_, A'.length, rfl, h3, hle, tyV_list upd_same, _, upd_same, by rw [etk]; exact hb1, k1 _ (fun b o n1 n2 z => by rw [upd_ne n2, upd_ne n2]; exact h1 b o n1 n2 z) (by rw [upd_ne hne, upd_ne hne, h2, h4]) (by rw [upd_same, etk, esn])⟩
  -- elders[place] = spine[keep - 1]
  have mid : ∀ (es1 : List Int) (Hx : Hp), (∀ b o, b ≠ el → b ≠ sp → H b = some o → Hx b = some o) → Hx el = some (.lst (es1.map V.int)) → es1.length = es.length → Hx sp = some (.lst (natsV (A' ++ B))) → ∀ q, A'.getLast? = some q → es1.set i (q : Int) = setE es A' B i →
      ∃ x, SqL K Hx sp x ∧ ∃ x_1, atI x ((A'.length : Int) - 1) = some x_1 ∧ ∃ x, Hx el = some (HO.lst x) ∧ ∃ x_2, ixN x.length (i : Int) = some x_2 ∧ ∃ (xs : List V) (k : Nat), (A'.length : Int) = (k : Int) ∧ upd Hx el (HO.lst (x.set x_2 x_1)) sp = some (HO.lst xs) ∧ k ≤ xs.length ∧ tyV K "list" (V.ref sp) (upd (upd Hx el (HO.lst (x.set x_2 x_1))) sp (HO.lst (List.take k xs))) ∧
        ∃ x_3, upd (upd Hx el (HO.lst (x.set x_2 x_1))) sp (HO.lst (List.take k xs)) sp = some (HO.lst x_3) ∧ x_3.length < sizeLine ∧ Q V.non (upd (upd (upd Hx el (HO.lst (x.set x_2 x_1))) sp (HO.lst (List.take k xs))) sp (HO.lst (x_3 ++ [V.int (i : Nat)]))) := by
    intro es1 Hx h1 h2 hl1 h3 q hq h4
    have hpos : 0 < A'.length := by
      cases A' with
      | nil => cases hq
      | cons _ _ => simp
    have hat : (A' ++ B)[A'.length - 1]? = some q := by
      rw [List.getElem?_append_left (by omega)]
      rw [List.getLast?_eq_getElem?] at hq; exact hq
    have ei : ((A'.length : Int) - 1) = ((A'.length - 1 : Nat) : Int) := by omega
    refine ⟨_, SqL.of h3, _, by rw [ei]; exact natsV_at hat, _, h2, i, by rw [List.length_map, hl1]; exact ixN_nat hi, ?_⟩
    have em : (es1.map V.int).set i (V.int (q : Nat)) = (es1.set i (q : Int)).map V.int := by rw [List.map_set]
    rw [em]
    exact fin _ _ (fun b o n1 n2 z => by rw [upd_ne n1]; exact h1 b o n1 n2 z) upd_same (by rw [upd_ne hne.symm]; exact h3) h4
  cases B with
  | nil =>
    rw [if_neg (by simp)]
    cases hq : A'.getLast? with
    | none =>
      have : A' = [] := List.getLast?_eq_none_iff.mp hq
      rw [if_neg (by rw [this]; simp)]
      exact fin es H (fun b o _ _ z => z) hel hsp (by unfold setE; rw [hq]; rfl)
    | some q =>
      have : A' ≠ [] := fun z => by rw [z] at hq; cases hq
      rw [if_pos (by have := List.length_pos_iff.mpr this; omega)]
      exact mid es H (fun b o _ _ z => z) hel rfl hsp q hq (by unfold setE; rw [hq]; rfl)
  | cons b Br =>
    rw [if_pos (by simp; omega)]
    have hat : (A' ++ b :: Br)[A'.length]? = some b := by rw [List.getElem?_append_right (Nat.le_refl _)]; simp
    have hbn : b < es.length := hq b (by simp)
    refine ⟨_, SqL.of hsp, _, natsV_at hat, _, _, rfl, hel, b, by rw [List.length_map]; exact ixN_nat hbn, ?_⟩
    have em : (es.map V.int).set b (V.int (i : Nat)) = (es.set b (i : Int)).map V.int := by rw [List.map_set]
    rw [em]
    cases hq2 : A'.getLast? with
    | none =>
      have : A' = [] := List.getLast?_eq_none_iff.mp hq2
      rw [if_neg (by rw [this]; simp)]
      exact fin (es.set b i) _ (fun c o n1 n2 z => by rw [upd_ne n1]; exact z) upd_same (by rw [upd_ne hne.symm]; exact hsp) (by unfold setE; rw [hq2]; rfl)
    | some q =>
      have : A' ≠ [] := fun z => by rw [z] at hq2; cases hq2
      rw [if_pos (by have := List.length_pos_iff.mpr this; omega)]
      exact mid (es.set b i) _ (fun c o n1 n2 z => by rw [upd_ne n1]; exact z) upd_same (by simp) (by rw [upd_ne hne.symm]; exact hsp) q hq2 (by unfold setE; rw [hq2]; rfl)
theorem ok_tree_of {f : Addr} {fd : FuncData} (F : Fun K "tree_of" "tree_of" s_tree_of f fd) (G_settle : Callee P w K mg base "settle" 1 ["elders", "spine", "place", "keep"] (sp_settle K mg)) (T : Txt K mg) : FnOk P w K mg base (CXE P w) 2 f fd ["row"] (sp_tree_of K mg) := by
  refine F.okX sc_tree_of (fun vs H Q E h => ?_) (fun cdv A outer s H vs Q E hr h => ?_)
  · obtain ⟨r, ns, rfl, _⟩ := h; rfl
  obtain ⟨r, ns, rfl, hS, hn, k1⟩ := h
  refine ⟨_, (pss_cons (ps_set (i := 1) sc_tree_of.nd rfl (Or.inl rfl) (pe_op op_rep (pe_lst (pa_cons (pe_un un_neg pe_int) pa_nil)) (pe_callB (call_lenK (K := K) rfl) rfl T.b_len PySem.boot_len (pa_cons (pv 0) pa_nil))))
      (pss_cons (ps_set (i := 2) sc_tree_of.nd rfl (Or.inl rfl) (pe_lst pa_nil))
      (pss_cons (ps_nox (ps_for PassesOwn.never rfl (pi_range1 rfl T.b_range (pa_cons (pe_callB (call_lenK (K := K) rfl) rfl T.b_len PySem.boot_len (pa_cons (pv 0) pa_nil)) pa_nil)) (pg_name (i := 3) sc_tree_of.nd rfl (Or.inl rfl)) (pss_cons (ps_set (i := 4) sc_tree_of.nd rfl (Or.inl rfl) (pe_callB (call_lenK (K := K) rfl) rfl T.b_len PySem.boot_len (pa_cons (pv 2) pa_nil)))
      (pss_cons (ps_nox (ps_while PassesOwn.never (PW.pt (pw_and (pt_cmpR op_gt (pv 4) pe_int (nomark _)) (pw_and1 (pt_cmpR op_gt (pe_ix (ix_q (K := K) rfl) (pv 0) (pe_ix ix_list (pv 2) (pe_op op_sub (pv 4) pe_int) (fun _ _ => rfl)) (fun _ _ => rfl)) (pe_ix (ix_q (K := K) rfl) (pv 0) (pv 3) (fun _ _ => rfl)) (nomark _))))) (pss_one (ps_aug (i := 4) sc_tree_of.nd rfl (Or.inl rfl) pe_int ip_sub))))
      (pss_one (ps_expr (pe_callF G_settle (hr.mono (by decide)) rfl passE (pa_cons (pv 1) (pa_cons (pv 2) (pa_cons (pv 3) (pa_cons (pv 4) pa_nil)))))))))))
      (pss_one (ps_ret (pe_callTy (call_tupK (K := K) rfl) rfl T.b_tuple bt_tuple (pa_cons (pv 1) pa_nil))))))), ?_⟩
  walk_at "rd"
  have eL : (ns.map V.int).length = ns.length := List.length_map ..
  refine ⟨by decide, fun p hp => ⟨_, ((Same.refl H).upd hp).q hS, _, upd_same, by omega, by rw [eL]; omega, ?_, fun el hel => ⟨Nat.zero_le _, fun sp hsp => ?_⟩⟩⟩
  · exact Nat.le_trans (show _ ≤ 1000 by simp; omega) (by decide)
  have s0 : Same H (upd (upd (upd H p (.lst [V.int (-1)])) el (.lst (List.replicate (((ns.map V.int).length : Nat) : Int).toNat [V.int (-1)]).flatten)) sp (.lst [])) := (((Same.refl H).upd hp).upd' hel).upd' hsp
  refine ⟨_, s0.q hS, by omega, by rw [eL]; omega, ?_⟩
  have en : (((ns.map V.int).length : Nat) : Int).toNat = ns.length := by rw [eL]; omega
  have hel0 : (upd (upd (upd H p (.lst [V.int (-1)])) el (.lst (List.replicate (((ns.map V.int).length : Nat) : Int).toNat [V.int (-1)]).flatten)) sp (.lst [])) el = some (.lst ((List.replicate ns.length (-1 : Int)).map V.int)) := by
    have := ((Same.refl _).upd' (o := .lst []) hsp) el _ upd_same
    rw [this, en]; simp
  have hsp0 : (upd (upd (upd H p (.lst [V.int (-1)])) el (.lst (List.replicate (((ns.map V.int).length : Nat) : Int).toNat [V.int (-1)]).flatten)) sp (.lst [])) sp = some (.lst (natsV [])) := upd_same
  have nes : el ≠ sp := fun z => by
    subst z
    rw [upd_same] at hsp; cases hsp
  have zel : H el = none := ((Same.refl H).upd hp).free hel
  have zsp : H sp = none := (((Same.refl H).upd hp).upd' hel).free hsp
  rw [en] at hel0 hsp0 s0 ⊢
  generalize (upd (upd (upd H p (.lst [V.int (-1)])) el (.lst (List.replicate ns.length [V.int (-1)]).flatten)) sp (.lst [])) = H0 at s0 hel0 hsp0 ⊢
  refine for_range (fun i σ Hx => ∃ (es : List Int) (S : List Nat) (v3 v4 : Option V), σ = [some (.ref r), some (.ref el), some (.ref sp), v3, v4] ∧ Same H Hx ∧ Hx el = some (.lst (es.map V.int)) ∧ Hx sp = some (.lst (natsV S)) ∧ es.length = ns.length ∧ Spine (nth ns) i S ∧ (∀ p e, p < i → e = es.getD p 0 → ElderIs (nth ns) i p e) ∧ ∀ p, i ≤ p → p < ns.length → es.getD p 0 = -1)
    ⟨List.replicate ns.length (-1), [], none, none, rfl, s0, hel0, hsp0, by simp, ⟨List.Pairwise.nil, fun q => by simp⟩, fun p e hp => by omega, fun p _ hp => by simp [List.getD_eq_getElem?_getD, hp]⟩ ?_ ?_
  · rintro i σ Hx hi ⟨es, S, v3, v4, rfl, sx, hxe, hxs, hesl, hS2, hE, hE2⟩
    walk_at "rd"
    have hin : i < ns.length := by omega
    have hSl : S.length ≤ 1000 := by
      rcases pw_len S i 0 hS2.1 (fun q hq => ⟨Nat.zero_le _, ((hS2.2 q).mp hq).1⟩) with z | z
      · omega
      · rw [z]; simp
    refine ⟨_, .inl (SqL.of hxs), ?_⟩
    rw [natsV_len]
    refine while_i S.length (fun j σ Hy => ∃ A B, S = A ++ B ∧ B.length = j ∧ (∀ q ∈ B, nth ns i < nth ns q) ∧ σ = [some (.ref r), some (.ref el), some (.ref sp), some (.int (0 + (i : Int))), some (.int (A.length : Nat))] ∧ Hy = Hx) ⟨S, [], by simp, rfl, (fun q hq => absurd hq (by simp)), rfl, rfl⟩ ?_
    rintro j σ Hy hj ⟨A, B, hAB, hBl, hBg, rfl, rfl⟩
    walk_at "rd"
    have hmem : ∀ q, q ∈ A ++ B → q < i := fun q hq => ((hS2.2 q).mp (by rw [hAB]; exact hq)).1
    have hix : (0 + (i : Int)) = (i : Int) := by omega
    rw [hix]
    by_cases hA0 : A = []
    case' pos =>
      rw [if_neg (by rw [hA0]; simp)]
      have hA : ∀ q ∈ A, nth ns q ≤ nth ns i := fun q hq => absurd hq (by rw [hA0]; simp)
    case' neg =>
      obtain ⟨q, Al, rfl⟩ : ∃ q Al, A = Al ++ [q] := ⟨A.getLast hA0, A.dropLast, (List.dropLast_concat_getLast hA0).symm⟩
      have hal : (Al ++ [q]).length = Al.length + 1 := by simp
      rw [if_pos (by rw [hal]; omega)]
      have eiA : (((Al ++ [q]).length : Nat) : Int) - 1 = (Al.length : Int) := by rw [hal]; omega
      have hat : S[Al.length]? = some q := by
        rw [hAB, List.append_assoc, List.getElem?_append_right (Nat.le_refl _)]; simp
      have hqi : q < i := hmem q (by simp)
      refine ⟨_, SqL.of hxs, _, by rw [eiA]; exact natsV_at hat, _, _, rfl, sx.q hS, _, nth_at (by omega), _, sx.q hS, _, nth_at hin, _, rfl, _, rfl, ite2 (fun hlt => ?_) (fun hge => ?_)⟩
      · have hj2 : j + 1 ≤ S.length := by rw [hAB, List.length_append, hal]; omega
        refine ⟨_, WI.next, hj2, Al, q :: B, by rw [hAB]; simp, by simp [hBl], fun x hx => ?_, by rw [eiA], rfl⟩
        rcases List.mem_cons.mp hx with z | z
        · rw [z]; exact hlt
        · exact hBg x z
      have hA : ∀ x ∈ Al ++ [q], nth ns x ≤ nth ns i := fun x hx => by
        by_cases z : x = q
        · rw [z]; omega
        · have hxa : x ∈ Al := by
            rcases List.mem_append.mp hx with y | y
            · exact y
            · exact absurd (by simpa using y) z
          have hpw := hS2.1
          rw [hAB] at hpw
          have hxq : x < q := (List.pairwise_append.mp (List.pairwise_append.mp hpw).1).2.2 x hxa q (by simp)
          have := ((hS2.2 x).mp (by rw [hAB]; exact List.mem_append_left _ hx)).2 q hxq hqi
          omega
      generalize Al ++ [q] = A at hA hAB hmem hA0 ⊢
    all_goals
      have SS := spine_step (f := nth ns) (i := i) (A := A) (B := B) (by rw [← hAB]; exact hS2) hA hBg
      refine ⟨el, sp, es, A, B, i, rfl, hxe, by rw [← hAB]; exact hxs, nes, by omega, fun q hq => by have := hmem q hq; omega, by rw [← hAB]; exact hSl, fun H' q1 q2 q3 => ?_⟩
      have hbi : ∀ b, B.head? = some b → b ≠ i := fun b hb => by
        have := hmem b (List.mem_append_right _ (List.mem_of_head? hb)); omega
      refine ⟨fun b o z => q1 b o (ne_of_none z zel) (ne_of_none z zsp) (sx b o z), setE es A B i, q2, A ++ [i], q3, by rw [setE_len]; exact hesl, SS.1, fun p e hp he => ?_, fun p hp1 hp2 => ?_⟩
      · rw [setE_at _ _ _ _ _ (by omega) hbi] at he
        by_cases z : p = i
        · subst z
          rw [if_pos rfl, hE2 p (Nat.le_refl _) (by omega)] at he
          rw [he]; exact SS.2.1
        · rw [if_neg z] at he
          rw [he]
          exact SS.2.2 p _ (by omega) (hE p _ (by omega) rfl)
      · rw [setE_at _ _ _ _ _ (by omega) hbi, if_neg (by omega), if_neg (fun z => ?_)]
        · exact hE2 p (by omega) hp2
        · have := hmem p (List.mem_append_right _ (List.mem_of_head? z)); omega
  · rintro σ Hx ⟨es, S, v3, v4, rfl, sx, hxe, hxs, hesl, hS2, hE, hE2⟩
    walk_at "rd"
    exact ⟨_, .inl ⟨SqL.of hxe, fun t ht => k1 t es _ ⟨hesl, fun p hp => hE p _ hp rfl⟩ (sx.upd' ht) upd_same⟩⟩

theorem ok_way_up {f : Addr} {fd : FuncData} (F : Fun K "way_up" "way_up" s_way_up f fd)  (T : Txt K mg) : FnOk P w K mg base (CXE P w) 1 f fd ["tree", "place"] (sp_way_up K mg) := by
  refine F.okX sc_way_up (fun vs H Q E h => ?_) (fun cdv A outer s H vs Q E hr h => ?_)
  · obtain ⟨t, T, p, rfl, _⟩ := h; rfl
  obtain ⟨t, T', p, rfl, ht, hn, hp, k1⟩ := h
  have hQ : ∀ Hx, Same H Hx → (SqL K Hx t (T'.map V.int) ∨ SqT K Hx t (T'.map V.int)) := fun Hx sx => ht.elim (fun z => .inl (sx.seq z)) fun z => .inr (sx.seqT z)
  refine ⟨_, (pss_cons (ps_set (i := 2) sc_way_up.nd rfl (Or.inl rfl) (pe_lst pa_nil))
      (pss_cons (ps_set (i := 3) sc_way_up.nd rfl (Or.inl rfl) (pe_ix (ix_q (K := K) rfl) (pv 0) (pv 1) (fun _ _ => rfl)))
      (pss_cons (ps_nox (ps_while PassesOwn.never (PW.pt (pw_and (pt_chain op_le op_lt pe_int (pv 3) (pe_callB (call_lenK (K := K) rfl) rfl T.b_len PySem.boot_len (pa_cons (pv 0) pa_nil))) (pw_and1 (pt_cmpR op_lt (pe_callB (call_lenK (K := K) rfl) rfl T.b_len PySem.boot_len (pa_cons (pv 2) pa_nil)) (pe_callB (call_lenK (K := K) rfl) rfl T.b_len PySem.boot_len (pa_cons (pv 0) pa_nil)) (nomark _))))) (pss_cons (ps_expr (pe_bm PySem.F.plainAttrs_list PySem.F.slot_list_append PySem.F.type_list_append mt_append (pv 2) (pa_cons (pv 3) pa_nil)))
      (pss_one (ps_set (i := 3) sc_way_up.nd rfl (Or.inl rfl) (pe_ix (ix_q (K := K) rfl) (pv 0) (pv 3) (fun _ _ => rfl)))))))
      (pss_one (ps_ret (pv 2)))))), ?_⟩
  walk_at "rd"
  refine ⟨Nat.zero_le _, fun l hl => ⟨_, hQ _ ((Same.refl H).upd hl), _, nth_at hp, ?_⟩⟩
  refine while_i T'.length (fun j σ Hx => Same H Hx ∧ Hx l = some (.lst (natsV (wayF T' j (nth T' p)))) ∧ (wayF T' j (nth T' p)).length = j ∧ σ = [some (.ref t), some (.int p), some (.ref l), some (.int (wayAt T' j (nth T' p)))]) ⟨(Same.refl H).upd hl, upd_same, rfl, rfl⟩ ?_
  rintro j σ Hx hj ⟨sx, hxl, hjl, rfl⟩
  walk_at "rd"
  have hlen : (natsV (wayF T' j (nth T' p))).length = j := by rw [natsV_len]; exact hjl
  have eL : (T'.map V.int).length = T'.length := List.length_map ..
  have done : (j = T'.length ∨ ¬ (0 ≤ wayAt T' j (nth T' p) ∧ wayAt T' j (nth T' p) < T'.length)) → Q (.ref l) Hx := fun z => by
    refine k1 l Hx hl sx ?_
    have : wayF T' T'.length (nth T' p) = wayF T' j (nth T' p) := by
      rcases z with z | z
      · rw [← z]
      · exact wayF_stop T' j _ _ hj hjl z
    rw [hxl]; unfold wayI; rw [this]; simp [natsV]
  refine ite2 (fun h0 => ⟨_, hQ _ sx, ite2 (fun h1 => ⟨_, .inl (SqL.of hxl), _, hQ _ sx, ite2 (fun h2 => ?_) fun h2 => done (.inl (by rw [hlen, eL] at h2; omega))⟩) fun h1 => done (.inr (by rw [eL] at h1; omega))⟩) fun h0 => done (.inr (by omega))
  rw [eL] at h1; rw [hlen, eL] at h2
  obtain ⟨a1, a2⟩ := wayF_snoc T' j (nth T' p) h0 h1 hjl
  have ei : wayAt T' j (nth T' p) = (((wayAt T' j (nth T' p)).toNat : Nat) : Int) := by omega
  refine ⟨_, WI.next, tyV_list hxl, _, hxl, by rw [hlen]; exact Nat.lt_of_le_of_lt (show _ ≤ 1000 by omega) (by decide), _, hQ _ (sx.upd hl), _, (congrArg (atI _) ei).trans (nth_at (by omega)), by omega, sx.upd hl, ?_, ?_, ?_⟩
  · rw [upd_same, a1, natsV_app]
    have : natsV [(wayAt T' j (nth T' p)).toNat] = [V.int (wayAt T' j (nth T' p))] := by rw [ei]; simp [natsV]
    rw [this]
  · rw [a1]; simp [hjl]
  · rw [a2]

theorem ok_is_tree {f : Addr} {fd : FuncData} (F : Fun K "is_tree" "is_tree" s_is_tree f fd) (G_tree_of : Callee P w K mg base "tree_of" 2 ["row"] (sp_tree_of K mg)) (G_way_up : Callee P w K mg base "way_up" 1 ["tree", "place"] (sp_way_up K mg)) (T : Txt K mg) : FnOk P w K mg base (CXE P w) 3 f fd ["tree"] (sp_is_tree K mg) := by
  refine F.okX sc_is_tree (fun vs H Q E h => ?_) (fun cdv A outer s H vs Q E hr h => ?_)
  · obtain ⟨t, T, rfl, _⟩ := h; rfl
  obtain ⟨t, T', rfl, ht, hn, k1, k2⟩ := h
  refine ⟨_, (pss_cons (ps_if (PW.pt (pw_or (pt_not (pt_val (pe_callB (call_isiK (K := K) rfl) rfl T.b_isinstance bt_isinstance (pa_cons (pv 0) (pa_cons (pe_bltn (v := .ty "tuple") rfl T.b_tuple bt_tuple rfl) pa_nil))))) (pw_or1 (pt_cmpR op_gt (pe_callB (call_lenK (K := K) rfl) rfl T.b_len PySem.boot_len (pa_cons (pv 0) pa_nil)) (pe_glob (v := .int 40) rfl T.m_MOST_PLACES ⟨_, rfl⟩) (nomark _))))) (pss_one (ps_ret pe_bl)) pss_nil)
      (pss_cons (ps_setCN (i := 1) ["place", "tree"] [none, some 0] sc_is_tree.nd rfl (Or.inl rfl) rfl rfl rfl (pi_range1 rfl T.b_range (pa_cons (pe_callB (call_lenK (K := K) rfl) rfl T.b_len PySem.boot_len (pa_cons (pv 0) pa_nil)) pa_nil)) (fun _ _ _ _ _ => (pg_name (i := 0) (show (["place", "tree"] : List Str).Nodup from by decide +kernel) rfl (Or.inl rfl))) (fun _ _ _ _ _ => pifs_nil) (fun _ _ _ _ _ => (pe_callB (call_lenK (K := K) rfl) rfl T.b_len PySem.boot_len (pa_cons (pe_callF G_way_up (hr.mono (by decide)) rfl passE (pa_cons (pv 1) (pa_cons (pv 0) pa_nil))) pa_nil))) only_name)
      (pss_one (ps_ret (pe_cmpR (op_eqD (K := K) rfl hr) (pe_callF G_tree_of (hr.mono (by decide)) rfl passE (pa_cons (pv 1) pa_nil)) (pv 0) (nomark _)))))), ?_⟩
  walk_at "rd"
  have eL : (T'.map V.int).length = T'.length := List.length_map ..
  refine ⟨true, .inl ⟨_, .tup ht, by with_unfolding_all rfl⟩, ite2 (fun z => nomatch z) fun _ => ⟨_, .inr (SqT.of ht), ite2 (fun z => k2 (fun g => ?_) _ (Same.refl H)) fun z => ⟨_, .inr (SqT.of ht), by omega, by rw [eL]; omega, ?_⟩⟩⟩
  · rw [eL] at z; have := g.1; omega
  rw [eL] at z ⊢
  have en : ((T'.length : Nat) : Int).toNat = T'.length := by omega
  rw [en]
  refine comp_map (n := T'.length) (fun q => V.int (nth (deps T') q)) (Nat.lt_of_le_of_lt hn (by decide)) (fun j Hx s hj => hj) (fun Hx s => Nat.le_refl _) ?_ ?_
  · rintro j x Hx Hy hj s ⟨rfl, rfl⟩
    walk_at "rd"
    refine ⟨t, T', j, by simp, .inr (SqT.of (s _ _ ht)), hn, hj, fun l H9 hl s9 h9 => ⟨l, rfl, _, .inl (SqL.of h9), CW.next hj ?_ (s.trans s9)⟩⟩
    rw [deps_nth hj, List.length_map]; simp [wayI]
  · intro l' Hx s hl'
    have ed : (List.range T'.length).map (fun q => V.int (nth (deps T') q)) = (deps T').map V.int := by
      rw [← deps_len T']; exact range_getD _ _ V.int _ rfl
    rw [ed]
    have u := s.upd' (o := .lst ((deps T').map V.int)) hl'
    refine ⟨l', deps T', rfl, .inl (SqL.of upd_same), by rw [deps_len]; exact hn, fun t2 es H2 hT2 s2 ht2 => ⟨t2, rfl, _, eqp_tup (n := 2) eqp_int _ _ es T' (isT_ints (SqT.of ht2)) (isT_ints (SqT.of ((u.trans s2) _ _ ht))), ?_⟩⟩
    by_cases g : es = T'
    · rw [decide_eq_true g]; exact k1 ⟨by omega, _, g ▸ hT2⟩ _ (u.trans s2)
    · rw [decide_eq_false g]; exact k2 (fun gg => g (hT2.unique ((tree_deps T').mp gg.2))) _ (u.trans s2)

theorem ok_need_tree {f : Addr} {fd : FuncData} (F : Fun K "need_tree" "need_tree" s_need_tree f fd) (G_is_tree : Callee P w K mg base "is_tree" 3 ["tree"] (sp_is_tree K mg)) (T : Txt K mg) : FnOk P w K mg base (CXE P w) 4 f fd ["tree"] (sp_need_tree K mg) := by
  refine F.okX sc_need_tree (fun vs H Q E h => ?_) (fun cdv A outer s H vs Q E hr h => ?_)
  · obtain ⟨t, T, rfl, _⟩ := h; rfl
  obtain ⟨t, T', rfl, ht, hn, k1, k2⟩ := h
  refine ⟨_, (pss_one (ps_if (pt_not (pt_val (pe_callF G_is_tree (hr.mono (by decide)) rfl passE (pa_cons (pv 0) pa_nil)))) (pss_one (ps_raise rfl rfl T.c_NoTree T.x_NoTree (pa_cons (pe_joined (pj_text (by decide) (pj_int (pe_callB (call_lenK (K := K) rfl) rfl T.b_len PySem.boot_len (pa_cons (pv 0) pa_nil)) (pj_text (by decide) pj_nil)))) pa_nil) raisesE)) pss_nil)), ?_⟩
  walk_at "rd"
  exact ⟨t, T', rfl, ht, hn, fun g H1 s1 => ⟨true, rfl, ite2 (fun z => nomatch z) fun _ => k1 g _ s1⟩, fun g H1 s1 => ⟨false, rfl, ite2 (fun _ => ⟨_, .inr (SqT.of (s1 _ _ ht)), by omega, by rw [List.length_map]; omega, fun y => ⟨by decide, k2 g _ s1⟩⟩) fun z => absurd rfl z⟩⟩

theorem comp_above {a : Addr} {L : List Int} {p : Nat} {H1 : Hp} {Q : VK} (ha : H1 a = some (.lst (L.map V.int))) (hn : L.length ≤ 1000)
    (hk : ∀ l H' (xs : List V), Same H1 H' → xs.length = (L.filter fun o => decide ((p : Int) < o)).length → H' l = none → Q (.ref l) (upd H' l (.lst xs))) :
    CompR (Itl K a) (gName 0) (tTest (tOp (rI0 fun i j => V.bl (decide (j < i))) (tVar 0) (tVar 1))) (tVar 0) [none, some (V.int (p : Int))] Q H1 := by
  refine comp_filt (n := L.length) (fun i => decide ((p : Int) < L.getD i 0)) (fun i => V.int (L.getD i 0)) (Nat.lt_of_le_of_lt hn (by decide)) (fun i Hx s hi => ⟨_, _, SqL.of (s _ _ ha), List.getElem?_eq_getElem (by simpa using hi)⟩) (fun Hx s => ⟨_, SqL.of (s _ _ ha), by simp⟩) ?_ ?_
  · rintro i x Hx Hy hi s ⟨rfl, hx⟩
    have ex := hx _ (SqL.of (s _ _ ha))
    rw [List.getElem?_map, List.getElem?_eq_getElem hi] at ex
    cases ex
    have eg : L.getD i 0 = L[i] := by simp [List.getD_eq_getElem?_getD, hi]
    walk_at "rd"
    exact ite2 (fun z => CF.take hi (by rw [eg]; exact decide_eq_true z) (by rw [eg]) s) (fun z => CF.skip hi (by rw [eg]; exact decide_eq_false z) s)
  · intro l H' s hl
    refine hk l H' _ s ?_ hl
    rw [List.length_map]
    have : L = (List.range L.length).map fun i => L.getD i 0 := by
      refine List.ext_getElem (by simp) fun j h1 h2 => ?_
      simp [List.getD_eq_getElem?_getD, h1]
    conv => rhs; rw [this, List.filter_map, List.length_map]
    rfl
theorem ok_flat_number {f : Addr} {fd : FuncData} (F : Fun K "flat_number" "flat_number" s_flat_number f fd) (G_way_up : Callee P w K mg base "way_up" 1 ["tree", "place"] (sp_way_up K mg)) (T : Txt K mg) : FnOk P w K mg base (CXE P w) 2 f fd ["tree", "place"] (sp_flat_number K mg) := by
  refine F.okX sc_flat_number (fun vs H Q E h => ?_) (fun cdv A outer s H vs Q E hr h => ?_)
  · obtain ⟨t, T, p, rfl, _⟩ := h; rfl
  obtain ⟨t, T', p, rfl, ht, hn, hp, k1⟩ := h
  refine ⟨_, (pss_one (ps_ret (pe_callB (call_lenK (K := K) rfl) rfl T.b_len PySem.boot_len (pa_cons (pe_compN ["elder", "place"] [none, some 1] rfl rfl rfl (pi_list (pe_callF G_way_up (hr.mono (by decide)) rfl passE (pa_cons (pv 0) (pa_cons (pv 1) pa_nil)))) (fun _ _ _ _ _ => (pg_name (i := 0) (show (["elder", "place"] : List Str).Nodup from by decide +kernel) rfl (Or.inl rfl))) (fun _ _ _ _ _ => pifs_one (pt_cmpR op_gt (pv 0) (pv 1) (nomark _))) (fun _ _ _ _ _ => (pv 0)) only_name) pa_nil)))), ?_⟩
  walk_at "rd"
  refine ⟨t, T', p, rfl, .inr (SqT.of ht), hn, hp, fun w H1 hw s1 h1 => ⟨w, rfl, ⟨_, SqL.of h1⟩, comp_above h1 (by simp only [wayI, List.length_map]; exact Nat.le_trans (wayF_len _ _ _) hn) fun l H2 xs s2 hx hl => ⟨l, rfl, xs, .inl (SqL.of upd_same), ?_⟩⟩⟩
  have e : (xs.length : Nat) = flatN T' p := by
    rw [hx, wayI_way, List.filter_map, List.length_map]
    unfold flatN
    refine filter_len_congr fun o ho => ?_
    rw [Bool.eq_iff_iff]
    simp
  rw [e]
  exact k1 _ ((s1.trans s2).upd' hl)
theorem ok_flattest {f : Addr} {fd : FuncData} (F : Fun K "flattest" "flattest" s_flattest f fd) (G_need_tree : Callee P w K mg base "need_tree" 4 ["tree"] (sp_need_tree K mg)) (G_flat_number : Callee P w K mg base "flat_number" 2 ["tree", "place"] (sp_flat_number K mg)) (T : Txt K mg) : FnOk P w K mg base (CXE P w) 5 f fd ["tree"] (sp_flattest K mg) := by
  refine F.okX sc_flattest (fun vs H Q E h => ?_) (fun cdv A outer s H vs Q E hr h => ?_)
  · obtain ⟨t, T, rfl, _⟩ := h; rfl
  obtain ⟨t, T', rfl, ht, hn, k1, k2⟩ := h
  refine ⟨_, (pss_cons (ps_expr (pe_callF G_need_tree (hr.mono (by decide)) rfl pass_on (pa_cons (pv 0) pa_nil)))
      (pss_one (ps_ret (pe_callTy (call_tupK (K := K) rfl) rfl T.b_tuple bt_tuple (pa_cons (pe_compN ["place", "tree"] [none, some 0] rfl rfl rfl (pi_range1 rfl T.b_range (pa_cons (pe_callB (call_lenK (K := K) rfl) rfl T.b_len PySem.boot_len (pa_cons (pv 0) pa_nil)) pa_nil)) (fun _ _ _ _ _ => (pg_name (i := 0) (show (["place", "tree"] : List Str).Nodup from by decide +kernel) rfl (Or.inl rfl))) (fun _ _ _ _ _ => pifs_nil) (fun _ _ _ _ _ => (pe_callF G_flat_number (hr.mono (by decide)) rfl passE (pa_cons (pv 1) (pa_cons (pv 0) pa_nil)))) only_name) pa_nil))))), ?_⟩
  walk_at "rd"
  have eL : (T'.map V.int).length = T'.length := List.length_map ..
  refine ⟨t, T', rfl, ht, hn, fun g H1 s1 => ⟨_, .inr (SqT.of (s1 _ _ ht)), by omega, by rw [eL]; omega, ?_⟩, fun g H1 s1 => k2 g _ s1⟩
  have en : (((T'.map V.int).length : Nat) : Int).toNat = T'.length := by rw [eL]; omega
  rw [en]
  refine comp_map (n := T'.length) (fun q => V.int (flatN T' q : Nat)) (Nat.lt_of_le_of_lt hn (by decide)) (fun j Hx s hj => hj) (fun Hx s => Nat.le_refl _) ?_ ?_
  · rintro j x Hx Hy hj s ⟨rfl, rfl⟩
    walk_at "rd"
    exact ⟨t, T', j, by simp, (s1.trans s) _ _ ht, hn, hj, fun H9 s9 => CW.next hj rfl (s.trans s9)⟩
  · intro l' Hx s hl'
    have ed : (List.range T'.length).map (fun q => V.int (flatN T' q : Nat)) = (flatI T').map V.int := by simp [flatI]
    rw [ed]
    exact ⟨l', rfl, _, .inl ⟨SqL.of upd_same, fun t' ht' => k1 g t' _ (((s1.trans s).upd' hl').upd' ht') upd_same⟩⟩

theorem ok__law_over {f : Addr} {fd : FuncData} (F : Fun K "_law_over" "_law_over" s__law_over f fd)  (T : Txt K mg) : FnOk P w K mg base (CXE P w) 1 f fd ["tree", "place"] (sp__law_over K mg) := by
  refine F.okX sc__law_over (fun vs H Q E h => ?_) (fun cdv A outer s H vs Q E hr h => ?_)
  · obtain ⟨t, T, p, rfl, _⟩ := h; rfl
  obtain ⟨t, T', p, rfl, ht, hn, hp, hen, k1⟩ := h
  refine ⟨_, (pss_cons (ps_set (i := 2) sc__law_over.nd rfl (Or.inl rfl) (pe_lst pa_nil))
      (pss_cons (ps_set (i := 3) sc__law_over.nd rfl (Or.inl rfl) (pe_ix ix_tup (pv 0) (pv 1) (fun _ _ => rfl)))
      (pss_cons (ps_nox (ps_while PassesOwn.never (pt_cmpR op_ge (pv 3) pe_int (nomark _)) (pss_cons (ps_expr (pe_bm PySem.F.plainAttrs_list PySem.F.slot_list_append PySem.F.type_list_append mt_append (pv 2) (pa_cons (pv 3) pa_nil)))
      (pss_one (ps_set (i := 3) sc__law_over.nd rfl (Or.inl rfl) (pe_ix ix_tup (pv 0) (pv 3) (fun _ _ => rfl)))))))
      (pss_one (ps_ret (pv 2)))))), ?_⟩
  walk_at "rd"
  have eL : (T'.map V.int).length = T'.length := List.length_map ..
  refine ⟨Nat.zero_le _, fun l hl => ⟨_, SqT.of (((Same.refl H).upd hl) _ _ ht), _, nth_at hp, ?_⟩⟩
  have nlt : t ≠ l := ne_of_none ht hl
  refine while_m (fun m σ Hx => ∃ (h : Int) (L : List Nat), m + L.length = T'.length ∧ endsIn T' m h ∧ L ++ wayF T' m h = way T' p ∧ Same H Hx ∧ Hx l = some (.lst (natsV L)) ∧ σ = [some (.ref t), some (.int p), some (.ref l), some (.int h)]) T'.length ⟨nth T' p, [], by simp, hen, rfl, (Same.refl H).upd hl, upd_same, rfl⟩ ?_
  rintro m σ Hx ⟨h, L, hm, he, hw, sx, hxl, rfl⟩
  walk_at "rd"
  refine ite2 (fun z => ?_) fun z => ?_
  · cases m with
    | zero => exact absurd (show h = -1 from he) (by omega)
    | succ m =>
      rcases he with he | ⟨he1, he2, he3⟩
      · omega
      · obtain ⟨j, rfl⟩ := Int.eq_ofNat_of_zero_le he1
        have ej : ((j : Int)).toNat = j := by omega
        rw [ej] at he3
        simp only [wayF, if_pos (And.intro he1 he2), ej] at hw
        refine ⟨_, fun σ' H' z => z, tyV_list hxl, _, hxl, Nat.lt_of_le_of_lt (show _ ≤ 1000 by rw [natsV_len]; omega) (by decide), _, SqT.of (by rw [upd_ne nlt]; exact sx _ _ ht), _, nth_at (by omega), m, by omega, nth T' j, L ++ [j], by simp; omega, he3, by rw [← hw]; simp, sx.upd hl, ?_, rfl⟩
        rw [upd_same, natsV_app]; rfl
  · refine k1 l Hx hl sx ?_
    have : wayF T' m h = [] := by
      cases m with
      | zero => rfl
      | succ m => simp only [wayF]; rw [if_neg (by omega)]
    rw [this, List.append_nil] at hw
    rw [hxl, wayI_way, hw]; simp [natsV]
theorem ok__law_flat {f : Addr} {fd : FuncData} (F : Fun K "_law_flat" "_law_flat" s__law_flat f fd) (G__law_over : Callee P w K mg base "_law_over" 1 ["tree", "place"] (sp__law_over K mg)) (T : Txt K mg) : FnOk P w K mg base (CXE P w) 2 f fd ["tree"] (sp__law_flat K mg) := by
  refine F.okX sc__law_flat (fun vs H Q E h => ?_) (fun cdv A outer s H vs Q E hr h => ?_)
  · obtain ⟨t, T, rfl, _⟩ := h; rfl
  obtain ⟨t, T', rfl, ht, hn, hen, k1⟩ := h
  refine ⟨_, (pss_one (ps_ret (pe_compN ["place", "tree"] [none, some 0] rfl rfl rfl (pi_range1 rfl T.b_range (pa_cons (pe_callB (call_lenK (K := K) rfl) rfl T.b_len PySem.boot_len (pa_cons (pv 0) pa_nil)) pa_nil)) (fun _ _ _ _ _ => (pg_name (i := 0) (show (["place", "tree"] : List Str).Nodup from by decide +kernel) rfl (Or.inr rfl))) (fun _ _ _ _ _ => pifs_nil) (fun _ _ _ _ _ => (pe_callB (call_lenK (K := K) rfl) rfl T.b_len PySem.boot_len (pa_cons (pe_compN ["other", "place"] [none, some 0] rfl rfl rfl (pi_listK (K := K) rfl (pe_callF G__law_over (hr.mono (by decide)) rfl passE (pa_cons (pv 1) (pa_cons (pv 0) pa_nil)))) (fun _ _ _ _ _ => (pg_name (i := 0) (show (["other", "place"] : List Str).Nodup from by decide +kernel) rfl (Or.inl rfl))) (fun _ _ _ _ _ => pifs_one (pt_cmpR op_gt (pv 0) (pv 1) (nomark _))) (fun _ _ _ _ _ => (pv 0)) only_name) pa_nil))) only_name))), ?_⟩
  walk_at "rd"
  have eL : (T'.map V.int).length = T'.length := List.length_map ..
  have en : (((T'.map V.int).length : Nat) : Int).toNat = T'.length := by rw [eL]; omega
  refine ⟨_, .inr (SqT.of ht), by omega, by rw [eL]; omega, ?_⟩
  rw [en]
  refine comp_map (n := T'.length) (fun q => V.int (flatN T' q : Nat)) (Nat.lt_of_le_of_lt hn (by decide)) (fun j Hx s hj => hj) (fun Hx s => Nat.le_refl _) ?_ ?_
  · rintro j x Hx Hy hj s ⟨rfl, rfl⟩
    have ej : ((0 : Int) + (j : Int)) = (j : Int) := by omega
    rw [ej]
    walk_at "rd"
    refine ⟨t, T', j, rfl, s _ _ ht, hn, hj, hen j hj, fun w H2 hw s2 h2 => ⟨w, rfl, ⟨_, SqL.of h2⟩, comp_sift (fun o => decide ((j : Int) < o)) h2 (by simp only [wayI, List.length_map]; exact Nat.le_trans (wayF_len _ _ _) (by omega)) (fun x Hz R hR => ?_) fun l H3 s3 hl => ?_⟩⟩
    · walk_at "rd"
      exact hR
    · refine ⟨l, rfl, _, .inl (SqL.of upd_same), CW.next hj ?_ ((s.trans (s2.trans s3)).upd' hl)⟩
      have : ((wayI T' j).filter fun o => decide ((j : Int) < o)).length = flatN T' j := by
        rw [wayI_way, List.filter_map, List.length_map]
        unfold flatN
        refine filter_len_congr fun o ho => ?_
        rw [Bool.eq_iff_iff]
        simp
      rw [List.length_map, this]
  · intro l' Hx s hl'
    have ed : (List.range T'.length).map (fun q => V.int (flatN T' q : Nat)) = (flatI T').map V.int := by simp [flatI]
    rw [ed]
    exact k1 l' _ (s.free hl') (s.upd' hl') upd_same

theorem ok__law_either {f : Addr} {fd : FuncData} (F : Fun K "_law_either" "_law_either" s__law_either f fd) (G__law_take : Callee P w K mg base "_law_take" 1 ["pot", "many"] (sp__law_take K mg)) (T : Txt K mg) : FnOk P w K mg base (CXE P w) 2 f fd ["pot", "some"] (sp__law_either K mg) := by
  refine F.okX sc__law_either (fun vs H Q E h => ?_) (fun cdv A outer s H vs Q E hr h => ?_)
  · obtain ⟨p, r, ns, rfl, _⟩ := h; rfl
  obtain ⟨p, r, ns, rfl, hP, nrp, hr1, hn, k1⟩ := h
  refine ⟨_, (pss_one (ps_ret (pe_ix ix_tup (pe_tup (pa_cons (pe_callTy (call_listK (K := K) rfl) rfl T.b_list bt_list (pa_cons (pv 1) pa_nil)) (pa_cons (pe_callTy (call_tupK (K := K) rfl) rfl T.b_tuple bt_tuple (pa_cons (pv 1) pa_nil)) pa_nil))) (pe_callF G__law_take (hr.mono (by decide)) rfl passE (pa_cons (pv 0) (pa_cons pe_int pa_nil))) (fun _ _ => rfl)))), ?_⟩
  walk_at "rd"
  refine ⟨_, .inl (SqL.of hr1), fun l hl => ?_⟩
  have g1 := (Same.refl H).upd (o := .lst (ns.map V.int)) hl
  refine ⟨_, .inl ⟨SqL.of (g1 _ _ hr1), fun l2 hl2 => ⟨by decide, fun c hc => ?_⟩⟩⟩
  have g2 := (Same.refl _).upd (o := .tup (ns.map V.int)) hl2
  have g3 := (Same.refl _).upd (o := .tup [V.ref l, V.ref l2]) hc
  have gg := (g1.trans g2).trans g3
  have hl3 := (g2.trans g3) _ _ (upd_same (H := H) (a := l) (o := .lst (ns.map V.int)))
  have hl23 := g3 _ _ (upd_same (a := l2) (o := .tup (ns.map V.int)) (H := upd H l (.lst (ns.map V.int))))
  have nlp : l ≠ p := hP.ne hl
  have nl2p : l2 ≠ p := (hP.same g1).ne hl2
  have ncp : c ≠ p := (hP.same (g1.trans g2)).ne hc
  refine ⟨p, _, rfl, by decide, by decide, hP.same gg, fun d H2 d0 d1 P2 e2 => ⟨_, d, rfl, SqT.of (e2 _ _ ncp upd_same), ?_⟩⟩
  have ex := (Same.refl H).toExc.same gg |>.trans e2
  rcases (by omega : d = 0 ∨ d = 1) with rfl | rfl
  · exact ⟨_, rfl, k1 l H2 hl (.inl (e2 _ _ nlp hl3)) P2 ex⟩
  · exact ⟨_, rfl, k1 l2 H2 (g1.free hl2) (.inr (e2 _ _ nl2p hl23)) P2 ex⟩

theorem ok__law_wide_row {f : Addr} {fd : FuncData} (F : Fun K "_law_wide_row" "_law_wide_row" s__law_wide_row f fd) (G__law_take : Callee P w K mg base "_law_take" 1 ["pot", "many"] (sp__law_take K mg)) (G__law_row : Callee P w K mg base "_law_row" 2 ["pot", "most"] (sp__law_row K mg)) (T : Txt K mg) : FnOk P w K mg base (CXE P w) 3 f fd ["pot"] (sp__law_wide_row K mg) := by
  refine F.okX sc__law_wide_row (fun vs H Q E h => ?_) (fun cdv A outer s H vs Q E hr h => ?_)
  · obtain ⟨p, rfl, _⟩ := h; rfl
  obtain ⟨p, rfl, hP, k1⟩ := h
  refine ⟨_, (pss_cons (ps_set (i := 1) sc__law_wide_row.nd rfl (Or.inl rfl) (pe_callF G__law_row (hr.mono (by decide)) rfl passE (pa_cons (pv 0) (pa_cons pe_int pa_nil))))
      (pss_cons (ps_set (i := 2) sc__law_wide_row.nd rfl (Or.inr rfl) (pe_callF G__law_take (hr.mono (by decide)) rfl passE (pa_cons (pv 0) (pa_cons pe_int pa_nil))))
      (pss_cons (ps_if (pt_cmpR op_gt (pv 2) pe_int (nomark _)) (pss_one (ps_set (i := 1) sc__law_wide_row.nd rfl (Or.inl rfl) (pe_slice sl_list (pe_op (op_catK (K := K) rfl) (pe_op (op_catK (K := K) rfl) (pv 1) (pe_callF G__law_row (hr.mono (by decide)) rfl passE (pa_cons (pv 0) (pa_cons pe_int pa_nil)))) (pv 1)) po_none (po_some pe_int)))) pss_nil)
      (pss_cons (ps_if (pt_cmpR op_eq (pv 2) pe_int (nomark _)) (pss_cons (ps_set (i := 2) sc__law_wide_row.nd rfl (Or.inr rfl) (pe_op op_sub (pe_op op_mulX pe_int (pe_callF G__law_take (hr.mono (by decide)) rfl passE (pa_cons (pv 0) (pa_cons pe_int pa_nil)))) pe_int))
      (pss_one (ps_setCN (i := 1) ["k", "way"] [none, some 2] sc__law_wide_row.nd rfl (Or.inl rfl) rfl rfl rfl (pi_range1 rfl T.b_range (pa_cons pe_int pa_nil)) (fun _ _ _ _ _ => (pg_name (i := 0) (show (["k", "way"] : List Str).Nodup from by decide +kernel) rfl (Or.inl rfl))) (fun _ _ _ _ _ => pifs_nil) (fun _ _ _ _ _ => (pe_op op_mulX (pv 1) (pv 0))) only_name))) pss_nil)
      (pss_one (ps_ret (pv 1))))))), ?_⟩
  walk_at "rd"
  refine ⟨p, _, rfl, by decide, by decide, hP, fun r ns H1 zr hl hr1 P1 e1 => ⟨p, _, rfl, by decide, by decide, P1, fun d H2 d0 d1 P2 e2 => ⟨d, rfl, ite2 (fun hd => ?_) (fun hd => ?_)⟩⟩⟩
  · have nrp : r ≠ p := fun e => by rw [e] at zr; exact absurd zr hP.some
    have hr2 := e2 _ _ nrp hr1
    refine ⟨p, _, rfl, by decide, by decide, P2, fun r2 ns2 H3 zr2 hl2 hr3 P3 e3 => ⟨r, rfl, r2, rfl, _, SqL.of (e3 _ _ nrp hr2), _, SqL.of hr3, Nat.le_trans (show _ ≤ 1000 by simp only [List.length_map]; omega) (by decide), fun a ha => ?_⟩⟩
    have g1 := (Same.refl H3).upd (o := .lst (ns.map V.int ++ ns2.map V.int)) ha
    refine ⟨r, rfl, _, SqL.of upd_same, _, SqL.of (g1 _ _ (e3 _ _ nrp hr2)), Nat.le_trans (show _ ≤ 1000 by simp only [List.length_map, List.length_append]; omega) (by decide), fun b hb => ⟨_, SqL.of upd_same, fun t ht => ⟨rfl, ite2 (fun z => by cases z; omega) fun _ => ?_⟩⟩⟩
    have g2 := g1.upd' (o := .lst (ns.map V.int ++ ns2.map V.int ++ ns.map V.int)) hb
    have e40 : cutV (ns.map V.int ++ ns2.map V.int ++ ns.map V.int) none (some 40) = ((ns ++ ns2 ++ ns).take 40).map V.int := by
      rw [show (40 : Int) = ((40 : Nat) : Int) by rfl, cut_to, ← List.map_append, ← List.map_append, ← List.map_take]
    rw [e40]
    have g3 := g2.upd' (o := .lst (((ns ++ ns2 ++ ns).take 40).map V.int)) ht
    exact k1 t _ _ (((e1.trans e2).trans e3).free (P3.ne (g2.free ht)) (g2.free ht)) (by rw [List.length_take]; omega) upd_same (P3.same g3) (((e1.trans e2).trans e3).same g3)
  · have nrp : r ≠ p := fun e => by rw [e] at zr; exact absurd zr hP.some
    have hr2 := e2 _ _ nrp hr1
    refine ⟨rfl, ite2 (fun z => ?_) fun _ => k1 r ns H2 zr (by omega) hr2 P2 (e1.trans e2)⟩
    refine ⟨p, _, rfl, by decide, by decide, P2, fun x H3 x0 x1 P3 e3 => ⟨x, rfl, mul_l (by decide) (by decide), by decide, by decide, ?_⟩⟩
    refine comp_map (n := 40) (fun i => V.int ((2 * x - 1) * (i : Int))) (by decide) (fun i Hx s hi => by show _ < _; exact hi) (fun Hx s => Nat.le_refl _) ?_ ?_
    · rintro i v Hx Hy hi s ⟨rfl, rfl⟩
      walk_at "rd"
      refine ⟨mul_l (by omega) (by omega), CW.next hi ?_ s⟩
      rw [show (0 : Int) + (i : Int) = (i : Int) by omega]
    intro t Hx sx ht
    have e123 := ((e1.trans e2).trans e3).same (sx.upd' (o := .lst ((List.range 40).map fun (i : Nat) => V.int ((2 * x - 1) * (i : Int)))) ht)
    refine k1 t ((List.range 40).map fun (i : Nat) => (2 * x - 1) * (i : Int)) _ (((e1.trans e2).trans e3).free (P3.ne (sx.free ht)) (sx.free ht)) (by simp) (by rw [upd_same, List.map_map]; rfl) (P3.same (sx.upd' ht)) e123

theorem nthV {ns : List Int} {i : Nat} (h : i < ns.length) : (ns.map V.int)[i]? = some (V.int (nth ns i)) := by
  unfold nth
  rw [List.getElem?_map, List.getElem?_eq_getElem h, List.getD_eq_getElem?_getD, List.getElem?_eq_getElem h]; rfl
theorem hgt_len (F ns : List Int) : (hgt F ns).length = F.length := by unfold hgt; simp
theorem hgt_nth {F ns : List Int} {i : Nat} (h : i < F.length) : nth (hgt F ns) i = nth ns i - nth F i := by
  show List.getD ((List.range F.length).map fun i => nth ns i - nth F i) i 0 = _
  rw [List.getD_eq_getElem?_getD, List.getElem?_map, List.getElem?_range h]; rfl

theorem ok_heights_of {f : Addr} {fd : FuncData} (F : Fun K "heights_of" "heights_of" s_heights_of f fd)  (T : Txt K mg) : FnOk P w K mg base (CXE P w) 1 f fd ["flat", "row"] (sp_heights_of K mg) := by
  refine F.okX sc_heights_of (fun vs H Q E h => ?_) (fun cdv A outer s H vs Q E hr h => ?_)
  · obtain ⟨f, r, F, ns, rfl, _⟩ := h; rfl
  obtain ⟨f, r, Fl, ns, rfl, hf, hr1, hF, hn, k1, k2⟩ := h
  refine ⟨_, (pss_cons (ps_if (pt_cmpR op_ne (pe_callB (call_lenK (K := K) rfl) rfl T.b_len PySem.boot_len (pa_cons (pv 1) pa_nil)) (pe_callB (call_lenK (K := K) rfl) rfl T.b_len PySem.boot_len (pa_cons (pv 0) pa_nil)) (nomark _)) (pss_one (ps_raise rfl rfl T.c_Unlike T.x_Unlike (pa_cons (pe_joined (pj_text (by decide) (pj_int (pe_callB (call_lenK (K := K) rfl) rfl T.b_len PySem.boot_len (pa_cons (pv 1) pa_nil)) (pj_text (by decide) (pj_int (pe_callB (call_lenK (K := K) rfl) rfl T.b_len PySem.boot_len (pa_cons (pv 0) pa_nil)) (pj_text (by decide) pj_nil)))))) pa_nil) raisesE)) pss_nil)
      (pss_one (ps_ret (pe_compN ["number", "least"] [none, none] rfl rfl rfl (pi_zipQ (K := K) rfl rfl T.b_zip (pa_cons (pv 1) (pa_cons (pv 0) pa_nil))) (fun _ _ _ _ _ => (pg_tupK (K := K) (n := 2) rfl rfl (pgs_cons (pg_name (i := 0) (show (["number", "least"] : List Str).Nodup from by decide +kernel) rfl (Or.inl rfl)) (pgs_cons (pg_name (i := 1) (show (["number", "least"] : List Str).Nodup from by decide +kernel) rfl (Or.inl rfl)) pgs_nil)))) (fun _ _ _ _ _ => pifs_nil) (fun _ _ _ _ _ => (pe_op op_sub (pv 0) (pv 1))) (only_tup (only_cons only_name (only_cons only_name only_nil))))))), ?_⟩
  walk_at "rd"
  have ef : (Fl.map V.int).length = Fl.length := List.length_map ..
  have en : (ns.map V.int).length = ns.length := List.length_map ..
  refine ⟨_, hr1, _, .inr (SqT.of hf), ite2 (fun c => ?_) (fun c => ?_)⟩
  · exact ⟨_, hr1, by omega, Int.lt_trans (show _ < (2000 : Int) by omega) (by decide), _, .inr (SqT.of hf), by omega, Int.lt_trans (show _ < (2000 : Int) by omega) (by decide), fun y => ⟨by decide, k2 (fun z => c (by omega)) H (Same.refl H)⟩⟩
  have e : ns.length = Fl.length := by
    have := Decidable.not_not.mp c
    omega
  obtain ⟨tg, hB⟩ := SqB.of hr1
  obtain ⟨tu, hB2⟩ := SqB.of (K := K) (H := H) (a := f) (xs := Fl.map V.int) (.inr (SqT.of hf))
  refine ⟨tg, tu, _, hB, _, hB2, ?_⟩
  refine comp_map (n := Fl.length) (fun i => V.int (nth ns i - nth Fl i)) (Nat.lt_of_le_of_lt hF (by decide)) (fun i Hx s hi => ⟨_, _, _, _, s.seqB hB, s.seqB hB2, nthV (by omega), nthV hi⟩) (fun Hx s => ⟨_, _, s.seqB hB, s.seqB hB2, .inl (by omega)⟩) ?_ ?_
  · rintro i x Hx Hy hi s ⟨q, x, y, hq, rfl, rfl, hx, hy⟩
    have ex := hx _ (s.seqB hB)
    have ey := hy _ (s.seqB hB2)
    rw [nthV (by omega)] at ex
    rw [nthV hi] at ey
    cases ex; cases ey
    walk_at "rd"
    exact ⟨_, SqT.of upd_same, rfl, _, _, rfl, _, _, rfl, rfl, _, rfl, _, rfl, CW.next hi rfl (s.upd' hq)⟩
  · intro l Hx s hl
    have := k1 e l (upd Hx l (.lst ((hgt Fl ns).map V.int))) (s.free hl) (s.upd' hl) upd_same
    unfold hgt at this
    rw [List.map_map] at this
    exact this
theorem ok_is_over {f : Addr} {fd : FuncData} (F : Fun K "is_over" "is_over" s_is_over f fd) (G_way_up : Callee P w K mg base "way_up" 1 ["tree", "place"] (sp_way_up K mg)) (T : Txt K mg) : FnOk P w K mg base (CXE P w) 2 f fd ["tree", "a", "b"] (sp_is_over K mg) := by
  refine F.okX sc_is_over (fun vs H Q E h => ?_) (fun cdv A outer s H vs Q E hr h => ?_)
  · obtain ⟨t, T, a, b, rfl, _⟩ := h; rfl
  obtain ⟨t, T', a, b, rfl, ht, hn, k1⟩ := h
  refine ⟨_, (pss_one (ps_ret (pe_and (pe_chain op_le op_lt pe_int (pv 2) (pe_callB (call_lenK (K := K) rfl) rfl T.b_len PySem.boot_len (pa_cons (pv 0) pa_nil))) (pe_one (pe_cmpR (op_inK (K := K) rfl) (pv 1) (pe_callF G_way_up (hr.mono (by decide)) rfl passE (pa_cons (pv 0) (pa_cons (pv 2) pa_nil))) (by with_unfolding_all rfl)))))), ?_⟩
  walk_at "rd"
  have eT : (T'.map V.int).length = T'.length := List.length_map ..
  have no : ∀ H', Same H H' → ¬ (0 ≤ b ∧ b < (T'.length : Int) ∧ a ∈ wayI T' b.toNat) → Q (.bl false) H' := fun H' s c => by
    have := k1 H' s
    rw [decide_eq_false c] at this; exact this
  refine ite2 (fun c0 => ⟨_, .inr (SqT.of ht), ite2 (fun c1 => ?_) fun c1 => no H (Same.refl H) (fun z => c1 (by omega))⟩) fun c0 => no H (Same.refl H) fun z => c0 z.1
  obtain ⟨j, rfl⟩ := Int.eq_ofNat_of_zero_le c0
  refine ⟨t, T', j, rfl, .inr (SqT.of ht), hn, by omega, fun w H1 zw s1 hw => ⟨w, rfl, _, .inl (SqL.of hw), rfl, flat_ints _, ?_⟩⟩
  rw [in_ints]
  have := k1 H1 s1
  rw [show decide (0 ≤ (j : Int) ∧ (j : Int) < (T'.length : Int) ∧ a ∈ wayI T' (j : Int).toNat) = decide (a ∈ wayI T' j) from decide_eq_decide.mpr ⟨fun z => by simpa using z.2.2, fun z => ⟨by omega, by omega, by simpa using z⟩⟩] at this
  exact this

theorem pot_tup {H : Hp} {p t : Addr} {xs : List V} (P : PotAt H p) (h : H t = some (.tup xs)) : t ≠ p := fun z => by
  obtain ⟨x, e, _⟩ := P
  rw [z, e] at h; cases h
theorem pot_tab {K : PySem.W.Frag} {mg : Str → Option Value} {x : Str} {H : Hp} {p : Addr} (P : PotAt H p) (h : TabH K mg x H) : tabP K mg x ≠ p := fun z => by
  obtain ⟨y, e, _⟩ := P
  unfold TabH at h
  rw [z, e] at h; cases h
theorem TabH.exc {K : PySem.W.Frag} {mg : Str → Option Value} {x : Str} {H H' : Hp} {p : Addr} (h : TabH K mg x H) (P : PotAt H p) (e : Exc p H H') : TabH K mg x H' := e _ _ (pot_tab P h) h
theorem nth_app1 {ds : List Int} {m : Int} {q : Nat} (h : q < ds.length) : nth (ds ++ [m]) q = nth ds q := by
  unfold nth
  rw [List.getD_eq_getElem?_getD, List.getD_eq_getElem?_getD, List.getElem?_append_left h]
theorem nth_app2 {ds : List Int} {m : Int} : nth (ds ++ [m]) ds.length = m := by
  unfold nth
  rw [List.getD_eq_getElem?_getD, List.getElem?_append_right (Nat.le_refl _)]; simp
theorem nth_mem {ns : List Int} {i : Nat} (h : i < ns.length) : nth ns i ∈ ns := by
  unfold nth
  rw [List.getD_eq_getElem?_getD, List.getElem?_eq_getElem h]; exact List.getElem_mem h
theorem DueIs.uniq {T ls ds es : List Int} (h1 : DueIs T ls ds) (h2 : DueIs T ls es) : ds = es := by
  refine List.ext_getElem (h1.1.trans h2.1.symm) fun i i1 i2 => ?_
  have hi : i < T.length := by have := h1.1; omega
  obtain ⟨⟨o, ho, e1⟩, b1⟩ := h1.2 i hi
  obtain ⟨⟨o', ho', e2⟩, b2⟩ := h2.2 i hi
  have c1 := b2 o ho
  have c2 := b1 o' ho'
  have q1 : nth ds i = ds[i] := by unfold nth; rw [List.getD_eq_getElem?_getD, List.getElem?_eq_getElem i1]; rfl
  have q2 : nth es i = es[i] := by unfold nth; rw [List.getD_eq_getElem?_getD, List.getElem?_eq_getElem i2]; rfl
  omega

theorem ok__law_least_row {f : Addr} {fd : FuncData} (F : Fun K "_law_least_row" "_law_least_row" s__law_least_row f fd) (G__law_over : Callee P w K mg base "_law_over" 1 ["tree", "place"] (sp__law_over K mg)) (G__law_flat : Callee P w K mg base "_law_flat" 2 ["tree"] (sp__law_flat K mg)) (T : Txt K mg) : FnOk P w K mg base (CXE P w) 3 f fd ["tree", "least"] (sp__law_least_row K mg) := by
  refine F.okX sc__law_least_row (fun vs H Q E h => ?_) (fun cdv A outer s H vs Q E hr h => ?_)
  · obtain ⟨t, a, T, ls, rfl, _⟩ := h; rfl
  obtain ⟨t, a, T', ls, rfl, ht, ha, hG, l1, k1⟩ := h
  refine ⟨_, (pss_cons (ps_set (i := 2) sc__law_least_row.nd rfl (Or.inr rfl) (pe_callF G__law_flat (hr.mono (by decide)) rfl passE (pa_cons (pv 0) pa_nil)))
      (pss_cons (ps_set (i := 3) sc__law_least_row.nd rfl (Or.inl rfl) (pe_lst pa_nil))
      (pss_cons (ps_nox (ps_for PassesOwn.never rfl (pi_range1 rfl T.b_range (pa_cons (pe_callB (call_lenK (K := K) rfl) rfl T.b_len PySem.boot_len (pa_cons (pv 0) pa_nil)) pa_nil)) (pg_name (i := 4) sc__law_least_row.nd rfl (Or.inr rfl)) (pss_cons (ps_set (i := 5) sc__law_least_row.nd rfl (Or.inl rfl) (pe_op (op_catK (K := K) rfl) (pe_lst (pa_cons (pv 4) pa_nil)) (pe_callF G__law_over (hr.mono (by decide)) rfl passE (pa_cons (pv 0) (pa_cons (pv 4) pa_nil)))))
      (pss_one (ps_expr (pe_bm PySem.F.plainAttrs_list PySem.F.slot_list_append PySem.F.type_list_append mt_append (pv 3) (pa_cons (pe_callB (call_max1 rfl) rfl T.b_max bt_max (pa_cons (pe_compN ["other", "flat", "least", "place"] [none, some 2, some 1, some 4] rfl rfl rfl (pi_list (pv 5)) (fun _ _ _ _ _ => (pg_name (i := 0) (show (["other", "flat", "least", "place"] : List Str).Nodup from by decide +kernel) rfl (Or.inl rfl))) (fun _ _ _ _ _ => pifs_nil) (fun _ _ _ _ _ => (pe_op op_sub (pe_op op_add (pe_ix (r := rIxL K) ix_list (pv 2) (pv 0) (fun _ _ => rfl)) (pe_ix (r := rIxL K) ix_list (pv 1) (pv 3) (fun _ _ => rfl))) (pe_ix (r := rIxL K) ix_list (pv 1) (pv 0) (fun _ _ => rfl)))) only_name) pa_nil)) pa_nil)))))))
      (pss_one (ps_ret (pv 3)))))), ?_⟩
  walk_at "rd"
  have eL : (T'.map V.int).length = T'.length := List.length_map ..
  have eF : (flatI T').length = T'.length := flatI_len T'
  obtain ⟨h40, nsT, hT⟩ := hG
  have eT := hT.1
  refine ⟨t, T', rfl, ht, by omega, fun q hq => endsIn_all hT hq, fun fl H1 zfl s1 hfl => ⟨Nat.zero_le _, fun p hp => ?_⟩⟩
  have s0 := s1.upd' (o := .lst []) hp
  have hfl0 := ((Same.refl H1).upd' (o := .lst []) hp) _ _ hfl
  have hp0 := upd_same (H := H1) (a := p) (o := .lst [])
  have zp : H p = none := s1.free hp
  have nfp : fl ≠ p := fun z => by rw [z, hp] at hfl; cases hfl
  generalize upd H1 p (.lst []) = H2 at s0 hfl0 hp0 ⊢
  refine ⟨_, .inr (SqT.of (s0 _ _ ht)), by omega, by omega, ?_⟩
  rw [eL, show ((T'.length : Nat) : Int).toNat = T'.length by omega]
  refine for_range (fun i σ Hx => ∃ (v4 v5 : Option V) (ds : List Int), σ = [some (.ref t), some (.ref a), some (.ref fl), some (.ref p), v4, v5] ∧ Same H Hx ∧ Hx fl = some (.lst ((flatI T').map V.int)) ∧ Hx p = some (.lst (ds.map V.int)) ∧ ds.length = i ∧ ∀ q, q < i → (∃ o ∈ q :: way T' q, nth ds q = nth ls o + nth (flatI T') q - nth (flatI T') o) ∧ ∀ o ∈ q :: way T' q, nth ls o + nth (flatI T') q - nth (flatI T') o ≤ nth ds q)
    ⟨none, none, [], rfl, s0, hfl0, hp0, rfl, fun q hq => absurd hq (by omega)⟩ ?_ ?_
  · rintro i σ Hx hi ⟨v4, v5, ds, rfl, sx, hfx, hpx, hdl, hds⟩
    rw [show (0 : Int) + (i : Int) = ((i : Nat) : Int) by omega]
    walk_at "rd"
    refine ⟨by decide, fun p1 hp1 => ?_⟩
    have g1 := (Same.refl Hx).upd' (o := .lst [V.int (i : Int)]) hp1
    have h1 := upd_same (H := Hx) (a := p1) (o := .lst [V.int (i : Int)])
    generalize upd Hx p1 (.lst [V.int (i : Int)]) = Hy at g1 h1 ⊢
    refine ⟨t, T', i, rfl, g1 _ _ (sx _ _ ht), by omega, hi, endsIn_all hT hi, fun w H3 zw s3 hw => ⟨w, rfl, _, SqL.of (s3 _ _ h1), _, SqL.of hw, ?_, fun p2 hp2 => ?_⟩⟩
    · have := wayF_len T' T'.length (nth T' i)
      rw [wayI, List.length_map, List.length_map]
      exact Nat.le_trans (show _ ≤ 1000 by simp only [List.length_cons, List.length_nil]; omega) (by decide)
    have eW : [V.int (i : Int)] ++ (wayI T' i).map V.int = ((i :: way T' i).map fun (q : Nat) => (q : Int)).map V.int := by rw [wayI_way]; rfl
    rw [eW]
    have g2 := (g1.trans s3).upd' (o := .lst (((i :: way T' i).map fun (q : Nat) => (q : Int)).map V.int)) hp2
    have h2 := upd_same (H := H3) (a := p2) (o := .lst (((i :: way T' i).map fun (q : Nat) => (q : Int)).map V.int))
    generalize upd H3 p2 (.lst (((i :: way T' i).map fun (q : Nat) => (q : Int)).map V.int)) = H4 at g2 h2 ⊢
    have hW : ∀ o ∈ i :: way T' i, o < T'.length := fun o ho => by
      rcases List.mem_cons.mp ho with rfl | ho
      · exact hi
      · have := ((way_over hT (by omega)).mp ho).1; omega
    have hWl : (i :: way T' i).length ≤ 1000 := by
      have := wayF_len T' T'.length (nth T' i)
      unfold way
      rw [List.length_cons]; omega
    generalize hWg : i :: way T' i = W at h2 hW hWl ⊢
    refine ⟨tyV_list (g2 _ _ hpx), ⟨_, SqL.of h2⟩, comp_map (n := W.length) (fun j => V.int (nth ls (W.getD j 0) + nth (flatI T') i - nth (flatI T') (W.getD j 0))) (Nat.lt_of_le_of_lt hWl (by decide)) (fun j Hz s hj => ⟨_, _, SqL.of (s _ _ h2), List.getElem?_eq_getElem (by simpa using hj)⟩) (fun Hz s => ⟨_, SqL.of (s _ _ h2), by simp⟩) ?_ ?_⟩
    · rintro j x Hz Hw hj sz ⟨rfl, hx⟩
      have ex := hx _ (SqL.of (sz _ _ h2))
      have eo : (((W.map fun (q : Nat) => (q : Int)).map V.int))[j]? = some (V.int ((W.getD j 0 : Nat) : Int)) := by simp [List.getD_eq_getElem?_getD, hj]
      rw [eo] at ex
      cases ex
      have ho := hW _ (show W.getD j 0 ∈ W by rw [List.getD_eq_getElem?_getD, List.getElem?_eq_getElem hj]; exact List.getElem_mem hj)
      generalize hog : W.getD j 0 = o at ho eo hx ⊢
      walk_at "rd"
      exact ⟨_, SqL.of ((g2.trans sz) _ _ (sx _ _ ha)), _, nth_at (by omega), _, SqL.of ((g2.trans sz) _ _ hfx), _, nth_at (by omega), _, rfl, _, rfl, _, SqL.of ((g2.trans sz) _ _ hfx), _, nth_at (by omega), _, rfl, CW.next hj (by rw [← hog]) sz⟩
    · intro l Hz sz hl
      have g3 := (g2.trans sz).upd' (o := .lst ((List.range W.length).map fun j => V.int (nth ls (W.getD j 0) + nth (flatI T') i - nth (flatI T') (W.getD j 0)))) hl
      have h3 := upd_same (H := Hz) (a := l) (o := .lst ((List.range W.length).map fun j => V.int (nth ls (W.getD j 0) + nth (flatI T') i - nth (flatI T') (W.getD j 0))))
      generalize upd Hz l (.lst ((List.range W.length).map fun j => V.int (nth ls (W.getD j 0) + nth (flatI T') i - nth (flatI T') (W.getD j 0)))) = H5 at g3 h3 ⊢
      have eM : (List.range W.length).map (fun j => V.int (nth ls (W.getD j 0) + nth (flatI T') i - nth (flatI T') (W.getD j 0))) = (W.map fun o => nth ls o + nth (flatI T') i - nth (flatI T') o).map V.int := by
        refine List.ext_getElem (by simp) fun j j1 j2 => ?_
        have : j < W.length := by simpa using j2
        simp [List.getD_eq_getElem?_getD, this]
      rw [eM] at h3
      refine ⟨l, rfl, _, SqL.of h3, ?_, fun m hm hx => ?_⟩
      · rw [← hWg]; simp
      have hp5 := g3 _ _ hpx
      refine ⟨_, hp5, Nat.lt_of_le_of_lt (show _ ≤ 1000 by rw [List.length_map]; omega) (by decide), (sx.trans g3).upd zp, by rw [upd_ne nfp]; exact g3 _ _ hfx, ds ++ [m], by rw [upd_same]; simp, by simp [hdl], fun q hq => ?_⟩
      by_cases e : q < i
      · rw [nth_app1 (by omega)]; exact hds q e
      · have e2 : q = i := by omega
        subst e2
        have em : nth (ds ++ [m]) q = m := by rw [← hdl]; exact nth_app2
        rw [em, hWg]
        obtain ⟨o, ho, e3⟩ := List.mem_map.mp hm
        exact ⟨⟨o, ho, e3.symm⟩, fun o' ho' => hx _ (List.mem_map.mpr ⟨o', ho', rfl⟩)⟩
  · rintro σ Hx ⟨v4, v5, ds, rfl, sx, hfx, hpx, hdl, hds⟩
    walk_at "rd"
    exact k1 p ds Hx zp sx ⟨hdl, hds⟩ hpx

theorem ok__law_kin_row {f : Addr} {fd : FuncData} (F : Fun K "_law_kin_row" "_law_kin_row" s__law_kin_row f fd) (G__law_take : Callee P w K mg base "_law_take" 1 ["pot", "many"] (sp__law_take K mg)) (G__law_over : Callee P w K mg base "_law_over" 1 ["tree", "place"] (sp__law_over K mg)) (G__law_flat : Callee P w K mg base "_law_flat" 2 ["tree"] (sp__law_flat K mg)) (L : LamD K mg "_law_kin_row" f) (B : BM mg base) (T : Txt K mg) : FnOk P w K mg base (CXE P w) 5 f fd ["pot", "tree"] (sp__law_kin_row K mg) := by
  refine F.okL L B sc__law_kin_row (fun vs H Q E h => ?_) (fun cdv A outer s H vs Q E LI hr h => ?_)
  · obtain ⟨p, t, T, rfl, _⟩ := h; rfl
  obtain ⟨p, t, T', rfl, hP, ht, hG, hTb, k1⟩ := h
  refine ⟨_, (pss_cons (ps_set (i := 2) sc__law_kin_row.nd rfl (Or.inl rfl) (pe_callF G__law_flat (hr.mono (by decide)) rfl passE (pa_cons (pv 1) pa_nil)))
      (pss_cons (ps_setCN (i := 3) ["place", "pot"] [none, some 0] sc__law_kin_row.nd rfl (Or.inl rfl) rfl rfl rfl (pi_tup (pv 1)) (fun _ _ _ _ _ => (pg_name (i := 0) (show (["place", "pot"] : List Str).Nodup from by decide +kernel) rfl (Or.inl rfl))) (fun _ _ _ _ _ => pifs_nil) (fun _ _ _ _ _ => (pe_op op_sub (pe_callF G__law_take (hr.mono (by decide)) rfl passE (pa_cons (pv 1) (pa_cons pe_int pa_nil))) pe_int)) only_name)
      (pss_cons (ps_if (pt_cmpR op_eq (pe_callF G__law_take (hr.mono (by decide)) rfl passE (pa_cons (pv 0) (pa_cons pe_int pa_nil))) pe_int (nomark _)) (pss_one (ps_setCN (i := 3) ["number"] [none] sc__law_kin_row.nd rfl (Or.inl rfl) rfl rfl rfl (pi_list (pv 3)) (fun _ _ _ _ _ => (pg_name (i := 0) (show (["number"] : List Str).Nodup from by decide +kernel) rfl (Or.inl rfl))) (fun _ _ _ _ _ => pifs_nil) (fun _ _ _ _ _ => (pe_op op_mulX (pv 0) (pe_op op_pow pe_int pe_int))) only_name)) pss_nil)
      (pss_cons (ps_nox (ps_for PassesOwn.never rfl (pi_list (pe_sortR1 (Nc := ["place", "tree"]) (js := [none, some 1]) (pn := "place") (q := lamQ "_law_kin_row") (P := tabP K mg "_law_kin_row") rfl hr ⟨rfl, rfl, rfl, rfl, rfl, rfl, rfl, fun _ _ _ _ _ _ => rfl⟩ (fun _ _ _ _ _ _ => (pe_callB (call_lenK (K := K) rfl) rfl T.b_len PySem.boot_len (pa_cons (pe_callF G__law_over ((hr.in1.in1.deeper _).mono (by decide)) rfl passE (pa_cons (pv 1) (pa_cons (pv 0) pa_nil))) pa_nil))) rfl T.b_sorted (pa_cons (pe_range1 rfl T.b_range (pa_cons (pe_callB (call_lenK (K := K) rfl) rfl T.b_len PySem.boot_len (pa_cons (pv 1) pa_nil)) pa_nil)) pa_nil) (pk_cons (pe_lam ⟨LI.code, LI.bm, LI.ql⟩ rfl) pk_nil))) (pg_name (i := 4) sc__law_kin_row.nd rfl (Or.inl rfl)) (pss_cons (ps_set (i := 5) sc__law_kin_row.nd rfl (Or.inl rfl) (pe_ix ix_tup (pv 1) (pv 4) (fun _ _ => rfl)))
      (pss_one (ps_if (pt_cmpR op_ge (pv 5) pe_int (nomark _)) (pss_cons (ps_set (i := 6) sc__law_kin_row.nd rfl (Or.inl rfl) (pe_op op_sub (pe_ix ix_list (pv 2) (pv 4) (fun _ _ => rfl)) (pe_ix ix_list (pv 2) (pv 5) (fun _ _ => rfl))))
      (pss_cons (ps_set (i := 6) sc__law_kin_row.nd rfl (Or.inl rfl) (pe_op op_add (pv 6) (pe_op op_mulX (pe_callF G__law_take (hr.mono (by decide)) rfl passE (pa_cons (pv 0) (pa_cons pe_int pa_nil))) (pe_callB call_abs rfl T.b_abs bt_abs (pa_cons (pe_ix ix_list (pv 3) (pv 4) (fun _ _ => rfl)) pa_nil)))))
      (pss_one (ps_asg (pe_op op_add (pe_ix ix_list (pv 3) (pv 5) (fun _ _ => rfl)) (pv 6)) (pg_sub (pv 3) (pv 4) set_list (fun _ => rfl)))))) pss_nil)))))
      (pss_one (ps_ret (pv 3))))))), ?_⟩
  have eL : (T'.map V.int).length = T'.length := List.length_map ..
  have eF : (flatI T').length = T'.length := flatI_len T'
  obtain ⟨h40, nsT, hT⟩ := hG
  have eT := hT.1
  have npt : t ≠ p := pot_tup hP ht
  refine seqR (fun σ Hx => ∃ fl : Addr, σ = [some (.ref p), some (.ref t), some (.ref fl), none, none, none, none] ∧ H fl = none ∧ Same H Hx ∧ Hx fl = some (.lst ((flatI T').map V.int))) (fun R hR => ?_) ?_
  · walk_at "rd"
    exact ⟨t, T', rfl, ht, by omega, fun q hq => endsIn_all hT hq, fun fl H1 zfl s1 hfl => hR _ _ ⟨fl, rfl, zfl, s1, hfl⟩⟩
  rintro σ H1 ⟨fl, rfl, zfl, s1, hfl⟩
  refine seqR (fun σ Hx => ∃ (r : Addr) (ns : List Int), σ = [some (.ref p), some (.ref t), some (.ref fl), some (.ref r), none, none, none] ∧ H r = none ∧ r ≠ fl ∧ ns.length = T'.length ∧ (∀ q ∈ ns, -3 ≤ q ∧ q ≤ 3) ∧ PotAt Hx p ∧ Exc p H Hx ∧ Hx fl = some (.lst ((flatI T').map V.int)) ∧ Hx r = some (.lst (ns.map V.int))) (fun R hR => ?_) ?_
  · walk_at "rd"
    have nfp : fl ≠ p := hP.ne zfl
    refine ⟨⟨_, SqT.of (s1 _ _ ht)⟩, comp_inv (n := T'.length) (fun j acc Hz => ∃ bs : List Int, acc = bs.map V.int ∧ bs.length = j ∧ (∀ q ∈ bs, -3 ≤ q ∧ q ≤ 3) ∧ PotAt Hz p ∧ Exc p H1 Hz) (Nat.lt_of_le_of_lt (show _ ≤ 1000 by omega) (by decide)) ⟨[], rfl, rfl, (fun q hq => nomatch hq), hP.same s1, (Same.refl H1).toExc⟩ (fun j acc Hz ⟨_, _, _, _, _, e⟩ hj => ⟨_, _, SqT.of (e _ _ npt (s1 _ _ ht)), nthV hj⟩) (fun acc Hz ⟨_, _, _, _, _, e⟩ => ⟨_, SqT.of (e _ _ npt (s1 _ _ ht)), Nat.le_of_eq eL⟩) ?_ ?_⟩
    · rintro j x acc Hz Hw hj hla ⟨bs, rfl, hbs, hbb, Pz, ez⟩ ⟨rfl, hx⟩
      walk_at "rd"
      refine ⟨p, _, rfl, by decide, by decide, Pz, fun z H4 z0 z1 P4 e4 => ⟨z, rfl, CA.take hj hla ⟨bs ++ [z - 3], by simp, by simp [hbs], fun q hq => ?_, P4, ez.trans e4⟩⟩⟩
      rcases List.mem_append.mp hq with hq | hq
      · exact hbb q hq
      · have : q = z - 3 := by simpa using hq
        omega
    · rintro r acc Hz ⟨bs, rfl, hbs, hbb, Pz, ez⟩ _ hr
      have zr1 : H1 r = none := ez.free (Pz.ne hr) hr
      exact hR _ _ ⟨r, bs, rfl, s1.free zr1, (fun z => by rw [z, hfl] at zr1; cases zr1), hbs, hbb, Pz.upd hr, (s1.toExc.trans ez).same ((Same.refl Hz).upd hr), ((Same.refl Hz).upd hr) _ _ (ez _ _ nfp hfl), upd_same⟩
  rintro σ H2 ⟨r, ns, rfl, zr, nrf, hnl, hnb, P2, e2, hfl2, hr2⟩
  refine seqR (fun σ Hx => ∃ (r : Addr) (ns : List Int), σ = [some (.ref p), some (.ref t), some (.ref fl), some (.ref r), none, none, none] ∧ H r = none ∧ r ≠ fl ∧ ns.length = T'.length ∧ PotAt Hx p ∧ Exc p H Hx ∧ Hx fl = some (.lst ((flatI T').map V.int)) ∧ Hx r = some (.lst (ns.map V.int))) (fun R hR => ?_) ?_
  · walk_at "rd"
    have nfp : fl ≠ p := hP.ne zfl
    have nrp : r ≠ p := hP.ne zr
    refine ⟨p, _, rfl, by decide, by decide, P2, fun d H3 d0 d1 P3 e3 => ⟨rfl, ite2 (fun z => ?_) fun z => hR _ _ ⟨r, ns, rfl, zr, nrf, hnl, P3, e2.trans e3, e3 _ _ nfp hfl2, e3 _ _ nrp hr2⟩⟩⟩
    have hr3 := e3 _ _ nrp hr2
    refine ⟨⟨_, SqL.of hr3⟩, comp_map (n := T'.length) (fun j => V.int (nth ns j * 10 ^ 57)) (Nat.lt_of_le_of_lt (show _ ≤ 1000 by omega) (by decide)) (fun j Hz s hj => ⟨_, _, SqL.of (s _ _ hr3), nthV (by omega)⟩) (fun Hz s => ⟨_, SqL.of (s _ _ hr3), by rw [List.length_map]; omega⟩) ?_ ?_⟩
    · rintro j x Hz Hw hj sz ⟨rfl, hx⟩
      have ex := hx _ (SqL.of (sz _ _ hr3))
      rw [nthV (by omega)] at ex
      cases ex
      walk_at "rd"
      have hb := hnb _ (nth_mem (ns := ns) (i := j) (by omega))
      exact ⟨by unfold CPow; decide, mul_l (by omega) (by omega), CW.next hj rfl sz⟩
    · intro l Hz sz hl
      have e23 := (e2.trans e3).same (sz.upd' (o := .lst ((List.range T'.length).map fun j => V.int (nth ns j * 10 ^ 57))) hl)
      refine hR _ _ ⟨l, (List.range T'.length).map fun j => nth ns j * 10 ^ 57, rfl, (e2.trans e3).free ((P3.same sz).ne hl) (sz.free hl), (fun z => ?_), by simp, (P3.same sz).upd hl, e23, (sz.upd' hl) _ _ (e3 _ _ nfp hfl2), by rw [upd_same, List.map_map]; rfl⟩
      rw [z, sz _ _ (e3 _ _ nfp hfl2)] at hl; cases hl
  clear hr2 hfl2 e2 P2 hnl nrf zr
  rintro σ H3 ⟨r, ns, rfl, zr, nrf, hnl, P3, e3, hfl3, hr3⟩
  walk_at "rd"
  have ht3 := e3 _ _ npt ht
  have nrp : r ≠ p := hP.ne zr
  have nfp : fl ≠ p := hP.ne zfl
  refine ⟨_, .inr (SqT.of ht3), by omega, by omega, fun p1 hp1 => ?_⟩
  rw [eL]
  have g1 := (Same.refl H3).upd' (o := .rng 0 (T'.length : Int)) hp1
  have h1 := upd_same (H := H3) (a := p1) (o := .rng 0 (T'.length : Int))
  generalize upd H3 p1 (.rng 0 (T'.length : Int)) = H4 at g1 h1 ⊢
  refine ⟨g1 _ _ (TabH.exc hTb hP e3), fun f1 H5 zf s5 LO => ⟨_, s5 _ _ h1, by omega, by omega, LO, fun i => ((wayI T' i.toNat).length : Int), fun i H6 i0 i1 s6 => ?_, fun ps l H6 hpm hpw s6 zl hl => ?_⟩⟩
  · obtain ⟨j, rfl⟩ := Int.eq_ofNat_of_zero_le i0
    have g6 := (g1.trans s5).trans s6
    exact ⟨t, T', j, rfl, g6 _ _ ht3, by omega, by omega, endsIn_all hT (by omega), fun w H7 zw s7 hw => ⟨w, rfl, _, .inl (SqL.of hw), by rw [List.length_map]; rfl, s7⟩⟩
  have g6 := (g1.trans s5).trans s6
  have zl3 : H3 l = none := (g1.trans s5).free zl
  have nlp : l ≠ p := P3.ne zl3
  have nlr : l ≠ r := fun z => by rw [z, hr3] at zl3; cases zl3
  have nlf : l ≠ fl := fun z => by rw [z, hfl3] at zl3; cases zl3
  have pin : ∀ q ∈ ps, 0 ≤ q ∧ q < (T'.length : Int) := fun q hq => by
    have := hpm.mem_iff.mp hq
    unfold nats at this
    obtain ⟨k, hk, rfl⟩ := List.mem_map.mp this
    have := List.mem_range.mp hk
    omega
  have eps : (ps.map V.int).length = ps.length := List.length_map ..
  refine ⟨⟨_, SqL.of hl⟩, for_it (n := ps.length) (fun i σ Hx => ∃ (v4 v5 v6 : Option V) (ns : List Int), σ = [some (.ref p), some (.ref t), some (.ref fl), some (.ref r), v4, v5, v6] ∧ ns.length = T'.length ∧ PotAt Hx p ∧ Exc p H Hx ∧ Hx fl = some (.lst ((flatI T').map V.int)) ∧ Hx r = some (.lst (ns.map V.int)) ∧ Hx l = some (.lst (ps.map V.int))) ⟨none, none, none, ns, rfl, hnl, P3.same g6, e3.same g6, g6 _ _ hfl3, g6 _ _ hr3, hl⟩ (fun i σ Hx hi ⟨_, _, _, _, _, _, _, _, _, _, h⟩ => ⟨_, _, SqL.of h, nthV hi⟩) (fun σ Hx ⟨_, _, _, _, _, _, _, _, _, _, h⟩ => ⟨_, SqL.of h, Nat.le_of_eq eps⟩) ?_ ?_⟩
  · rintro i x σ Hx Hx' hi ⟨v4, v5, v6, ms, rfl, hml, Px, ex, hfx, hrx, hlx⟩ ⟨rfl, hx⟩
    have e1 := hx _ (SqL.of hlx)
    rw [nthV hi] at e1
    cases e1
    obtain ⟨q0, q1⟩ := pin _ (nth_mem hi)
    obtain ⟨j, hj⟩ := Int.eq_ofNat_of_zero_le q0
    rw [hj] at q1 ⊢
    walk_at "rd"
    have htx := ex _ _ npt ht
    refine ⟨_, SqT.of htx, _, nth_at (by omega), _, rfl, ite2 (fun c0 => ?_) fun c0 => ⟨ms, hml, Px, ex, hfx, hrx, hlx⟩⟩
    rcases elder_cases hT (p := j) (by omega) with e | ⟨k, e, hk, _, _⟩
    · omega
    rw [e]
    refine ⟨_, SqL.of hfx, _, nth_at (by omega), _, _, rfl, SqL.of hfx, _, nth_at (by omega), _, rfl, _, rfl, p, _, rfl, by decide, by decide, Px, fun d H7 d0 d1 P7 e7 => ⟨_, SqL.of (e7 _ _ nrp hrx), _, nth_at (by omega), _, rfl, _, rfl, mul_l (by omega) (by omega), ?_⟩⟩
    have em : (ms.map V.int).length = ms.length := List.length_map ..
    refine ⟨_, _, rfl, SqL.of (e7 _ _ nrp hrx), _, nth_at (by omega), _, rfl, _, e7 _ _ nrp hrx, j, by rw [em]; exact ixN_nat (by omega), ?_⟩
    generalize nth ms k + (nth (flatI T') j - nth (flatI T') k + d * if nth ms j < 0 then -nth ms j else nth ms j) = z
    refine ⟨ms.set j z, by rw [List.length_set]; exact hml, P7.updN nrp, (ex.trans e7).updN zr, by rw [upd_ne (Ne.symm nrf)]; exact e7 _ _ nfp hfx, by rw [upd_same, List.map_set], by rw [upd_ne nlr]; exact e7 _ _ nlp hlx⟩
  · rintro σ Hx ⟨v4, v5, v6, ms, rfl, hml, Px, ex, hfx, hrx, hlx⟩
    walk_at "rd"
    exact k1 r ms Hx zr hml hrx Px ex

theorem due_fits {T ls ds : List Int} (hG : GoodT T) (hl : ds.length = T.length) : DueIs T ls ds ↔ ∀ p, p < T.length → nth (hgt (flatI T) ds) p = (if nth T p = -1 then nth (hgt (flatI T) ls) p else max (nth (hgt (flatI T) ls) p) (nth (hgt (flatI T) ds) (nth T p).toNat)) := by
  obtain ⟨h40, nsT, hT⟩ := hG
  have eT := hT.1
  have eF : (flatI T).length = T.length := flatI_len T
  constructor
  · intro h p hp
    obtain ⟨⟨o, ho, e1⟩, b1⟩ := h.2 p hp
    have bp := b1 p List.mem_cons_self
    rw [hgt_nth (by omega), hgt_nth (by omega)]
    rcases elder_cases hT (p := p) (by omega) with e | ⟨q, e, hq, _, _⟩
    · rw [if_pos e]
      rw [way_top e] at ho
      have : o = p := by simpa using ho
      subst this
      omega
    · rw [if_neg (by omega), e, show ((q : Nat) : Int).toNat = q by omega, hgt_nth (by omega)]
      have hw := way_cons hT (p := p) (by omega) e
      obtain ⟨⟨o', ho', e2⟩, b2⟩ := h.2 q (by omega)
      have c1 := b1 o' (by rw [hw]; exact List.mem_cons_of_mem _ ho')
      rcases List.mem_cons.mp ho with rfl | ho
      · omega
      · rw [hw] at ho
        have c2 := b2 o ho
        omega
  · intro h
    refine ⟨hl, ?_⟩
    have key : ∀ d p, p < T.length → dep (nth nsT) nsT.length p = d → (∃ o ∈ p :: way T p, nth ds p = nth ls o + nth (flatI T) p - nth (flatI T) o) ∧ ∀ o ∈ p :: way T p, nth ls o + nth (flatI T) p - nth (flatI T) o ≤ nth ds p := by
      intro d
      induction d with
      | zero =>
        intro p hp hd
        have h1 := h p hp
        rw [hgt_nth (by omega), hgt_nth (by omega)] at h1
        rcases elder_cases hT (p := p) (by omega) with e | ⟨q, e, hq, _, e5⟩
        · rw [if_pos e] at h1
          rw [way_top e]
          refine ⟨⟨p, List.mem_cons_self, by omega⟩, fun o ho => ?_⟩
          have : o = p := by simpa using ho
          subst this; omega
        · omega
      | succ d ih =>
        intro p hp hd
        have h1 := h p hp
        rw [hgt_nth (by omega), hgt_nth (by omega)] at h1
        rcases elder_cases hT (p := p) (by omega) with e | ⟨q, e, hq, _, e5⟩
        · rw [if_pos e] at h1
          rw [way_top e]
          refine ⟨⟨p, List.mem_cons_self, by omega⟩, fun o ho => ?_⟩
          have : o = p := by simpa using ho
          subst this; omega
        · rw [if_neg (by omega), e, show ((q : Nat) : Int).toNat = q by omega, hgt_nth (by omega)] at h1
          obtain ⟨⟨o, ho, e2⟩, b2⟩ := ih q (by omega) (by omega)
          rw [way_cons hT (p := p) (by omega) e]
          constructor
          · by_cases c : nth ls p - nth (flatI T) p < nth ds q - nth (flatI T) q
            · exact ⟨o, List.mem_cons_of_mem _ ho, by omega⟩
            · exact ⟨p, List.mem_cons_self, by omega⟩
          · intro o' ho'
            rcases List.mem_cons.mp ho' with rfl | ho'
            · omega
            · have := b2 o' ho'
              omega
    exact fun p hp => key _ p hp rfl
theorem due_tree {T ls ds : List Int} (hG : GoodT T) (h : DueIs T ls ds) : TreeIs ds T := by
  have hf := (due_fits hG h.1).mp h
  obtain ⟨_, nsT, hT⟩ := hG
  have eT := hT.1
  have eF : (flatI T).length = T.length := flatI_len T
  have hup : ∀ o p, o < nsT.length → p < nsT.length → Over (nth nsT) o p → nth ds o - nth (flatI T) o ≤ nth ds p - nth (flatI T) p := fun o p ho hp hO =>
    over_ind hT (R := fun o p => nth ds o - nth (flatI T) o ≤ nth ds p - nth (flatI T) p) (fun p q hp hq e _ => by
      have := hf p (by omega)
      rw [hgt_nth (by omega), if_neg (by omega), e, show ((q : Nat) : Int).toNat = q by omega, hgt_nth (F := flatI T) (ns := ds) (i := q) (by omega)] at this
      omega) (fun o q p _ _ r1 r2 => by omega) _ p o hp ho rfl hO
  refine ⟨h.1.symm, fun p hp => ?_⟩
  have hl := h.1
  rw [show ds.length = nsT.length by omega] at hp ⊢
  refine tree_row hT (fun q p hq hp hO => ?_) p hp
  have h1 := hup q p hq hp hO
  have h2 := flat_over hT hp hq hO
  rw [flatI_nth (by omega), flatI_nth (by omega)] at h1
  exact ⟨fun _ => by omega, fun z => by have := h2.2 z; omega⟩

theorem way_lt {T : List Int} (hG : GoodT T) {a b : Nat} (hb : b < T.length) (h : a ∈ way T b) : a < T.length := by
  obtain ⟨_, nsT, hT⟩ := hG
  have eT := hT.1
  have := ((way_over hT (by omega)).mp h).1
  omega
theorem over_nat {T : List Int} (hG : GoodT T) {a b : Int} (h : overN T a b) : ∃ x y : Nat, a = x ∧ b = y ∧ y < T.length ∧ x < T.length ∧ x ∈ way T y := by
  obtain ⟨h0, h1, h2⟩ := h
  obtain ⟨y, rfl⟩ := Int.eq_ofNat_of_zero_le h0
  rw [wayI_way] at h2
  obtain ⟨x, hx, e⟩ := List.mem_map.mp h2
  rw [show ((y : Int)).toNat = y by omega] at hx
  exact ⟨x, y, e.symm, rfl, by omega, way_lt hG (by omega) hx, hx⟩
theorem over_of {T : List Int} {x y : Nat} (hy : y < T.length) (h : x ∈ way T y) : overN T (x : Int) (y : Int) := ⟨by omega, by omega, by rw [wayI_way]; exact List.mem_map.mpr ⟨x, h, rfl⟩⟩
theorem in_two (x a b : Int) : inV (.int x) [.int a, .int b] = decide (x = a ∨ x = b) := by
  have := in_ints x [a, b]
  simpa using this
theorem PairAt.same {H H' : Hp} {v : V} {pr : Option (Int × Int)} (h : PairAt H v pr) (s : Same H H') : PairAt H' v pr := by
  cases pr with
  | none => exact h
  | some z => obtain ⟨a, e, h⟩ := h; exact ⟨a, e, s _ _ h⟩
theorem PairAt.exc {H H' : Hp} {v : V} {p : Addr} {pr : Option (Int × Int)} (h : PairAt H v pr) (P : PotAt H p) (s : Exc p H H') : PairAt H' v pr := by
  cases pr with
  | none => exact h
  | some z => obtain ⟨a, e, h⟩ := h; exact ⟨a, e, s _ _ (pot_tup P h) h⟩
theorem not_right {z : Bool} {P : Prop} (h : z = false) (n : ¬ P) : z = true ↔ P := ⟨fun y => (by rw [h] at y; cases y), fun y => absurd y n⟩
instance (T : List Int) (a b : Int) : Decidable (overN T a b) := by unfold overN; exact inferInstance
theorem neg_not {T ns ms : List Int} {far : Int} {pr : Option (Int × Int)} (hG : GoodT T) (c : far < 0) (h : rightN T ns far ms pr) : False := by
  obtain ⟨_, h2, h3⟩ := h
  cases hT : T.length with
  | zero =>
    cases pr with
    | none => exact absurd (show far = 0 from h3) (by omega)
    | some z => have := h3.2.1; have := this.1; have := h3.2.1.2.1; omega
  | succ n =>
    have := h2 0 (by omega)
    split at this <;> omega
theorem PrsIn.nil (H : Hp) : PrsIn H [] [] := ⟨rfl, fun i a z h => by simp at h⟩
theorem PrsIn.same {H H' : Hp} {as : List Addr} {zs : List (Nat × Nat)} (h : PrsIn H as zs) (s : Same H H') : PrsIn H' as zs := ⟨h.1, fun i a z h1 h2 => s _ _ (h.2 i a z h1 h2)⟩
theorem PrsIn.exc {H H' : Hp} {p : Addr} {as : List Addr} {zs : List (Nat × Nat)} (h : PrsIn H as zs) (P : PotAt H p) (s : Exc p H H') : PrsIn H' as zs := ⟨h.1, fun i a z h1 h2 => have e := h.2 i a z h1 h2; s _ _ (pot_tup P e) e⟩
theorem PrsIn.updL {H : Hp} {as : List Addr} {zs : List (Nat × Nat)} {l : Addr} {xs : List V} {o : HO} (h : PrsIn H as zs) (hl : H l = some (.lst xs)) : PrsIn (upd H l o) as zs := ⟨h.1, fun i a z h1 h2 => by
  have e := h.2 i a z h1 h2
  rw [upd_ne (fun y => by rw [y, hl] at e; cases e)]; exact e⟩
theorem PrsIn.app {H : Hp} {as bs : List Addr} {zs ys : List (Nat × Nat)} (h : PrsIn H as zs) (g : PrsIn H bs ys) : PrsIn H (as ++ bs) (zs ++ ys) := by
  refine ⟨by simp [h.1, g.1], fun i a z h1 h2 => ?_⟩
  by_cases c : i < as.length
  · rw [List.getElem?_append_left c] at h1
    rw [List.getElem?_append_left (by rw [← h.1]; exact c)] at h2
    exact h.2 i a z h1 h2
  · rw [List.getElem?_append_right (by omega)] at h1
    rw [List.getElem?_append_right (by rw [← h.1]; omega), ← h.1] at h2
    exact g.2 _ a z h1 h2
theorem PrsIn.one {H : Hp} {a : Addr} {x y : Nat} (h : H a = some (.tup [.int (x : Int), .int (y : Int)])) : PrsIn H [a] [(x, y)] := ⟨rfl, fun i b z h1 h2 => by
  match i, h1, h2 with
  | 0, h1, h2 => cases h1; cases h2; exact h⟩
theorem nth_low {ns : List Int} {far : Int} {i : Nat} (h : i < ns.length) : nth (ns.map fun x => x - far) i = nth ns i - far := by
  simp [nth, List.getD_eq_getElem?_getD, h]
/-- the least row above the row less half of the most lies as near as that -/
theorem parts_near {T ns ms : List Int} {far : Int} (hG : GoodT T) (hl : ns.length = T.length) (hF : FarIs T ns far) (hD : DueIs T (ns.map fun x => x - far) ms) : ∀ p, p < T.length → (if nth ms p - nth ns p < 0 then -(nth ms p - nth ns p) else nth ms p - nth ns p) ≤ far := fun p hp => by
  obtain ⟨⟨o, ho, e⟩, h2⟩ := hD.2 p hp
  have h1 := h2 p List.mem_cons_self
  rw [nth_low (by omega)] at h1
  have f0 := hF.1
  have h3 : nth ms p ≤ nth ns p + far := by
    rcases List.mem_cons.mp ho with rfl | ho
    · rw [nth_low (by omega)] at e; omega
    · have oT := way_lt hG hp ho
      rw [nth_low (by omega)] at e
      have := hF.2.1 p hp o ho
      unfold obN at this
      omega
  split <;> omega
theorem refAt61 {as : List Addr} {i : Nat} (h : i < as.length) : (as.map V.ref)[i]? = some (V.ref as[i]) := by rw [List.getElem?_map, List.getElem?_eq_getElem h]; rfl
theorem PairAt.updL {H : Hp} {v : V} {pr : Option (Int × Int)} {l : Addr} {xs : List V} {o : HO} (h : PairAt H v pr) (hl : H l = some (.lst xs)) : PairAt (upd H l o) v pr := by
  cases pr with
  | none => exact h
  | some z =>
    obtain ⟨a, e, h⟩ := h
    exact ⟨a, e, by rw [upd_ne (fun y => by rw [y, hl] at h; cases h)]; exact h⟩
theorem cut_ints (ms : List Int) (lo hi : Option Int) : ∃ ys : List Int, cutV (ms.map V.int) lo hi = ys.map V.int ∧ ys.length ≤ ms.length := by
  have hl := cutV_length (ms.map V.int) lo hi
  refine ⟨_, by unfold cutV; rw [← List.map_drop, ← List.map_take], ?_⟩
  rw [List.length_take, List.length_drop]
  omega

theorem ok_pair_shows {f : Addr} {fd : FuncData} (F : Fun K "pair_shows" "pair_shows" s_pair_shows f fd) (G_is_over : Callee P w K mg base "is_over" 2 ["tree", "a", "b"] (sp_is_over K mg)) (T : Txt K mg) : FnOk P w K mg base (CXE P w) 3 f fd ["tree", "heights", "far", "pair"] (sp_pair_shows K mg) := by
  refine F.okX sc_pair_shows (fun vs H Q E h => ?_) (fun cdv A outer s H vs Q E hr h => ?_)
  · obtain ⟨t, h, far, v, T, hs, pr, rfl, _⟩ := h; rfl
  obtain ⟨t, h, far, v, T', hs, pr, rfl, ht, hh, hv, hG, hl, k1⟩ := h
  refine ⟨_, (pss_cons (ps_if (pt_cmpR op_eq (pv 2) pe_int (nomark _)) (pss_one (ps_ret (pe_cmpR op_isN (pv 3) pe_non (nomark _)))) pss_nil)
      (pss_cons (ps_if (PW.pt (pw_or (pt_not (pt_val (pe_callB (call_isiK (K := K) rfl) rfl T.b_isinstance bt_isinstance (pa_cons (pv 3) (pa_cons (pe_bltn (v := .ty "tuple") rfl T.b_tuple bt_tuple rfl) pa_nil))))) (pw_or1 (pt_cmpR op_ne (pe_callB (call_lenK (K := K) rfl) rfl T.b_len PySem.boot_len (pa_cons (pv 3) pa_nil)) pe_int (nomark _))))) (pss_one (ps_ret pe_bl)) pss_nil)
      (pss_cons (ps_asg (pv 3) (pg_tup (n := 2) rfl (pgs_cons (pg_name (i := 4) sc_pair_shows.nd rfl (Or.inl rfl)) (pgs_cons (pg_name (i := 5) sc_pair_shows.nd rfl (Or.inl rfl)) pgs_nil))))
      (pss_one (ps_ret (pe_and (pe_callF G_is_over (hr.mono (by decide)) rfl passE (pa_cons (pv 0) (pa_cons (pv 4) (pa_cons (pv 5) pa_nil)))) (pe_one (pe_cmpR (op_inK (K := K) rfl) (pe_op op_sub (pe_ix ix_list (pv 1) (pv 4) (fun _ _ => rfl)) (pe_ix ix_list (pv 1) (pv 5) (fun _ _ => rfl))) (pe_tup (pa_cons (pe_op op_mulX pe_int (pv 2)) (pa_cons (pe_op op_sub (pe_op op_mulX pe_int (pv 2)) pe_int) pa_nil))) (by with_unfolding_all rfl))))))))), ?_⟩
  have h40 := hG.1
  walk_at "rd"
  cases pr with
  | none =>
    have ev : v = .non := hv
    subst ev
    exact ite2 (fun c => k1 _ H ⟨fun _ => c, fun _ => decide_eq_true rfl⟩ (Same.refl H)) fun c => ⟨false, .inl ⟨_, .non, by with_unfolding_all rfl⟩, ite2 (fun _ => k1 false H (not_right rfl c) (Same.refl H)) fun z => absurd rfl z⟩
  | some z =>
    obtain ⟨q, rfl, hq⟩ := hv
    obtain ⟨a, b⟩ := z
    refine ite2 (fun c => k1 _ H (not_right (decide_eq_false fun z => nomatch z) fun z => z.1 c) (Same.refl H)) fun c => ⟨true, .inl ⟨_, .tup hq, by with_unfolding_all rfl⟩, ite2 (fun z => nomatch z) fun _ => ⟨q, rfl, _, .inr (SqT.of hq), ite2 (fun z => absurd rfl z) fun _ => ⟨q, rfl, _, SqT.of hq, rfl, _, _, rfl, _, _, rfl, rfl, t, T', a, b, rfl, ht, by omega, fun H1 s1 => ⟨_, rfl, ite2 (fun o => ?_) fun o => k1 false H1 (not_right rfl fun z => o (decide_eq_true (show 0 ≤ b ∧ b < (T'.length : Int) ∧ a ∈ wayI T' b.toNat from z.2.1))) s1⟩⟩⟩⟩
    obtain ⟨x, y, rfl, rfl, hy, hx, hw⟩ := over_nat hG (of_decide_eq_true o)
    refine ⟨_, _, rfl, SqL.of (s1 _ _ hh), _, nth_at (by omega), _, _, rfl, SqL.of (s1 _ _ hh), _, nth_at (by omega), ?_⟩
    refine ⟨_, rfl, _, rfl, mul_l (by decide) (by decide), mul_l (by decide) (by decide), by decide, fun q2 zq2 => ⟨_, .inr (SqT.of upd_same), rfl, rfl, ?_⟩⟩
    rw [in_two]
    refine k1 _ _ (decide_eq_true_iff.trans ⟨fun z => ⟨c, over_of hy hw, ?_⟩, fun z => ?_⟩) (s1.upd' zq2)
    · simpa only [Int.toNat_natCast] using z
    · simpa only [Int.toNat_natCast] using z.2.2
theorem ok_nearest_right {f : Addr} {fd : FuncData} (F : Fun K "nearest_right" "nearest_right" s_nearest_right f fd) (G_tree_of : Callee P w K mg base "tree_of" 2 ["row"] (sp_tree_of K mg)) (G_flattest : Callee P w K mg base "flattest" 5 ["tree"] (sp_flattest K mg)) (G_heights_of : Callee P w K mg base "heights_of" 1 ["flat", "row"] (sp_heights_of K mg)) (G_pair_shows : Callee P w K mg base "pair_shows" 3 ["tree", "heights", "far", "pair"] (sp_pair_shows K mg)) (T : Txt K mg) : FnOk P w K mg base (CXE P w) 6 f fd ["tree", "row", "far", "made", "pair"] (sp_nearest_right K mg) := by
  refine F.okX sc_nearest_right (fun vs H Q E h => ?_) (fun cdv A outer s H vs Q E hr h => ?_)
  · obtain ⟨t, r, m, far, v, T, ns, ms, pr, rfl, _⟩ := h; rfl
  obtain ⟨t, r, m, far, v, T', ns, ms, pr, rfl, ht, hr1, hm, hv, hG, hl, hml, k1⟩ := h
  refine ⟨_, (pss_cons (ps_set (i := 5) sc_nearest_right.nd rfl (Or.inl rfl) (pe_callF G_heights_of (hr.mono (by decide)) rfl pass_on (pa_cons (pe_callF G_flattest (hr.mono (by decide)) rfl pass_on (pa_cons (pv 0) pa_nil)) (pa_cons (pv 1) pa_nil))))
      (pss_cons (ps_if (pt_cmpR (op_neD (K := K) rfl hr) (pe_callF G_tree_of (hr.mono (by decide)) rfl passE (pa_cons (pv 3) pa_nil)) (pv 0) (nomark _)) (pss_one (ps_ret pe_bl)) pss_nil)
      (pss_cons (ps_set (i := 6) sc_nearest_right.nd rfl (Or.inl rfl) (pe_callB (call_all (K := K) rfl rfl) rfl T.b_all bt_all (pa_cons (pe_compN ["number", "other", "far"] [none, none, some 2] rfl rfl rfl (pi_zipQ (K := K) rfl rfl T.b_zip (pa_cons (pv 3) (pa_cons (pv 1) pa_nil))) (fun _ _ _ _ _ => (pg_tupK (K := K) (n := 2) rfl rfl (pgs_cons (pg_name (i := 0) (show (["number", "other", "far"] : List Str).Nodup from by decide +kernel) rfl (Or.inl rfl)) (pgs_cons (pg_name (i := 1) (show (["number", "other", "far"] : List Str).Nodup from by decide +kernel) rfl (Or.inl rfl)) pgs_nil)))) (fun _ _ _ _ _ => pifs_nil) (fun _ _ _ _ _ => (pe_cmpR op_le (pe_callB call_abs rfl T.b_abs bt_abs (pa_cons (pe_op op_sub (pv 0) (pv 1)) pa_nil)) (pv 2) (nomark _))) (only_tup (only_cons only_name (only_cons only_name only_nil)))) pa_nil)))
      (pss_one (ps_ret (pe_and (pv 6) (pe_one (pe_callF G_pair_shows (hr.mono (by decide)) rfl passE (pa_cons (pv 0) (pa_cons (pv 5) (pa_cons (pv 2) (pa_cons (pv 4) pa_nil)))))))))))), ?_⟩
  have h40 := hG.1
  have eF : (flatI T').length = T'.length := flatI_len T'
  walk_at "rd"
  refine ⟨t, T', rfl, ht, by omega, fun _ fl H1 s1 hfl => ?_, fun z => absurd hG z⟩
  refine ⟨fl, r, flatI T', ns, rfl, hfl, s1.q hr1, by omega, by omega, fun _ hh H2 zh s2 hhh => ?_, fun z => absurd (by omega) z⟩
  refine ⟨m, ms, rfl, (s1.trans s2).q hm, hml, fun t2 es H3 hE s3 ht2 => ⟨t2, rfl, ?_⟩⟩
  have s13 := s1.trans (s2.trans s3)
  have e3 := eqp_tup (n := 2) (K := K) (H := H3) eqp_int (V.ref t2) (V.ref t) es T' (isT_ints (SqT.of ht2)) (isT_ints (SqT.of (s13 _ _ ht)))
  refine ⟨_, e3, ite2 (fun z => k1 false H3 (not_right rfl fun y => of_decide_eq_false z (hE.unique y.1)) s13) fun z => ?_⟩
  have ee : es = T' := of_decide_eq_true (by simpa using z)
  subst ee
  obtain ⟨tm, bm⟩ := SqB.of (s13.q hm)
  obtain ⟨tr, br⟩ := SqB.of (s13.q hr1)
  have eN := hE.1
  refine ⟨tm, tr, _, bm, _, br, ?_⟩
  refine comp_map (n := es.length) (fun k => V.bl (decide ((if nth ms k - nth ns k < 0 then -(nth ms k - nth ns k) else nth ms k - nth ns k) ≤ far))) (Nat.lt_of_le_of_lt (show _ ≤ 1000 by omega) (by decide)) (fun j Hz s hj => ⟨_, _, _, _, s.seqB bm, s.seqB br, nthV (by omega), nthV (by omega)⟩) (fun Hz s => ⟨_, _, s.seqB bm, s.seqB br, .inl (by rw [List.length_map]; omega)⟩) ?_ ?_
  · rintro k x Hz Hw hk sz ⟨q, x1, y1, zq, rfl, rfl, hx, hy⟩
    have ex := hx _ (sz.seqB bm)
    have ey := hy _ (sz.seqB br)
    rw [nthV (by omega)] at ex ey
    cases ex
    cases ey
    walk_at "rd"
    exact ⟨_, SqT.of upd_same, rfl, _, _, rfl, _, _, rfl, rfl, _, rfl, _, rfl, CW.next hk rfl (sz.upd' zq)⟩
  · intro q Hz sz hq
    refine ⟨q, rfl, (List.range es.length).map fun k => decide ((if nth ms k - nth ns k < 0 then -(nth ms k - nth ns k) else nth ms k - nth ns k) ≤ far), SqL.of (by rw [upd_same, List.map_map]; rfl), ?_⟩
    have g := sz.upd' (o := .lst ((List.range es.length).map fun k => V.bl (decide ((if nth ms k - nth ns k < 0 then -(nth ms k - nth ns k) else nth ms k - nth ns k) ≤ far)))) hq
    refine ite2 (fun c => ?_) fun c => k1 false _ (not_right rfl fun y => c (List.all_eq_true.mpr fun x hx => ?_)) (s13.trans g)
    · refine ⟨t, hh, far, v, es, hgt (flatI es) ns, pr, rfl, (s13.trans g) _ _ ht, g _ _ (s3 _ _ hhh), hv.same (s13.trans g), hG, by rw [hgt_len]; omega, fun z H4 hz s4 => k1 z H4 (hz.trans ⟨fun y => ⟨hE, fun p hp => ?_, y⟩, fun y => y.2.2⟩) ((s13.trans g).trans s4)⟩
      exact of_decide_eq_true (List.all_eq_true.mp c _ (List.mem_map.mpr ⟨p, List.mem_range.mpr hp, rfl⟩))
    · obtain ⟨p, hp, rfl⟩ := List.mem_map.mp hx
      exact decide_eq_true (y.2.1 p (List.mem_range.mp hp))
theorem ok__law_over_by {f : Addr} {fd : FuncData} (F : Fun K "_law_over_by" "_law_over_by" s__law_over_by f fd)  (T : Txt K mg) : FnOk P w K mg base (CXE P w) 1 f fd ["flat", "row", "a", "b"] (sp__law_over_by K mg) := by
  refine F.okX sc__law_over_by (fun vs H Q E h => ?_) (fun cdv A outer s H vs Q E hr h => ?_)
  · obtain ⟨f, r, F, ns, a, b, rfl, _⟩ := h; rfl
  obtain ⟨f, r, F', ns, a, b, rfl, hf, hr1, hl, ha, hb, k1⟩ := h
  refine ⟨_, (pss_one (ps_ret (pe_op op_sub (pe_op op_sub (pe_op op_add (pe_ix ix_list (pv 1) (pv 2) (fun _ _ => rfl)) (pe_ix ix_list (pv 0) (pv 3) (fun _ _ => rfl))) (pe_ix ix_list (pv 0) (pv 2) (fun _ _ => rfl))) (pe_ix ix_list (pv 1) (pv 3) (fun _ _ => rfl))))), ?_⟩
  walk_at "rd"
  exact ⟨_, SqL.of hr1, _, nth_at (by omega), _, SqL.of hf, _, nth_at (by omega), _, rfl, _, rfl, _, SqL.of hf, _, nth_at (by omega), _, rfl, _, SqL.of hr1, _, nth_at (by omega), _, rfl, k1⟩
theorem ok__law_far {f : Addr} {fd : FuncData} (F : Fun K "_law_far" "_law_far" s__law_far f fd) (G__law_over : Callee P w K mg base "_law_over" 1 ["tree", "place"] (sp__law_over K mg)) (G__law_flat : Callee P w K mg base "_law_flat" 2 ["tree"] (sp__law_flat K mg)) (T : Txt K mg) : FnOk P w K mg base (CXE P w) 3 f fd ["tree", "row"] (sp__law_far K mg) := by
  refine F.okX sc__law_far (fun vs H Q E h => ?_) (fun cdv A outer s H vs Q E hr h => ?_)
  · obtain ⟨t, r, T, ns, rfl, _⟩ := h; rfl
  obtain ⟨t, r, T', ns, rfl, ht, hr1, hG, hl, k1⟩ := h
  refine ⟨_, (pss_cons (ps_set (i := 2) sc__law_far.nd rfl (Or.inl rfl) (pe_callF G__law_flat (hr.mono (by decide)) rfl passE (pa_cons (pv 0) pa_nil)))
      (pss_cons (ps_set (i := 3) sc__law_far.nd rfl (Or.inl rfl) pe_int)
      (pss_cons (ps_nox (ps_for PassesOwn.never rfl (pi_range1 rfl T.b_range (pa_cons (pe_callB (call_lenK (K := K) rfl) rfl T.b_len PySem.boot_len (pa_cons (pv 0) pa_nil)) pa_nil)) (pg_name (i := 4) sc__law_far.nd rfl (Or.inl rfl)) (pss_one (ps_nox (ps_for PassesOwn.never rfl (pi_list (pe_callF G__law_over (hr.mono (by decide)) rfl passE (pa_cons (pv 0) (pa_cons (pv 4) pa_nil)))) (pg_name (i := 5) sc__law_far.nd rfl (Or.inl rfl)) (pss_one (ps_set (i := 3) sc__law_far.nd rfl (Or.inl rfl) (pe_callB (call_max2 rfl) rfl T.b_max bt_max (pa_cons (pv 3) (pa_cons (pe_op op_sub (pe_op op_sub (pe_op op_add (pe_ix ix_list (pv 1) (pv 5) (fun _ _ => rfl)) (pe_ix ix_list (pv 2) (pv 4) (fun _ _ => rfl))) (pe_ix ix_list (pv 2) (pv 5) (fun _ _ => rfl))) (pe_ix ix_list (pv 1) (pv 4) (fun _ _ => rfl))) pa_nil))))))))))
      (pss_one (ps_ret (pe_op op_fdivL (pe_op op_add (pv 3) pe_int) pe_int)))))), ?_⟩
  have eL : (T'.map V.int).length = T'.length := List.length_map ..
  have eF : (flatI T').length = T'.length := flatI_len T'
  obtain ⟨h40, nsT, hT⟩ := id hG
  have eT := hT.1
  walk_at "rd"
  refine ⟨t, T', rfl, ht, by omega, fun q hq => endsIn_all hT hq, fun fl H1 zfl s1 hfl => ⟨_, .inr (SqT.of (s1 _ _ ht)), by omega, by omega, ?_⟩⟩
  rw [eL, show ((T'.length : Nat) : Int).toNat = T'.length by omega]
  refine for_range (fun i σ Hx => ∃ (mo : Int) (v4 v5 : Option V), σ = [some (.ref t), some (.ref r), some (.ref fl), some (.int mo), v4, v5] ∧ Same H1 Hx ∧ 0 ≤ mo ∧ (∀ b, b < i → ∀ a ∈ way T' b, obN (flatI T') ns a b ≤ mo) ∧ (mo = 0 ∨ ∃ b, b < T'.length ∧ ∃ a ∈ way T' b, obN (flatI T') ns a b = mo)) ⟨0, none, none, rfl, Same.refl H1, Int.le_refl _, (fun b hb => absurd hb (by omega)), .inl rfl⟩ ?_ ?_
  · rintro i σ Hx hi ⟨mo, v4, v5, rfl, sx, m0, mle, mex⟩
    rw [show (0 : Int) + (i : Int) = ((i : Nat) : Int) by omega]
    walk_at "rd"
    refine ⟨t, T', i, rfl, (s1.trans sx) _ _ ht, by omega, hi, endsIn_all hT hi, fun w H3 zw s3 hw => ?_⟩
    refine ⟨w, rfl, ⟨_, SqL.of hw⟩, for_list (xs := (wayI T' i).map V.int) (fun j σ Hx => ∃ (mo : Int) (v5 : Option V), σ = [some (.ref t), some (.ref r), some (.ref fl), some (.int mo), some (.int (i : Int)), v5] ∧ Same H3 Hx ∧ 0 ≤ mo ∧ (∀ b, b < i → ∀ a ∈ way T' b, obN (flatI T') ns a b ≤ mo) ∧ (∀ j', j' < j → ∀ a, (way T' i)[j']? = some a → obN (flatI T') ns a i ≤ mo) ∧ (mo = 0 ∨ ∃ b, b < T'.length ∧ ∃ a ∈ way T' b, obN (flatI T') ns a b = mo)) ⟨mo, v5, rfl, Same.refl _, m0, mle, (fun j' h => absurd h (by omega)), mex⟩ (fun j σ Hy _ ⟨_, _, _, sy, _⟩ => SqL.of (sy _ _ hw)) ?_ ?_⟩
    · clear m0 mle mex
      rintro j x σ Hy hx ⟨mo, v5, rfl, sy, m0, mle, mj, mex⟩
      obtain ⟨a, ha, rfl⟩ : ∃ a, (way T' i)[j]? = some a ∧ x = V.int (a : Int) := by
        rw [wayI_way, List.map_map, List.getElem?_map] at hx
        cases ha : (way T' i)[j]? with
        | none => rw [ha] at hx; cases hx
        | some a => rw [ha] at hx; cases hx; exact ⟨a, rfl, rfl⟩
      have am : a ∈ way T' i := List.mem_of_getElem? ha
      have aT := way_lt hG hi am
      have sA := (sx.trans s3).trans sy
      have hr2 := (s1.trans sA) _ _ hr1
      have hf2 := sA _ _ hfl
      walk_at "rd"
      refine ⟨_, SqL.of hr2, _, nth_at (by omega), _, SqL.of hf2, _, nth_at (by omega), _, rfl, _, rfl, _, SqL.of hf2, _, nth_at (by omega), _, rfl, _, SqL.of hr2, _, nth_at (by omega), _, rfl, ?_⟩
      have eO : nth ns a + nth (flatI T') i - nth (flatI T') a - nth ns i = obN (flatI T') ns a i := rfl
      rw [eO]
      by_cases c : obN (flatI T') ns a i > mo
      · rw [if_pos c]
        refine ⟨sy, by omega, fun b hb a2 h2 => Int.le_trans (mle b hb a2 h2) (by omega), fun j' hj' a2 h2 => ?_, .inr ⟨i, hi, a, am, rfl⟩⟩
        by_cases e : j' = j
        · subst e; rw [ha] at h2; cases h2; exact Int.le_refl _
        · exact Int.le_trans (mj j' (by omega) a2 h2) (by omega)
      · rw [if_neg c]
        refine ⟨sy, m0, mle, fun j' hj' a2 h2 => ?_, mex⟩
        by_cases e : j' = j
        · subst e; rw [ha] at h2; cases h2; omega
        · exact mj j' (by omega) a2 h2
    · rintro σ Hy ⟨mo, v5, rfl, sy, m0, mle, mj, mex⟩
      refine ⟨mo, _, _, rfl, (sx.trans s3).trans sy, m0, fun b hb a ha => ?_, mex⟩
      by_cases c : b = i
      · subst c
        obtain ⟨j, hj, e⟩ := List.getElem_of_mem ha
        exact mj j (by rw [wayI_way]; simpa using hj) a (by rw [List.getElem?_eq_getElem hj, e])
      · exact mle b (by omega) a ha
  · rintro σ Hx ⟨mo, v4, v5, rfl, sx, m0, mle, mex⟩
    walk_at "rd"
    refine ⟨⟨by decide, by decide⟩, k1 _ Hx ⟨by omega, fun b hb a ha => ?_, ?_⟩ (s1.trans sx)⟩
    · have := mle b hb a ha; omega
    · rcases mex with z | ⟨b, hb, a, ha, e⟩
      · exact .inl (by omega)
      · exact .inr ⟨b, hb, a, ha, by omega⟩
theorem ok__law_any_row {f : Addr} {fd : FuncData} (F : Fun K "_law_any_row" "_law_any_row" s__law_any_row f fd) (G__law_take : Callee P w K mg base "_law_take" 1 ["pot", "many"] (sp__law_take K mg)) (G__law_kin_row : Callee P w K mg base "_law_kin_row" 5 ["pot", "tree"] (sp__law_kin_row K mg)) (T : Txt K mg) : FnOk P w K mg base (CXE P w) 6 f fd ["pot", "tree"] (sp__law_any_row K mg) := by
  refine F.okX sc__law_any_row (fun vs H Q E h => ?_) (fun cdv A outer s H vs Q E hr h => ?_)
  · obtain ⟨p, t, T, rfl, _⟩ := h; rfl
  obtain ⟨p, t, T', rfl, hP, ht, hG, hTb, k1⟩ := h
  refine ⟨_, (pss_cons (ps_set (i := 2) sc__law_any_row.nd rfl (Or.inl rfl) (pe_callF G__law_kin_row (hr.mono (by decide)) rfl passE (pa_cons (pv 0) (pa_cons (pv 1) pa_nil))))
      (pss_cons (ps_set (i := 3) sc__law_any_row.nd rfl (Or.inl rfl) (pe_callF G__law_take (hr.mono (by decide)) rfl passE (pa_cons (pv 0) (pa_cons pe_int pa_nil))))
      (pss_cons (ps_if (pt_cmpR op_eq (pv 3) pe_int (nomark _)) (pss_one (ps_setCN (i := 2) ["number", "pot"] [none, some 0] sc__law_any_row.nd rfl (Or.inl rfl) rfl rfl rfl (pi_list (pv 2)) (fun _ _ _ _ _ => (pg_name (i := 0) (show (["number", "pot"] : List Str).Nodup from by decide +kernel) rfl (Or.inl rfl))) (fun _ _ _ _ _ => pifs_nil) (fun _ _ _ _ _ => (pe_op op_sub (pe_op op_add (pv 0) (pe_callF G__law_take (hr.mono (by decide)) rfl passE (pa_cons (pv 1) (pa_cons pe_int pa_nil)))) pe_int)) only_name)) pss_nil)
      (pss_cons (ps_if (pt_cmpR op_eq (pv 3) pe_int (nomark _)) (pss_one (ps_setCN (i := 2) ["number", "pot"] [none, some 0] sc__law_any_row.nd rfl (Or.inl rfl) rfl rfl rfl (pi_list (pv 2)) (fun _ _ _ _ _ => (pg_name (i := 0) (show (["number", "pot"] : List Str).Nodup from by decide +kernel) rfl (Or.inl rfl))) (fun _ _ _ _ _ => pifs_nil) (fun _ _ _ _ _ => (pe_op op_sub (pe_callF G__law_take (hr.mono (by decide)) rfl passE (pa_cons (pv 1) (pa_cons pe_int pa_nil))) pe_int)) only_name)) pss_nil)
      (pss_cons (ps_if (pt_cmpR op_eq (pv 3) pe_int (nomark _)) (pss_one (ps_setCN (i := 2) ["number", "pot"] [none, some 0] sc__law_any_row.nd rfl (Or.inl rfl) rfl rfl rfl (pi_list (pv 2)) (fun _ _ _ _ _ => (pg_name (i := 0) (show (["number", "pot"] : List Str).Nodup from by decide +kernel) rfl (Or.inl rfl))) (fun _ _ _ _ _ => pifs_nil) (fun _ _ _ _ _ => (pe_op op_mulX (pe_op op_sub (pe_callF G__law_take (hr.mono (by decide)) rfl passE (pa_cons (pv 1) (pa_cons pe_int pa_nil))) pe_int) (pe_op op_add (pe_op op_pow pe_int pe_int) (pe_callF G__law_take (hr.mono (by decide)) rfl passE (pa_cons (pv 1) (pa_cons pe_int pa_nil)))))) only_name)) pss_nil)
      (pss_one (ps_ret (pv 2)))))))), ?_⟩
  have h40 := hG.1
  refine seqR (fun σ Hx => ∃ (r : Addr) (ns : List Int), σ = [some (.ref p), some (.ref t), some (.ref r), none] ∧ H r = none ∧ ns.length = T'.length ∧ Hx r = some (.lst (ns.map V.int)) ∧ PotAt Hx p ∧ Exc p H Hx) (fun R hR => ?_) ?_
  · walk_at "rd"
    exact ⟨p, t, T', rfl, hP, ht, hG, hTb, fun r ns H1 zr hn hr1 P1 e1 => hR _ _ ⟨r, ns, rfl, zr, hn, hr1, P1, e1⟩⟩
  rintro σ H1 ⟨r, ns, rfl, zr, hn, hr1, P1, e1⟩
  refine seqR (fun σ Hx => ∃ (d : Int), σ = [some (.ref p), some (.ref t), some (.ref r), some (.int d)] ∧ Hx r = some (.lst (ns.map V.int)) ∧ PotAt Hx p ∧ Exc p H Hx) (fun R hR => ?_) ?_
  · walk_at "rd"
    exact ⟨p, _, rfl, by decide, by decide, P1, fun d H2 d0 d1 P2 e2 => hR _ _ ⟨d, rfl, e2 _ _ (hP.ne zr) hr1, P2, e1.trans e2⟩⟩
  clear hr1 P1 e1 H1
  rintro σ H1 ⟨d, rfl, hr1, P1, e1⟩
  refine seqR (fun σ Hx => ∃ (r : Addr) (ns : List Int), σ = [some (.ref p), some (.ref t), some (.ref r), some (.int d)] ∧ H r = none ∧ ns.length = T'.length ∧ Hx r = some (.lst (ns.map V.int)) ∧ PotAt Hx p ∧ Exc p H Hx) (fun R hR => ?_) ?_
  · walk_at "rd"
    have nrp : r ≠ p := hP.ne zr
    refine ite2 (fun _ => ?_) fun _ => hR _ _ ⟨r, ns, rfl, zr, hn, hr1, P1, e1⟩
    refine ⟨⟨_, SqL.of hr1⟩, comp_inv (n := T'.length) (fun j acc Hz => ∃ bs : List Int, acc = bs.map V.int ∧ bs.length = j ∧ PotAt Hz p ∧ Exc p H1 Hz) (Nat.lt_of_le_of_lt (show _ ≤ 1000 by omega) (by decide)) ⟨[], rfl, rfl, P1, (Same.refl H1).toExc⟩ (fun j acc Hz ⟨_, _, _, _, e⟩ hj => ⟨_, _, SqL.of (e _ _ nrp hr1), nthV (by omega)⟩) (fun acc Hz ⟨_, _, _, _, e⟩ => ⟨_, SqL.of (e _ _ nrp hr1), by rw [List.length_map]; omega⟩) ?_ ?_⟩
    · rintro j x acc Hz Hw hj hla ⟨bs, rfl, hbs, Pz, ez⟩ ⟨rfl, hx⟩
      have exx := hx _ (SqL.of (ez _ _ nrp hr1))
      rw [nthV (by omega)] at exx
      cases exx
      walk_at "rd"
      exact ⟨p, _, rfl, by decide, by decide, Pz, fun z H4 z0 z1 P4 e4 => ⟨z, rfl, CA.take hj hla ⟨bs ++ [nth ns j + z - 2], by simp, by simp [hbs], P4, ez.trans e4⟩⟩⟩
    · rintro l acc Hz ⟨bs, rfl, hbs, Pz, ez⟩ _ zl
      have zl1 : H1 l = none := ez.free (Pz.ne zl) zl
      exact hR _ _ ⟨l, bs, rfl, e1.free (P1.ne zl1) zl1, hbs, upd_same, Pz.upd zl, (e1.trans ez).same ((Same.refl Hz).upd zl)⟩
  clear hr1 P1 e1 H1 zr hn
  rintro σ H1 ⟨r, ns, rfl, zr, hn, hr1, P1, e1⟩
  refine seqR (fun σ Hx => ∃ (r : Addr) (ns : List Int), σ = [some (.ref p), some (.ref t), some (.ref r), some (.int d)] ∧ H r = none ∧ ns.length = T'.length ∧ Hx r = some (.lst (ns.map V.int)) ∧ PotAt Hx p ∧ Exc p H Hx) (fun R hR => ?_) ?_
  · walk_at "rd"
    have nrp : r ≠ p := hP.ne zr
    refine ite2 (fun _ => ?_) fun _ => hR _ _ ⟨r, ns, rfl, zr, hn, hr1, P1, e1⟩
    refine ⟨⟨_, SqL.of hr1⟩, comp_inv (n := T'.length) (fun j acc Hz => ∃ bs : List Int, acc = bs.map V.int ∧ bs.length = j ∧ PotAt Hz p ∧ Exc p H1 Hz) (Nat.lt_of_le_of_lt (show _ ≤ 1000 by omega) (by decide)) ⟨[], rfl, rfl, P1, (Same.refl H1).toExc⟩ (fun j acc Hz ⟨_, _, _, _, e⟩ hj => ⟨_, _, SqL.of (e _ _ nrp hr1), nthV (by omega)⟩) (fun acc Hz ⟨_, _, _, _, e⟩ => ⟨_, SqL.of (e _ _ nrp hr1), by rw [List.length_map]; omega⟩) ?_ ?_⟩
    · rintro j x acc Hz Hw hj hla ⟨bs, rfl, hbs, Pz, ez⟩ ⟨rfl, hx⟩
      walk_at "rd"
      exact ⟨p, _, rfl, by decide, by decide, Pz, fun z H4 z0 z1 P4 e4 => ⟨z, rfl, CA.take hj hla ⟨bs ++ [z - 4], by simp, by simp [hbs], P4, ez.trans e4⟩⟩⟩
    · rintro l acc Hz ⟨bs, rfl, hbs, Pz, ez⟩ _ zl
      have zl1 : H1 l = none := ez.free (Pz.ne zl) zl
      exact hR _ _ ⟨l, bs, rfl, e1.free (P1.ne zl1) zl1, hbs, upd_same, Pz.upd zl, (e1.trans ez).same ((Same.refl Hz).upd zl)⟩
  clear hr1 P1 e1 H1 zr hn
  rintro σ H1 ⟨r, ns, rfl, zr, hn, hr1, P1, e1⟩
  walk_at "rd"
  have nrp : r ≠ p := hP.ne zr
  refine ite2 (fun _ => ?_) fun _ => k1 r ns H1 zr hn hr1 P1 e1
  refine ⟨⟨_, SqL.of hr1⟩, comp_inv (n := T'.length) (fun j acc Hz => ∃ bs : List Int, acc = bs.map V.int ∧ bs.length = j ∧ PotAt Hz p ∧ Exc p H1 Hz) (Nat.lt_of_le_of_lt (show _ ≤ 1000 by omega) (by decide)) ⟨[], rfl, rfl, P1, (Same.refl H1).toExc⟩ (fun j acc Hz ⟨_, _, _, _, e⟩ hj => ⟨_, _, SqL.of (e _ _ nrp hr1), nthV (by omega)⟩) (fun acc Hz ⟨_, _, _, _, e⟩ => ⟨_, SqL.of (e _ _ nrp hr1), by rw [List.length_map]; omega⟩) ?_ ?_⟩
  · rintro j x acc Hz Hw hj hla ⟨bs, rfl, hbs, Pz, ez⟩ ⟨rfl, hx⟩
    walk_at "rd"
    refine ⟨p, _, rfl, by decide, by decide, Pz, fun z H4 z0 z1 P4 e4 => ⟨z, rfl, ⟨by decide, by decide, by decide⟩, p, _, rfl, by decide, by decide, P4, fun y H5 y0 y1 P5 e5 => ⟨y, rfl, mul_l (by omega) (by omega), CA.take hj hla ⟨bs ++ [_], by rw [List.map_append]; rfl, by simp [hbs], P5, ez.trans (e4.trans e5)⟩⟩⟩⟩
  · rintro l acc Hz ⟨bs, rfl, hbs, Pz, ez⟩ _ zl
    have zl1 : H1 l = none := ez.free (Pz.ne zl) zl
    exact k1 l bs _ (e1.free (P1.ne zl1) zl1) hbs upd_same (Pz.upd zl) ((e1.trans ez).same ((Same.refl Hz).upd zl))
theorem ok__law_is_so {f : Addr} {fd : FuncData} (F : Fun K "_law_is_so" "_law_is_so" s__law_is_so f fd) (G__law_tree : Callee P w K mg base "_law_tree" 2 ["row"] (sp__law_tree K mg)) (G__law_over : Callee P w K mg base "_law_over" 1 ["tree", "place"] (sp__law_over K mg)) (G__law_flat : Callee P w K mg base "_law_flat" 2 ["tree"] (sp__law_flat K mg)) (G__law_over_by : Callee P w K mg base "_law_over_by" 1 ["flat", "row", "a", "b"] (sp__law_over_by K mg)) (T : Txt K mg) : FnOk P w K mg base (CXE P w) 3 f fd ["tree", "row", "far", "made", "pair"] (sp__law_is_so K mg) := by
  refine F.okX sc__law_is_so (fun vs H Q E h => ?_) (fun cdv A outer s H vs Q E hr h => ?_)
  · obtain ⟨t, r, m, far, v, T, ns, ms, pr, rfl, _⟩ := h; rfl
  obtain ⟨t, r, m, far, v, T', ns, ms, pr, rfl, ht, hr1, hm, hv, hG, hl, hml, k1⟩ := h
  refine ⟨_, (pss_cons (ps_if (PW.pt (pw_or (pt_cmpR op_lt (pv 2) pe_int (nomark _)) (pw_or (pt_cmpR op_ne (pe_callB (call_lenK (K := K) rfl) rfl T.b_len PySem.boot_len (pa_cons (pv 3) pa_nil)) (pe_callB (call_lenK (K := K) rfl) rfl T.b_len PySem.boot_len (pa_cons (pv 0) pa_nil)) (nomark _)) (pw_or1 (pt_cmpR (op_neD (K := K) rfl hr) (pe_callF G__law_tree (hr.mono (by decide)) rfl passE (pa_cons (pv 3) pa_nil)) (pv 0) (nomark _)))))) (pss_one (ps_ret pe_bl)) pss_nil)
      (pss_cons (ps_if (pt_val (pe_callB (call_any (K := K) rfl rfl) rfl T.b_any bt_any (pa_cons (pe_compN ["one", "other", "far"] [none, none, some 2] rfl rfl rfl (pi_zip rfl T.b_zip (pa_cons (pv 3) (pa_cons (pv 1) pa_nil))) (fun _ _ _ _ _ => (pg_tupK (K := K) (n := 2) rfl rfl (pgs_cons (pg_name (i := 0) (show (["one", "other", "far"] : List Str).Nodup from by decide +kernel) rfl (Or.inl rfl)) (pgs_cons (pg_name (i := 1) (show (["one", "other", "far"] : List Str).Nodup from by decide +kernel) rfl (Or.inl rfl)) pgs_nil)))) (fun _ _ _ _ _ => pifs_nil) (fun _ _ _ _ _ => (pe_cmpR op_gt (pe_callB call_abs rfl T.b_abs bt_abs (pa_cons (pe_op op_sub (pv 0) (pv 1)) pa_nil)) (pv 2) (nomark _))) (only_tup (only_cons only_name (only_cons only_name only_nil)))) pa_nil))) (pss_one (ps_ret pe_bl)) pss_nil)
      (pss_cons (ps_if (PW.pt (pw_or (pt_cmpR op_eq (pv 2) pe_int (nomark _)) (pw_or1 (pt_cmpR op_isN (pv 4) pe_non (nomark _))))) (pss_one (ps_ret (pe_and (pe_cmpR op_eq (pv 2) pe_int (nomark _)) (pe_one (pe_cmpR op_isN (pv 4) pe_non (nomark _)))))) pss_nil)
      (pss_cons (ps_asg (pv 4) (pg_tup (n := 2) rfl (pgs_cons (pg_name (i := 5) sc__law_is_so.nd rfl (Or.inl rfl)) (pgs_cons (pg_name (i := 6) sc__law_is_so.nd rfl (Or.inl rfl)) pgs_nil))))
      (pss_cons (ps_if (PW.pt (pw_or (pt_cmpR op_lt (pv 5) pe_int (nomark _)) (pw_or (pt_cmpR op_lt (pv 6) pe_int (nomark _)) (pw_or (pt_cmpR op_ge (pv 5) (pe_callB (call_lenK (K := K) rfl) rfl T.b_len PySem.boot_len (pa_cons (pv 0) pa_nil)) (nomark _)) (pw_or (pt_cmpR op_ge (pv 6) (pe_callB (call_lenK (K := K) rfl) rfl T.b_len PySem.boot_len (pa_cons (pv 0) pa_nil)) (nomark _)) (pw_or1 (pt_cmpR (op_notInK (K := K) rfl) (pv 5) (pe_callF G__law_over (hr.mono (by decide)) rfl passE (pa_cons (pv 0) (pa_cons (pv 6) pa_nil))) (by with_unfolding_all rfl)))))))) (pss_one (ps_ret pe_bl)) pss_nil)
      (pss_one (ps_ret (pe_cmpR (op_inK (K := K) rfl) (pe_callF G__law_over_by (hr.mono (by decide)) rfl passE (pa_cons (pe_callF G__law_flat (hr.mono (by decide)) rfl passE (pa_cons (pv 0) pa_nil)) (pa_cons (pv 1) (pa_cons (pv 5) (pa_cons (pv 6) pa_nil))))) (pe_tup (pa_cons (pe_op op_mulX pe_int (pv 2)) (pa_cons (pe_op op_sub (pe_op op_mulX pe_int (pv 2)) pe_int) pa_nil))) (by with_unfolding_all rfl))))))))), ?_⟩
  have h40 := hG.1
  have eL : (T'.map V.int).length = T'.length := List.length_map ..
  have eM : (ms.map V.int).length = ms.length := List.length_map ..
  have eF : (flatI T').length = T'.length := flatI_len T'
  walk_at "rd"
  refine ite2 (fun c0 => k1 false H (not_right rfl fun y => neg_not hG c0 y) (Same.refl H)) fun c0 => ⟨_, .inl (SqL.of hm), _, .inr (SqT.of ht), ite2 (fun c1 => k1 false H (not_right rfl fun y => c1 (by have := y.1.1; omega)) (Same.refl H)) fun c1 => ?_⟩
  have eml : ms.length = T'.length := by omega
  refine ⟨m, ms, rfl, .inl (SqL.of hm), hml, fun t2 es H3 hE s3 ht2 => ⟨t2, rfl, ?_⟩⟩
  have e3 := eqp_tup (n := 2) (K := K) (H := H3) eqp_int (V.ref t2) (V.ref t) es T' (isT_ints (SqT.of ht2)) (isT_ints (SqT.of (s3 _ _ ht)))
  refine ⟨_, e3, ite2 (fun z => k1 false H3 (not_right rfl fun y => of_decide_eq_false z (hE.unique y.1)) s3) fun z => ?_⟩
  have ee : es = T' := of_decide_eq_true (by simpa using z)
  subst ee
  have hm3 := s3 _ _ hm
  have hr3 := s3 _ _ hr1
  refine ⟨_, SqL.of hm3, _, SqL.of hr3, ?_⟩
  refine comp_map (n := es.length) (fun k => V.bl (decide (far < (if nth ms k - nth ns k < 0 then -(nth ms k - nth ns k) else nth ms k - nth ns k)))) (Nat.lt_of_le_of_lt (show _ ≤ 1000 by omega) (by decide)) (fun j Hz s hj => ⟨_, _, _, _, SqL.of (s _ _ hm3), SqL.of (s _ _ hr3), nthV (by omega), nthV (by omega)⟩) (fun Hz s => ⟨_, _, SqL.of (s _ _ hm3), SqL.of (s _ _ hr3), .inl (by rw [List.length_map]; omega)⟩) ?_ ?_
  · rintro k x Hz Hw hk sz ⟨q, x1, y1, zq, rfl, rfl, hx, hy⟩
    have ex := hx _ (SqL.of (sz _ _ hm3))
    have ey := hy _ (SqL.of (sz _ _ hr3))
    rw [nthV (by omega)] at ex ey
    cases ex
    cases ey
    walk_at "rd"
    exact ⟨_, SqT.of upd_same, rfl, _, _, rfl, _, _, rfl, rfl, _, rfl, _, rfl, CW.next hk rfl (sz.upd' zq)⟩
  intro q Hz sz hq
  refine ⟨q, rfl, (List.range es.length).map fun k => decide (far < (if nth ms k - nth ns k < 0 then -(nth ms k - nth ns k) else nth ms k - nth ns k)), SqL.of (by rw [upd_same, List.map_map]; rfl), ?_⟩
  have g := s3.trans (sz.upd' (o := .lst ((List.range es.length).map fun k => V.bl (decide (far < (if nth ms k - nth ns k < 0 then -(nth ms k - nth ns k) else nth ms k - nth ns k))))) hq)
  generalize upd Hz q (.lst ((List.range es.length).map fun k => V.bl (decide (far < (if nth ms k - nth ns k < 0 then -(nth ms k - nth ns k) else nth ms k - nth ns k))))) = H4 at g ⊢
  refine ite2 (fun c => k1 false _ (not_right rfl fun y => ?_) g) fun c => ?_
  · obtain ⟨x, hx, ex⟩ := List.any_eq_true.mp c
    obtain ⟨p, hp, rfl⟩ := List.mem_map.mp hx
    have h1 := y.2.1 p (List.mem_range.mp hp)
    have h2 : far < _ := of_decide_eq_true ex
    omega
  have hnear : ∀ p, p < es.length → (if nth ms p - nth ns p < 0 then -(nth ms p - nth ns p) else nth ms p - nth ns p) ≤ far := fun p hp => by
    refine Int.not_lt.mp fun z => c (List.any_eq_true.mpr ⟨_, List.mem_map.mpr ⟨p, List.mem_range.mpr hp, rfl⟩, decide_eq_true z⟩)
  have hri : rightN es ns far ms pr ↔ showsN es (hgt (flatI es) ns) far pr := ⟨fun y => y.2.2, fun y => ⟨hE, hnear, y⟩⟩
  rw [hri] at k1
  cases pr with
  | none =>
    have ev : v = .non := hv
    subst ev
    exact ite2 (fun c => ite2 (fun _ => k1 _ H4 ⟨fun _ => c, fun _ => decide_eq_true rfl⟩ g) fun z => absurd c z) fun c => ite2 (fun _ => ite2 (fun z => absurd z c) fun _ => k1 false H4 (not_right rfl c) g) fun z => absurd rfl z
  | some z =>
    obtain ⟨w, rfl, hw⟩ := hv
    obtain ⟨a, b⟩ := z
    refine ite2 (fun c => ite2 (fun _ => k1 _ H4 (not_right (decide_eq_false fun z => nomatch z) fun z => z.1 c) g) fun z => absurd c z) fun c => ite2 (fun z => nomatch z) fun _ => ⟨w, rfl, _, SqT.of (g _ _ hw), rfl, _, _, rfl, _, _, rfl, rfl, _, rfl, ?_⟩
    dsimp only
    have no : ∀ {H5 : Hp}, Same H H5 → ¬ overN es a b → Q (.bl false) H5 := fun s n => k1 false _ (not_right rfl fun z => n z.2.1) s
    have ov := fun z : overN es a b => over_nat hG z
    refine ite2 (fun c2 => no g fun z => ?_) fun c2 => ⟨_, rfl, ite2 (fun c3 => no g fun z => ?_) fun c3 => ⟨_, .inr (SqT.of (g _ _ ht)), _, rfl, ite2 (fun c4 => no g fun z => ?_) fun c4 => ⟨_, .inr (SqT.of (g _ _ ht)), _, rfl, ite2 (fun c5 => no g fun z => ?_) fun c5 => ?_⟩⟩⟩
    · obtain ⟨x, y, h1, h2, h3, h4, _⟩ := ov z; omega
    · obtain ⟨x, y, h1, h2, h3, h4, _⟩ := ov z; omega
    · obtain ⟨x, y, h1, h2, h3, h4, _⟩ := ov z; omega
    · obtain ⟨x, y, h1, h2, h3, h4, _⟩ := ov z; omega
    obtain ⟨x, rfl⟩ := Int.eq_ofNat_of_zero_le (Int.not_lt.mp c2)
    obtain ⟨y, rfl⟩ := Int.eq_ofNat_of_zero_le (Int.not_lt.mp c3)
    obtain ⟨_, nsT, hT⟩ := id hG
    refine ⟨t, es, y, rfl, g _ _ ht, by omega, by omega, endsIn_all hT (by omega), fun w2 H5 zw s5 hw2 => ⟨w2, rfl, _, .inl (SqL.of hw2), rfl, flat_ints _, ?_⟩⟩
    rw [in_ints]
    refine ite2 (fun c6 => no (g.trans s5) fun z => of_decide_eq_false c6 (by have := z.2.2; rwa [Int.toNat_natCast] at this)) fun c6 => ?_
    have hin : x ∈ way es y := by
      have h6 := of_decide_eq_true ((Bool.not_eq_false _).mp c6)
      rw [wayI_way] at h6
      obtain ⟨o, ho, e⟩ := List.mem_map.mp h6
      rw [← show o = x by omega]; exact ho
    have gA := g.trans s5
    refine ⟨t, es, rfl, gA _ _ ht, by omega, fun q hq => endsIn_all hT hq, fun fl H6 zfl s6 hfl => ⟨fl, r, flatI es, ns, x, y, rfl, hfl, (gA.trans s6) _ _ hr1, by omega, by omega, by omega, mul_l (by decide) (by decide), mul_l (by decide) (by decide), by decide, fun q2 zq2 => ⟨_, .inr (SqT.of upd_same), rfl, rfl, ?_⟩⟩⟩
    rw [in_two]
    have eO : obN (flatI es) ns x y = nth (hgt (flatI es) ns) x - nth (hgt (flatI es) ns) y := by
      rw [hgt_nth (by omega), hgt_nth (by omega)]; unfold obN; omega
    refine k1 _ _ (decide_eq_true_iff.trans ⟨fun z => ⟨c, over_of (by omega) hin, ?_⟩, fun z => ?_⟩) ((gA.trans s6).upd' zq2)
    · simp only [Int.toNat_natCast]; rw [← eO]; exact z
    · have := z.2.2
      simp only [Int.toNat_natCast] at this
      rw [← eO] at this; exact this
theorem ok__law_pairs {f : Addr} {fd : FuncData} (F : Fun K "_law_pairs" "_law_pairs" s__law_pairs f fd) (G__law_over : Callee P w K mg base "_law_over" 1 ["tree", "place"] (sp__law_over K mg)) (T : Txt K mg) : FnOk P w K mg base (CXE P w) 2 f fd ["tree"] (sp__law_pairs K mg) := by
  refine F.okX sc__law_pairs (fun vs H Q E h => ?_) (fun cdv A outer s H vs Q E hr h => ?_)
  · obtain ⟨t, T, rfl, _⟩ := h; rfl
  obtain ⟨t, T', rfl, ht, hG, k1⟩ := h
  refine ⟨_, (pss_cons (ps_set (i := 1) sc__law_pairs.nd rfl (Or.inl rfl) (pe_lst pa_nil))
      (pss_cons (ps_nox (ps_for PassesOwn.never rfl (pi_range1 rfl T.b_range (pa_cons (pe_callB (call_lenK (K := K) rfl) rfl T.b_len PySem.boot_len (pa_cons (pv 0) pa_nil)) pa_nil)) (pg_name (i := 2) sc__law_pairs.nd rfl (Or.inr rfl)) (pss_one (ps_expr (pe_bm PySem.F.plainAttrs_list PySem.F.slot_list_extend PySem.F.type_list_extend mt_extend (pv 1) (pa_cons (pe_compN ["a", "b"] [none, some 2] rfl rfl rfl (pi_list (pe_callF G__law_over (hr.mono (by decide)) rfl passE (pa_cons (pv 0) (pa_cons (pv 2) pa_nil)))) (fun _ _ _ _ _ => (pg_name (i := 0) (show (["a", "b"] : List Str).Nodup from by decide +kernel) rfl (Or.inl rfl))) (fun _ _ _ _ _ => pifs_nil) (fun _ _ _ _ _ => (pe_tup (pa_cons (pv 0) (pa_cons (pv 1) pa_nil)))) only_name) pa_nil))))))
      (pss_one (ps_ret (pv 1))))), ?_⟩
  have eL : (T'.map V.int).length = T'.length := List.length_map ..
  obtain ⟨h40, nsT, hT⟩ := id hG
  walk_at "rd"
  refine ⟨by decide, fun l zl => ?_⟩
  have g0 := (Same.refl H).upd (o := .lst []) zl
  refine ⟨_, .inr (SqT.of (g0 _ _ ht)), by omega, by omega, ?_⟩
  rw [eL, show ((T'.length : Nat) : Int).toNat = T'.length by omega]
  refine for_range (fun i σ Hx => ∃ (as : List Addr) (zs : List (Nat × Nat)) (v2 : Option V), σ = [some (.ref t), some (.ref l), v2] ∧ Hx l = some (.lst (as.map V.ref)) ∧ PrsIn Hx as zs ∧ as.length ≤ i * 40 ∧ (∀ z : Nat × Nat, z ∈ zs ↔ z.2 < i ∧ z.1 ∈ way T' z.2) ∧ Same H Hx) ⟨[], [], none, rfl, upd_same, PrsIn.nil _, by simp, (fun z => ⟨fun h => absurd h (by simp), fun h => absurd h.1 (by omega)⟩), g0⟩ ?_ ?_
  · rintro i σ Hx hi ⟨as, zs, v2, rfl, hlx, hpr, hal, hmem, sx⟩
    rw [show (0 : Int) + (i : Int) = ((i : Nat) : Int) by omega]
    walk_at "rd"
    refine ⟨tyV_list hlx, t, T', i, rfl, sx _ _ ht, by omega, hi, endsIn_all hT hi, fun w H3 zw s3 hw => ⟨w, rfl, ⟨_, SqL.of hw⟩, ?_⟩⟩
    have hWl : (way T' i).length ≤ 40 := Nat.le_trans (wayF_len _ _ _) h40
    refine comp_inv (n := (way T' i).length) (fun j acc Hz => ∃ bs : List Addr, acc = bs.map V.ref ∧ PrsIn Hz bs (((way T' i).take j).map fun a => (a, i)) ∧ Same H3 Hz) (Nat.lt_of_le_of_lt (show _ ≤ 1000 by omega) (by decide)) ⟨[], rfl, PrsIn.nil _, Same.refl H3⟩ (fun j acc Hz ⟨_, _, _, e⟩ hj => ⟨_, _, SqL.of (e _ _ hw), List.getElem?_eq_getElem (by rw [wayI_way]; simpa using hj)⟩) (fun acc Hz ⟨_, _, _, e⟩ => ⟨_, SqL.of (e _ _ hw), by rw [wayI_way]; simp⟩) ?_ ?_
    · rintro j x acc Hz Hw hj hla ⟨bs, rfl, hbs, ez⟩ ⟨rfl, hx⟩
      have exx := hx _ (SqL.of (ez _ _ hw))
      have eo : ((wayI T' i).map V.int)[j]? = some (V.int (((way T' i)[j] : Nat) : Int)) := by rw [wayI_way]; simp [hj]
      rw [eo] at exx
      cases exx
      walk_at "rd"
      refine ⟨by decide, fun q zq => CA.take hj hla ⟨bs ++ [q], by simp, ?_, ez.upd' zq⟩⟩
      rw [List.take_succ, List.getElem?_eq_getElem hj, List.map_append]
      exact (hbs.same ((Same.refl _).upd zq)).app (PrsIn.one upd_same)
    · rintro l2 acc Hz ⟨bs, rfl, hbs, ez⟩ _ zl2
      rw [List.take_length] at hbs
      have hlz := (s3.trans ez) _ _ hlx
      have gq := (Same.refl Hz).upd (o := .lst (bs.map V.ref)) zl2
      have hblen := hbs.1
      rw [List.length_map] at hblen
      refine ⟨l2, rfl, _, gq _ _ hlz, _, upd_same, Nat.le_trans (show _ ≤ 100000 by simp; omega) (by decide), as ++ bs, by rw [upd_same]; simp, zs ++ (way T' i).map (fun a => (a, i)), (((hpr.same (s3.trans ez)).same gq).app (hbs.same gq)).updL (gq _ _ hlz), by simp; omega, fun z => ?_, ((sx.trans (s3.trans ez)).trans gq).upd zl⟩
      rw [List.mem_append, hmem]
      constructor
      · rintro (h | h)
        · exact ⟨by omega, h.2⟩
        · obtain ⟨a, ha, rfl⟩ := List.mem_map.mp h
          exact ⟨by dsimp only; omega, ha⟩
      · rintro ⟨h1, h2⟩
        by_cases c : z.2 = i
        · exact .inr (List.mem_map.mpr ⟨z.1, c ▸ h2, by rw [← c]⟩)
        · exact .inl ⟨by omega, h2⟩
  · rintro σ Hx ⟨as, zs, v2, rfl, hlx, hpr, hal, hmem, sx⟩
    walk_at "rd"
    exact k1 l as zs Hx zl hlx hpr (by omega) hmem sx
theorem ok__law_parts {f : Addr} {fd : FuncData} (F : Fun K "_law_parts" "_law_parts" s__law_parts f fd) (G__law_flat : Callee P w K mg base "_law_flat" 2 ["tree"] (sp__law_flat K mg)) (G__law_least_row : Callee P w K mg base "_law_least_row" 3 ["tree", "least"] (sp__law_least_row K mg)) (G__law_over_by : Callee P w K mg base "_law_over_by" 1 ["flat", "row", "a", "b"] (sp__law_over_by K mg)) (G__law_far : Callee P w K mg base "_law_far" 3 ["tree", "row"] (sp__law_far K mg)) (G__law_pairs : Callee P w K mg base "_law_pairs" 2 ["tree"] (sp__law_pairs K mg)) (T : Txt K mg) : FnOk P w K mg base (CXE P w) 4 f fd ["tree", "row"] (sp__law_parts K mg) := by
  refine F.okX sc__law_parts (fun vs H Q E h => ?_) (fun cdv A outer s H vs Q E hr h => ?_)
  · obtain ⟨t, r, T, ns, rfl, _⟩ := h; rfl
  obtain ⟨t, r, T', ns, rfl, ht, hr1, hG, hl, k1⟩ := h
  refine ⟨_, (pss_cons (ps_set (i := 2) sc__law_parts.nd rfl (Or.inr rfl) (pe_callF G__law_far (hr.mono (by decide)) rfl passE (pa_cons (pv 0) (pa_cons (pv 1) pa_nil))))
      (pss_cons (ps_set (i := 3) sc__law_parts.nd rfl (Or.inl rfl) (pe_callF G__law_least_row (hr.mono (by decide)) rfl passE (pa_cons (pv 0) (pa_cons (pe_compN ["number", "far"] [none, some 2] rfl rfl rfl (pi_list (pv 1)) (fun _ _ _ _ _ => (pg_name (i := 0) (show (["number", "far"] : List Str).Nodup from by decide +kernel) rfl (Or.inl rfl))) (fun _ _ _ _ _ => pifs_nil) (fun _ _ _ _ _ => (pe_op op_sub (pv 0) (pv 1))) only_name) pa_nil))))
      (pss_cons (ps_set (i := 4) sc__law_parts.nd rfl (Or.inr rfl) (pe_callF G__law_flat (hr.mono (by decide)) rfl passE (pa_cons (pv 0) pa_nil)))
      (pss_cons (ps_setCN (i := 5) ["a", "b", "flat", "row", "far"] [none, none, some 4, some 1, some 2] sc__law_parts.nd rfl (Or.inl rfl) rfl rfl rfl (pi_list (pe_callF G__law_pairs (hr.mono (by decide)) rfl passE (pa_cons (pv 0) pa_nil))) (fun _ _ _ _ _ => (pg_tupK (K := K) (n := 2) rfl rfl (pgs_cons (pg_name (i := 0) (show (["a", "b", "flat", "row", "far"] : List Str).Nodup from by decide +kernel) rfl (Or.inl rfl)) (pgs_cons (pg_name (i := 1) (show (["a", "b", "flat", "row", "far"] : List Str).Nodup from by decide +kernel) rfl (Or.inl rfl)) pgs_nil)))) (fun _ _ _ _ _ => pifs_one (pt_cmpR (op_inK (K := K) rfl) (pe_callF G__law_over_by (hr.mono (by decide)) rfl passE (pa_cons (pv 2) (pa_cons (pv 3) (pa_cons (pv 0) (pa_cons (pv 1) pa_nil))))) (pe_tup (pa_cons (pe_op op_mulX pe_int (pv 4)) (pa_cons (pe_op op_sub (pe_op op_mulX pe_int (pv 4)) pe_int) pa_nil))) (by with_unfolding_all rfl))) (fun _ _ _ _ _ => (pe_tup (pa_cons (pv 0) (pa_cons (pv 1) pa_nil)))) (only_tup (only_cons only_name (only_cons only_name only_nil))))
      (pss_cons (ps_if (pt_cmpR op_eq (pv 2) pe_int (nomark _)) (pss_one (ps_ret (pe_tup (pa_cons (pv 2) (pa_cons (pv 3) (pa_cons pe_non pa_nil)))))) pss_nil)
      (pss_one (ps_ret (pe_tup (pa_cons (pv 2) (pa_cons (pv 3) (pa_cons (pe_ix ix_list (pv 5) (pe_un un_neg pe_int) (fun _ _ => rfl)) pa_nil))))))))))), ?_⟩
  obtain ⟨h40, nsT, hT⟩ := id hG
  refine seqR (fun σ Hx => ∃ far : Int, σ = [some (.ref t), some (.ref r), some (.int far), none, none, none] ∧ FarIs T' ns far ∧ Same H Hx) (fun R hR => ?_) ?_
  · walk_at "rd"
    exact ⟨t, r, T', ns, rfl, ht, hr1, hG, hl, fun far H1 hf s1 => hR _ _ ⟨far, rfl, hf, s1⟩⟩
  rintro σ H1 ⟨far, rfl, hF, s1⟩
  refine seqR (fun σ Hx => ∃ (m : Addr) (ms : List Int), σ = [some (.ref t), some (.ref r), some (.int far), some (.ref m), none, none] ∧ H m = none ∧ DueIs T' (ns.map fun x => x - far) ms ∧ Hx m = some (.lst (ms.map V.int)) ∧ Same H Hx) (fun R hR => ?_) ?_
  · walk_at "rd"
    have hr2 := s1 _ _ hr1
    refine ⟨⟨_, SqL.of hr2⟩, comp_map (n := ns.length) (fun k => V.int (nth ns k - far)) (Nat.lt_of_le_of_lt (show _ ≤ 1000 by omega) (by decide)) (fun j Hz s hj => ⟨_, _, SqL.of (s _ _ hr2), nthV (by omega)⟩) (fun Hz s => ⟨_, SqL.of (s _ _ hr2), by rw [List.length_map]; omega⟩) ?_ ?_⟩
    · rintro k x Hz Hw hk sz ⟨rfl, hx⟩
      have exx := hx _ (SqL.of (sz _ _ hr2))
      rw [nthV (by omega)] at exx
      cases exx
      walk_at "rd"
      exact CW.next hk rfl sz
    · intro q Hz sz hq
      have eM : ((List.range ns.length).map fun k => V.int (nth ns k - far)) = (ns.map fun x => x - far).map V.int := by
        refine List.ext_getElem (by simp) fun j j1 j2 => ?_
        have : j < ns.length := by simpa using j2
        simp [nth, List.getD_eq_getElem?_getD, this]
      rw [eM]
      have g := (s1.trans sz).upd' (o := .lst ((ns.map fun x => x - far).map V.int)) hq
      exact ⟨t, q, T', _, rfl, g _ _ ht, upd_same, hG, by rw [List.length_map]; exact hl, fun m ms H2 zm s2 hD hm => hR _ _ ⟨m, ms, rfl, g.free zm, hD, hm, g.trans s2⟩⟩
  clear s1 H1
  rintro σ H1 ⟨m, ms, rfl, zm, hD, hm1, s1⟩
  refine seqR (fun σ Hx => ∃ (fl : Addr), σ = [some (.ref t), some (.ref r), some (.int far), some (.ref m), some (.ref fl), none] ∧ Hx fl = some (.lst ((flatI T').map V.int)) ∧ Same H1 Hx) (fun R hR => ?_) ?_
  · walk_at "rd"
    exact ⟨t, T', rfl, s1 _ _ ht, by omega, fun q hq => endsIn_all hT hq, fun fl H2 zfl s2 hfl => hR _ _ ⟨fl, rfl, hfl, s2⟩⟩
  rintro σ H2 ⟨fl, rfl, hfl, s2⟩
  refine seqR (fun σ Hx => ∃ (q : Addr) (as : List Addr) (zs : List (Nat × Nat)), σ = [some (.ref t), some (.ref r), some (.int far), some (.ref m), some (.ref fl), some (.ref q)] ∧ Hx q = some (.lst (as.map V.ref)) ∧ PrsIn Hx as zs ∧ (∀ z : Nat × Nat, z ∈ zs ↔ (z.2 < T'.length ∧ z.1 ∈ way T' z.2) ∧ (obN (flatI T') ns z.1 z.2 = 2 * far ∨ obN (flatI T') ns z.1 z.2 = 2 * far - 1)) ∧ Same H2 Hx) (fun R hR => ?_) ?_
  · walk_at "rd"
    refine ⟨t, T', rfl, (s1.trans s2) _ _ ht, hG, fun w as zs H3 zw hw hpr hal hmem s3 => ⟨w, rfl, ⟨_, SqL.of hw⟩, ?_⟩⟩
    have el := hpr.1
    refine comp_inv (n := as.length) (fun j acc Hz => ∃ bs : List Addr, acc = bs.map V.ref ∧ PrsIn Hz bs ((zs.take j).filter fun z => decide (obN (flatI T') ns z.1 z.2 = 2 * far ∨ obN (flatI T') ns z.1 z.2 = 2 * far - 1)) ∧ Same H3 Hz) (Nat.lt_of_le_of_lt hal (by decide)) ⟨[], rfl, PrsIn.nil _, Same.refl H3⟩ (fun j acc Hz ⟨_, _, _, e⟩ hj => ⟨_, _, SqL.of (e _ _ hw), refAt61 hj⟩) (fun acc Hz ⟨_, _, _, e⟩ => ⟨_, SqL.of (e _ _ hw), by simp⟩) ?_ ?_
    · rintro j x acc Hz Hw hj hla ⟨bs, rfl, hbs, ez⟩ ⟨rfl, hx⟩
      have exx := hx _ (SqL.of (ez _ _ hw))
      rw [refAt61 hj] at exx
      cases exx
      have hj2 : j < zs.length := by omega
      have hz := hpr.2 j _ _ (List.getElem?_eq_getElem hj) (List.getElem?_eq_getElem hj2)
      have hzm := (hmem _).mp (List.getElem_mem hj2)
      have ezt : zs.take (j + 1) = zs.take j ++ [zs[j]] := by rw [List.take_succ, List.getElem?_eq_getElem hj2]; rfl
      generalize zs[j] = z at hz hzm ezt
      obtain ⟨x, y⟩ := z
      have hxT := way_lt hG hzm.1 hzm.2
      have hyT : y < T'.length := hzm.1
      have eF : (flatI T').length = T'.length := flatI_len T'
      have sA := s2.trans (s3.trans ez)
      walk_at "rd"
      refine ⟨_, SqT.of (ez _ _ hz), rfl, _, _, rfl, _, _, rfl, rfl, fl, r, flatI T', ns, x, y, rfl, (s3.trans ez) _ _ hfl, (s1.trans sA) _ _ hr1, by omega, by omega, by omega, mul_l (by decide) (by decide), mul_l (by decide) (by decide), by decide, fun q2 zq2 => ⟨_, .inr (SqT.of upd_same), rfl, rfl, ?_⟩⟩
      rw [in_two]
      refine ite2 (fun c => ⟨by decide, fun q3 zq3 => CA.take hj hla ⟨bs ++ [q3], by simp, ?_, (ez.upd' zq2).upd' zq3⟩⟩) fun c => CA.skip hj hla ⟨bs, rfl, ?_, ez.upd' zq2⟩
      · rw [ezt, List.filter_append, List.filter_cons, if_pos c]
        exact ((hbs.same ((Same.refl _).upd zq2)).same ((Same.refl _).upd zq3)).app (PrsIn.one upd_same)
      · rw [ezt, List.filter_append, List.filter_cons, if_neg c, List.filter_nil, List.append_nil]
        exact hbs.same ((Same.refl _).upd zq2)
    · rintro l2 acc Hz ⟨bs, rfl, hbs, ez⟩ _ zl2
      rw [el, List.take_length] at hbs
      refine hR _ _ ⟨l2, bs, _, rfl, upd_same, hbs.same ((Same.refl Hz).upd zl2), fun z => ?_, (s3.trans ez).upd' zl2⟩
      rw [List.mem_filter, hmem, decide_eq_true_iff]
  rintro σ H3 ⟨q, as, zs, rfl, hq, hpr, hmem, s3⟩
  walk_at "rd"
  have sA := (s1.trans s2).trans s3
  have hTr := due_tree hG hD
  have hne := parts_near hG hl hF hD
  have hm3 := (s2.trans s3) _ _ hm1
  refine ite2 (fun c => ⟨by decide, fun u zu => k1 u m far .non ms none _ zm hD.1 ⟨hTr, hne, c⟩ rfl upd_same (((Same.refl H3).upd zu) _ _ hm3) (sA.upd' zu)⟩) fun c => ?_
  obtain ⟨b, hb, a, ha, e⟩ := hF.2.2.resolve_left c
  have hz : (a, b) ∈ zs := (hmem _).mpr ⟨⟨hb, ha⟩, e⟩
  have hzl : 0 < zs.length := List.length_pos_of_mem hz
  have el := hpr.1
  have hlast := hpr.2 (as.length - 1) _ _ (List.getElem?_eq_getElem (by omega)) (List.getElem?_eq_getElem (by omega))
  have hlm := (hmem _).mp (List.getElem_mem (l := zs) (n := as.length - 1) (by omega))
  generalize zs[as.length - 1]'(by omega) = z at hlast hlm
  generalize has : as[as.length - 1]'(by omega) = w at hlast
  obtain ⟨x, y⟩ := z
  have hxT := way_lt hG hlm.1.1 hlm.1.2
  have hyT : y < T'.length := hlm.1.1
  have eF : (flatI T').length = T'.length := flatI_len T'
  refine ⟨_, SqL.of hq, V.ref w, atI_m1 (by simpa using (by omega : 0 < as.length)) (by rw [List.length_map, refAt61 (by omega), has]), by decide, fun u zu => ?_⟩
  have gu := (Same.refl H3).upd (o := .tup [V.int far, V.ref m, V.ref w]) zu
  refine k1 u m far (.ref w) ms (some ((x : Int), (y : Int))) _ zm hD.1 ⟨hTr, hne, c, over_of hyT hlm.1.2, ?_⟩ ⟨w, rfl, gu _ _ hlast⟩ upd_same (gu _ _ hm3) (sA.upd' zu)
  simp only [Int.toNat_natCast]
  rw [hgt_nth (by omega), hgt_nth (by omega)]
  have := hlm.2
  unfold obN at this
  dsimp only at this
  omega

theorem ok__law_bent {f : Addr} {fd : FuncData} (F : Fun K "_law_bent" "_law_bent" s__law_bent f fd) (G__law_take : Callee P w K mg base "_law_take" 1 ["pot", "many"] (sp__law_take K mg)) (G__law_kin_row : Callee P w K mg base "_law_kin_row" 5 ["pot", "tree"] (sp__law_kin_row K mg)) (G__law_pairs : Callee P w K mg base "_law_pairs" 2 ["tree"] (sp__law_pairs K mg)) (T : Txt K mg) : FnOk P w K mg base (CXE P w) 6 f fd ["pot", "tree", "parts"] (sp__law_bent K mg) := by
  refine F.okX sc__law_bent (fun vs H Q E h => ?_) (fun cdv A outer s H vs Q E hr h => ?_)
  · obtain ⟨p, t, c, m, far, v, T, ms, pr, rfl, _⟩ := h; rfl
  obtain ⟨p, t, c, m, far, v, T', ms, pr, rfl, hP, ht, hc, hm, nmp, hv, hG, hml, hTb, k1⟩ := h
  refine ⟨_, (pss_cons (ps_asg (pv 2) (pg_tup (n := 3) rfl (pgs_cons (pg_name (i := 3) sc__law_bent.nd rfl (Or.inl rfl)) (pgs_cons (pg_name (i := 4) sc__law_bent.nd rfl (Or.inl rfl)) (pgs_cons (pg_name (i := 5) sc__law_bent.nd rfl (Or.inl rfl)) pgs_nil)))))
      (pss_cons (ps_set (i := 6) sc__law_bent.nd rfl (Or.inl rfl) (pe_callF G__law_take (hr.mono (by decide)) rfl passE (pa_cons (pv 0) (pa_cons pe_int pa_nil))))
      (pss_cons (ps_set (i := 4) sc__law_bent.nd rfl (Or.inl rfl) (pe_callTy (call_listK (K := K) rfl) rfl T.b_list bt_list (pa_cons (pv 4) pa_nil)))
      (pss_cons (ps_if (pt_cmpR op_eq (pv 6) pe_int (nomark _)) (pss_one (ps_set (i := 3) sc__law_bent.nd rfl (Or.inl rfl) (pe_op op_add (pv 3) pe_int))) pss_nil)
      (pss_cons (ps_if (pt_cmpR op_eq (pv 6) pe_int (nomark _)) (pss_one (ps_set (i := 3) sc__law_bent.nd rfl (Or.inl rfl) (pe_ix ix_tup (pe_tup (pa_cons (pe_op op_sub (pv 3) pe_int) (pa_cons (pe_un un_neg (pv 3)) pa_nil))) (pe_callF G__law_take (hr.mono (by decide)) rfl passE (pa_cons (pv 0) (pa_cons pe_int pa_nil))) (fun _ _ => rfl)))) pss_nil)
      (pss_cons (ps_if (PW.pt (pw_and (pt_cmpR op_eq (pv 6) pe_int (nomark _)) (pw_and1 (pt_cmpR (op_neD (K := K) rfl hr) (pv 4) (pe_lst pa_nil) (nomark _))))) (pss_cons (ps_set (i := 7) sc__law_bent.nd rfl (Or.inl rfl) (pe_callF G__law_take (hr.mono (by decide)) rfl passE (pa_cons (pv 0) (pa_cons (pe_callB (call_lenK (K := K) rfl) rfl T.b_len PySem.boot_len (pa_cons (pv 4) pa_nil)) pa_nil))))
      (pss_one (ps_asg (pe_op op_add (pe_ix ix_list (pv 4) (pv 7) (fun _ _ => rfl)) (pe_ix ix_tup (pe_tup (pa_cons pe_int (pa_cons (pe_un un_neg pe_int) (pa_cons pe_int pa_nil)))) (pe_callF G__law_take (hr.mono (by decide)) rfl passE (pa_cons (pv 0) (pa_cons pe_int pa_nil))) (fun _ _ => rfl))) (pg_sub (pv 4) (pv 7) set_list (fun _ => rfl))))) pss_nil)
      (pss_cons (ps_if (pt_cmpR op_eq (pv 6) pe_int (nomark _)) (pss_one (ps_set (i := 4) sc__law_bent.nd rfl (Or.inl rfl) (pe_slice sl_list (pv 4) po_none (po_some (pe_un un_neg pe_int))))) pss_nil)
      (pss_cons (ps_if (pt_cmpR op_eq (pv 6) pe_int (nomark _)) (pss_one (ps_set (i := 4) sc__law_bent.nd rfl (Or.inl rfl) (pe_callF G__law_kin_row (hr.mono (by decide)) rfl passE (pa_cons (pv 0) (pa_cons (pv 1) pa_nil))))) pss_nil)
      (pss_cons (ps_if (pt_cmpR op_gt (pv 6) pe_int (nomark _)) (pss_cons (ps_set (i := 8) sc__law_bent.nd rfl (Or.inl rfl) (pe_op (op_catK (K := K) rfl) (pe_lst (pa_cons pe_non (pa_cons (pe_tup (pa_cons (pe_un un_neg pe_int) (pa_cons pe_int pa_nil))) (pa_cons (pe_tup (pa_cons pe_int (pa_cons pe_int pa_nil))) (pa_cons (pe_tup (pa_cons (pe_op op_pow pe_int pe_int) (pa_cons pe_int pa_nil))) (pa_cons (pe_tup (pa_cons pe_int (pa_cons (pe_callB (call_lenK (K := K) rfl) rfl T.b_len PySem.boot_len (pa_cons (pv 1) pa_nil)) pa_nil))) pa_nil)))))) (pe_callF G__law_pairs (hr.mono (by decide)) rfl passE (pa_cons (pv 1) pa_nil))))
      (pss_one (ps_set (i := 5) sc__law_bent.nd rfl (Or.inl rfl) (pe_ix ix_list (pv 8) (pe_callF G__law_take (hr.mono (by decide)) rfl passE (pa_cons (pv 0) (pa_cons (pe_callB (call_lenK (K := K) rfl) rfl T.b_len PySem.boot_len (pa_cons (pv 8) pa_nil)) pa_nil))) (fun _ _ => rfl))))) pss_nil)
      (pss_cons (ps_if (PW.pt (pw_and (pt_cmpR op_eq (pv 6) pe_int (nomark _)) (pw_and1 (pt_cmpR op_notN (pv 5) pe_non (nomark _))))) (pss_one (ps_set (i := 5) sc__law_bent.nd rfl (Or.inl rfl) (pe_tup (pa_cons (pe_ix ix_tup (pv 5) pe_int (fun _ _ => rfl)) (pa_cons (pe_ix ix_tup (pv 5) pe_int (fun _ _ => rfl)) pa_nil))))) pss_nil)
      (pss_one (ps_ret (pe_tup (pa_cons (pv 3) (pa_cons (pv 4) (pa_cons (pv 5) pa_nil)))))))))))))))), ?_⟩
  have h40 := hG.1
  have eL : (T'.map V.int).length = T'.length := List.length_map ..
  have npt : t ≠ p := pot_tup hP ht
  have npc : c ≠ p := pot_tup hP hc
  refine seqR (fun σ Hx => σ = [some (.ref p), some (.ref t), some (.ref c), some (.int far), some (.ref m), some v, none, none, none] ∧ Hx = H) (fun R hR => ?_) ?_
  · walk_at "rd"
    exact ⟨_, SqT.of hc, rfl, _, _, rfl, _, _, rfl, _, _, rfl, rfl, hR _ _ ⟨rfl, rfl⟩⟩
  rintro σ H0 ⟨rfl, rfl⟩
  refine seqR (fun σ Hx => ∃ d : Int, σ = [some (.ref p), some (.ref t), some (.ref c), some (.int far), some (.ref m), some v, some (.int d), none, none] ∧ PotAt Hx p ∧ Exc p H0 Hx) (fun R hR => ?_) ?_
  · walk_at "rd"
    exact ⟨p, _, rfl, by decide, by decide, hP, fun d H2 d0 d1 P2 e2 => hR _ _ ⟨d, rfl, P2, e2⟩⟩
  rintro σ H1 ⟨d, rfl, P1, e1⟩
  refine seqR (fun σ Hx => ∃ (m' : Addr), σ = [some (.ref p), some (.ref t), some (.ref c), some (.int far), some (.ref m'), some v, some (.int d), none, none] ∧ H0 m' = none ∧ Hx m' = some (.lst (ms.map V.int)) ∧ PotAt Hx p ∧ Exc p H0 Hx ∧ PairAt Hx v pr) (fun R hR => ?_) ?_
  · walk_at "rd"
    have hm1 := e1 _ _ nmp hm
    exact ⟨_, .inl (SqL.of hm1), fun l zl => hR _ _ ⟨l, rfl, e1.free (P1.ne zl) zl, upd_same, P1.upd zl, e1.same ((Same.refl _).upd zl), (hv.exc hP e1).same ((Same.refl _).upd zl)⟩⟩
  clear P1 e1 H1
  rintro σ H1 ⟨m', rfl, zm, hm1, P1, e1, hv1⟩
  refine seqR (fun σ Hx => ∃ (far' : Int) , σ = [some (.ref p), some (.ref t), some (.ref c), some (.int far'), some (.ref m'), some v, some (.int d), none, none] ∧ Hx = H1) (fun R hR => ?_) ?_
  · walk_at "rd"
    exact ite2 (fun _ => hR _ _ ⟨_, rfl, rfl⟩) fun _ => hR _ _ ⟨_, rfl, rfl⟩
  rintro σ H2 ⟨far1, rfl, rfl⟩
  refine seqR (fun σ Hx => ∃ (far' : Int) , σ = [some (.ref p), some (.ref t), some (.ref c), some (.int far'), some (.ref m'), some v, some (.int d), none, none] ∧ Hx m' = some (.lst (ms.map V.int)) ∧ PotAt Hx p ∧ Exc p H0 Hx ∧ PairAt Hx v pr) (fun R hR => ?_) ?_
  · walk_at "rd"
    have nmp' : m' ≠ p := hP.ne zm
    refine ite2 (fun _ => ⟨by decide, fun q zq => ⟨p, _, rfl, by decide, by decide, P1.upd zq, fun y H3 y0 y1 P3 e3 => ?_⟩⟩) fun _ => hR _ _ ⟨far1, rfl, hm1, P1, e1, hv1⟩
    have gq := (Same.refl H2).upd (o := .tup [V.int (far1 - 1), V.int (-far1)]) zq
    refine ⟨_, _, rfl, SqT.of (e3 _ _ (P1.ne zq) upd_same), ?_⟩
    have hm3 := e3 _ _ nmp' (gq _ _ hm1)
    have e13 := (e1.same gq).trans e3
    have hv3 := (hv1.same gq).exc (P1.upd zq) e3
    rcases (by omega : y = 0 ∨ y = 1) with rfl | rfl
    · exact ⟨_, rfl, hR _ _ ⟨_, rfl, hm3, P3, e13, hv3⟩⟩
    · exact ⟨_, rfl, hR _ _ ⟨_, rfl, hm3, P3, e13, hv3⟩⟩
  clear P1 e1 hm1 hv1 H2
  rintro σ H1 ⟨far2, rfl, hm1, P1, e1, hv1⟩
  have nmp' : m' ≠ p := hP.ne zm
  refine seqR (fun σ Hx => ∃ (ms' : List Int) (v7 : Option V), σ = [some (.ref p), some (.ref t), some (.ref c), some (.int far2), some (.ref m'), some v, some (.int d), v7, none] ∧ ms'.length = ms.length ∧ Hx m' = some (.lst (ms'.map V.int)) ∧ PotAt Hx p ∧ Exc p H0 Hx ∧ PairAt Hx v pr) (fun R hR => ?_) ?_
  · walk_at "rd"
    refine ite2 (fun _ => ⟨Nat.zero_le _, fun q zq => ?_⟩) fun _ => hR _ _ ⟨ms, none, rfl, rfl, hm1, P1, e1, hv1⟩
    have gq := (Same.refl H1).upd (o := .lst []) zq
    have e3 := eqp_lst (n := 2) (K := K) (H := upd H1 q (.lst [])) eqp_int (V.ref m') (V.ref q) ms [] (isL_ints (SqL.of (gq _ _ hm1))) (isL_ints (SqL.of upd_same))
    refine ⟨_, e3, ite2 (fun z => ?_) fun z => hR _ _ ⟨ms, none, rfl, rfl, gq _ _ hm1, P1.upd zq, e1.same gq, hv1.same gq⟩⟩
    have h0 : 0 < ms.length := List.length_pos_iff.mpr (of_decide_eq_false z)
    have eM : (ms.map V.int).length = ms.length := List.length_map ..
    refine ⟨_, .inl (SqL.of (gq _ _ hm1)), p, _, rfl, by omega, by omega, P1.upd zq, fun x H3 x0 x1 P3 e3 => ?_⟩
    obtain ⟨j, rfl⟩ := Int.eq_ofNat_of_zero_le x0
    have hm3 := e3 _ _ nmp' (gq _ _ hm1)
    have hv3 := (hv1.same gq).exc (P1.upd zq) e3
    have e13 := (e1.same gq).trans e3
    refine ⟨_, _, rfl, SqL.of hm3, _, nth_at (by omega), by decide, fun q2 zq2 => ⟨p, _, rfl, by decide, by decide, P3.upd zq2, fun y H4 y0 y1 P4 e4 => ?_⟩⟩
    have g2 := (Same.refl H3).upd (o := .tup [V.int 1, V.int (-1), V.int 2]) zq2
    have hm4 := e4 _ _ nmp' (g2 _ _ hm3)
    obtain ⟨k, ek⟩ : ∃ k : Int, atI [V.int 1, V.int (-1), V.int 2] y = some (V.int k) := by
      rcases (by omega : y = 0 ∨ y = 1 ∨ y = 2) with rfl | rfl | rfl <;> exact ⟨_, rfl⟩
    refine ⟨_, _, rfl, SqT.of (e4 _ _ (P3.ne zq2) upd_same), _, ek, _, rfl, _, rfl, _, _, rfl, hm4, j, ixN_nat (by omega), ?_⟩
    rw [← List.map_set]
    exact hR _ _ ⟨ms.set j _, _, rfl, by simp, upd_same, P4.updN nmp', ((e13.same g2).trans e4).updN zm, ((hv3.same g2).exc (P3.upd zq2) e4).updL hm4⟩
  clear P1 e1 hm1 hv1 H1
  rintro σ H1 ⟨ms1, v7, rfl, el1, hm1, P1, e1, hv1⟩
  refine seqR (fun σ Hx => ∃ (m2 : Addr) (ms' : List Int), σ = [some (.ref p), some (.ref t), some (.ref c), some (.int far2), some (.ref m2), some v, some (.int d), v7, none] ∧ H0 m2 = none ∧ ms'.length ≤ ms.length ∧ Hx m2 = some (.lst (ms'.map V.int)) ∧ PotAt Hx p ∧ Exc p H0 Hx ∧ PairAt Hx v pr) (fun R hR => ?_) ?_
  · walk_at "rd"
    refine ite2 (fun _ => ⟨_, SqL.of hm1, fun q zq => ?_⟩) fun _ => hR _ _ ⟨m', ms1, rfl, zm, by omega, hm1, P1, e1, hv1⟩
    obtain ⟨ys, ey, hy⟩ := cut_ints ms1 none (some (-1))
    rw [ey]
    have gq := (Same.refl H1).upd (o := .lst (ys.map V.int)) zq
    exact hR _ _ ⟨q, ys, rfl, e1.free (P1.ne zq) zq, by omega, upd_same, P1.upd zq, e1.same gq, hv1.same gq⟩
  clear P1 e1 hm1 hv1 H1 zm nmp'
  rintro σ H1 ⟨m2, ms2, rfl, zm, el2, hm1, P1, e1, hv1⟩
  refine seqR (fun σ Hx => ∃ (m2 : Addr) (ms' : List Int), σ = [some (.ref p), some (.ref t), some (.ref c), some (.int far2), some (.ref m2), some v, some (.int d), v7, none] ∧ H0 m2 = none ∧ ms'.length ≤ 1000 ∧ Hx m2 = some (.lst (ms'.map V.int)) ∧ PotAt Hx p ∧ Exc p H0 Hx ∧ PairAt Hx v pr) (fun R hR => ?_) ?_
  · walk_at "rd"
    exact ite2 (fun _ => ⟨p, t, T', rfl, P1, e1 _ _ npt ht, hG, TabH.exc hTb hP e1, fun r ns H2 zr hn hr2 P2 e2 => hR _ _ ⟨r, ns, rfl, e1.free (P1.ne zr) zr, by omega, hr2, P2, e1.trans e2, hv1.exc P1 e2⟩⟩) fun _ => hR _ _ ⟨m2, ms2, rfl, zm, by omega, hm1, P1, e1, hv1⟩
  clear P1 e1 hm1 hv1 H1 zm
  rintro σ H1 ⟨m3, ms3, rfl, zm, el3, hm1, P1, e1, hv1⟩
  have nmp' : m3 ≠ p := hP.ne zm
  refine seqR (fun σ Hx => ∃ (v' : V) (v8 : Option V) (pr' : Option (Int × Int)), σ = [some (.ref p), some (.ref t), some (.ref c), some (.int far2), some (.ref m3), some v', some (.int d), v7, v8] ∧ Hx m3 = some (.lst (ms3.map V.int)) ∧ PotAt Hx p ∧ Exc p H0 Hx ∧ PairAt Hx v' pr') (fun R hR => ?_) ?_
  · walk_at "rd"
    refine ite2 (fun _ => ⟨by decide, fun q1 z1 => ?_⟩) fun _ => hR _ _ ⟨v, none, pr, rfl, hm1, P1, e1, hv1⟩
    have ht1 := e1 _ _ npt ht
    have c59 : CPow 10 59 := ⟨by decide, by decide, by decide⟩
    have g1 := (Same.refl H1).upd (o := .tup [V.int (-1), V.int 0]) z1
    have w1 := upd_same (H := H1) (a := q1) (o := .tup [V.int (-1), V.int 0])
    generalize upd H1 q1 (.tup [V.int (-1), V.int 0]) = Ha at g1 w1 ⊢
    refine ⟨by decide, fun q2 z2 => ?_⟩
    have h2 := (Same.refl Ha).upd (o := .tup [V.int 0, V.int 0]) z2
    have w2 := upd_same (H := Ha) (a := q2) (o := .tup [V.int 0, V.int 0])
    generalize upd Ha q2 (.tup [V.int 0, V.int 0]) = Hb at h2 w2 ⊢
    have g2 := g1.trans h2
    have w1 := h2 _ _ w1
    refine ⟨c59, by decide, fun q3 z3 => ?_⟩
    generalize (10 : Int) ^ Int.toNat 59 = big
    have h3 := (Same.refl Hb).upd (o := .tup [V.int big, V.int 0]) z3
    have w3 := upd_same (H := Hb) (a := q3) (o := .tup [V.int big, V.int 0])
    generalize upd Hb q3 (.tup [V.int big, V.int 0]) = Hc at h3 w3 ⊢
    have g3 := g2.trans h3
    have w1 := h3 _ _ w1
    have w2 := h3 _ _ w2
    refine ⟨_, .inr (SqT.of (g3 _ _ ht1)), by decide, fun q4 z4 => ?_⟩
    rw [eL]
    have h4 := (Same.refl Hc).upd (o := .tup [V.int 0, V.int (T'.length : Int)]) z4
    have w4 := upd_same (H := Hc) (a := q4) (o := .tup [V.int 0, V.int (T'.length : Int)])
    generalize upd Hc q4 (.tup [V.int 0, V.int (T'.length : Int)]) = Hd at h4 w4 ⊢
    have g4 := g3.trans h4
    have w1 := h4 _ _ w1
    have w2 := h4 _ _ w2
    have w3 := h4 _ _ w3
    refine ⟨by decide, fun q5 z5 => ?_⟩
    have h5 := (Same.refl Hd).upd (o := .lst [V.non, V.ref q1, V.ref q2, V.ref q3, V.ref q4]) z5
    have w5 := upd_same (H := Hd) (a := q5) (o := .lst [V.non, V.ref q1, V.ref q2, V.ref q3, V.ref q4])
    generalize upd Hd q5 (.lst [V.non, V.ref q1, V.ref q2, V.ref q3, V.ref q4]) = He at h5 w5 ⊢
    have g5 := g4.trans h5
    have w1 := h5 _ _ w1
    have w2 := h5 _ _ w2
    have w3 := h5 _ _ w3
    have w4 := h5 _ _ w4
    refine ⟨t, T', rfl, g5 _ _ ht1, hG, fun w as zs H2 zw hw hpr hal hmem s2 => ⟨w, rfl, _, SqL.of (s2 _ _ w5), ?_⟩⟩
    refine ⟨_, SqL.of hw, Nat.le_trans (show _ ≤ 100000 by simp; omega) (by decide), fun q6 z6 => ?_⟩
    have hall : ∀ x ∈ [V.non, V.ref q1, V.ref q2, V.ref q3, V.ref q4] ++ as.map V.ref, ∃ pr', PairAt H2 x pr' := fun x hx => by
      rcases List.mem_append.mp hx with hx | hx
      · simp only [List.mem_cons, List.not_mem_nil, or_false] at hx
        rcases hx with rfl | rfl | rfl | rfl | rfl
        · exact ⟨none, rfl⟩
        · exact ⟨some (-1, 0), q1, rfl, s2 _ _ w1⟩
        · exact ⟨some (0, 0), q2, rfl, s2 _ _ w2⟩
        · exact ⟨some (big, 0), q3, rfl, s2 _ _ w3⟩
        · exact ⟨some (0, (T'.length : Int)), q4, rfl, s2 _ _ w4⟩
      · obtain ⟨a, ha, rfl⟩ := List.mem_map.mp hx
        obtain ⟨i, hi, e⟩ := List.getElem_of_mem ha
        have el := hpr.1
        have := hpr.2 i a _ (by rw [List.getElem?_eq_getElem hi, e]) (List.getElem?_eq_getElem (by omega))
        exact ⟨some (_, _), a, rfl, this⟩
    have hlen : ([V.non, V.ref q1, V.ref q2, V.ref q3, V.ref q4] ++ as.map V.ref).length = as.length + 5 := by simp
    generalize [V.non, V.ref q1, V.ref q2, V.ref q3, V.ref q4] ++ as.map V.ref = L at hall hlen ⊢
    have h6 := (Same.refl H2).upd (o := .lst L) z6
    have w6 := upd_same (H := H2) (a := q6) (o := .lst L)
    generalize upd H2 q6 (.lst L) = Hf at h6 w6 ⊢
    have g6 := g5.trans (s2.trans h6)
    have P6 := P1.same g6
    refine ⟨_, .inl (SqL.of w6), p, _, rfl, by omega, by omega, P6, fun y H7 y0 y1 P7 e7 => ?_⟩
    obtain ⟨j, rfl⟩ := Int.eq_ofNat_of_zero_le y0
    have hjL : j < L.length := by omega
    have nq : q6 ≠ p := (P1.same (g5.trans s2)).ne z6
    obtain ⟨pr', hp'⟩ := hall _ (List.getElem_mem hjL)
    exact ⟨_, _, rfl, SqL.of (e7 _ _ nq w6), _, atI_at rfl hjL, hR _ _ ⟨_, _, pr', rfl, e7 _ _ nmp' (g6 _ _ hm1), P7, (e1.same g6).trans e7, (hp'.same h6).exc P6 e7⟩⟩
  clear P1 e1 hm1 hv1 H1
  rintro σ H1 ⟨v', v8, pr1, rfl, hm1, P1, e1, hv1⟩
  refine seqR (fun σ Hx => ∃ (v' : V) (pr' : Option (Int × Int)), σ = [some (.ref p), some (.ref t), some (.ref c), some (.int far2), some (.ref m3), some v', some (.int d), v7, v8] ∧ Hx m3 = some (.lst (ms3.map V.int)) ∧ PotAt Hx p ∧ Exc p H0 Hx ∧ PairAt Hx v' pr') (fun R hR => ?_) ?_
  · walk_at "rd"
    refine ite2 (fun _ => ite2 (fun z => ?_) fun _ => hR _ _ ⟨v', pr1, rfl, hm1, P1, e1, hv1⟩) fun _ => hR _ _ ⟨v', pr1, rfl, hm1, P1, e1, hv1⟩
    cases pr1 with
    | none => exact absurd (show v' = .non from hv1) z
    | some zz =>
      obtain ⟨a, rfl, ha⟩ := hv1
      refine ⟨a, rfl, _, SqT.of ha, _, rfl, a, rfl, _, SqT.of ha, _, rfl, by decide, fun q zq => ?_⟩
      have gq := (Same.refl H1).upd (o := .tup [V.int zz.2, V.int zz.1]) zq
      exact hR _ _ ⟨_, some (zz.2, zz.1), rfl, gq _ _ hm1, P1.upd zq, e1.same gq, ⟨q, rfl, upd_same⟩⟩
  clear P1 e1 hm1 hv1 H1
  rintro σ H1 ⟨v2, pr2, rfl, hm1, P1, e1, hv1⟩
  walk_at "rd"
  refine ⟨by decide, fun u zu => ?_⟩
  have gu := (Same.refl H1).upd (o := .tup [V.int far2, V.ref m3, v2]) zu
  exact k1 u m3 far2 v2 ms3 pr2 _ zm el3 (hv1.same gu) upd_same (gu _ _ hm1) (P1.upd zu) (e1.same gu)

theorem ok_law {f : Addr} {fd : FuncData} (F : Fun K "law" "law" s_law f fd) (G_nearest_right : Callee P w K mg base "nearest_right" 6 ["tree", "row", "far", "made", "pair"] (sp_nearest_right K mg)) (G__law_deal : Callee P w K mg base "_law_deal" 1 ["script", "k"] (sp__law_deal K mg)) (G__law_take : Callee P w K mg base "_law_take" 1 ["pot", "many"] (sp__law_take K mg)) (G__law_tree : Callee P w K mg base "_law_tree" 2 ["row"] (sp__law_tree K mg)) (G__law_either : Callee P w K mg base "_law_either" 2 ["pot", "some"] (sp__law_either K mg)) (G__law_wide_row : Callee P w K mg base "_law_wide_row" 3 ["pot"] (sp__law_wide_row K mg)) (G__law_any_row : Callee P w K mg base "_law_any_row" 6 ["pot", "tree"] (sp__law_any_row K mg)) (G__law_is_so : Callee P w K mg base "_law_is_so" 3 ["tree", "row", "far", "made", "pair"] (sp__law_is_so K mg)) (G__law_bent : Callee P w K mg base "_law_bent" 6 ["pot", "tree", "parts"] (sp__law_bent K mg)) (G__law_parts : Callee P w K mg base "_law_parts" 4 ["tree", "row"] (sp__law_parts K mg)) (T : Txt K mg) : FnOk P w K mg base (CXE P w) 7 f fd ["script"] (spLaw K mg) := by
  refine F.okX sc_law (fun vs H Q E h => ?_) (fun cdv A outer s H vs Q E hr h => ?_)
  · obtain ⟨a, ns, rfl, _⟩ := h; rfl
  obtain ⟨sc, ss, rfl, hsc, hss, hTT, k1⟩ := h
  have hTb : TabH K mg "_law_kin_row" H := hTT (tabP K mg "_law_kin_row", lamQ "_law_kin_row") (by unfold tabsL; simp)
  refine ⟨_, (pss_cons (ps_nox (ps_for PassesOwn.never rfl (pi_range1 rfl T.b_range (pa_cons (pe_callB (call_max2 rfl) rfl T.b_max bt_max (pa_cons pe_int (pa_cons (pe_callB (call_min2 rfl) rfl T.b_min bt_min (pa_cons (pe_callB (call_lenK (K := K) rfl) rfl T.b_len PySem.boot_len (pa_cons (pv 0) pa_nil)) (pa_cons pe_int pa_nil))) pa_nil))) pa_nil)) (pg_name (i := 1) sc_law.nd rfl (Or.inl rfl)) (pss_cons (ps_set (i := 2) sc_law.nd rfl (Or.inl rfl) (pe_callF G__law_deal (hr.mono (by decide)) rfl passE (pa_cons (pv 0) (pa_cons (pv 1) pa_nil))))
      (pss_cons (ps_set (i := 3) sc_law.nd rfl (Or.inl rfl) (pe_callF G__law_tree (hr.mono (by decide)) rfl passE (pa_cons (pe_callF G__law_wide_row (hr.mono (by decide)) rfl passE (pa_cons (pv 2) pa_nil)) pa_nil)))
      (pss_cons (ps_set (i := 4) sc_law.nd rfl (Or.inl rfl) (pe_callF G__law_any_row (hr.mono (by decide)) rfl passE (pa_cons (pv 2) (pa_cons (pv 3) pa_nil))))
      (pss_cons (ps_set (i := 5) sc_law.nd rfl (Or.inl rfl) (pe_callF G__law_parts (hr.mono (by decide)) rfl passE (pa_cons (pv 3) (pa_cons (pv 4) pa_nil))))
      (pss_cons (ps_if (pt_not (pt_val (pe_callF G__law_is_so (hr.mono (by decide)) rfl passE (pa_cons (pv 3) (pa_cons (pv 4) (pa_cons (pe_ix ix_tup (pv 5) pe_int (fun _ _ => rfl)) (pa_cons (pe_ix ix_tup (pv 5) pe_int (fun _ _ => rfl)) (pa_cons (pe_ix ix_tup (pv 5) pe_int (fun _ _ => rfl)) pa_nil)))))))) (pss_one (ps_ret pe_bl)) pss_nil)
      (pss_one (ps_nox (ps_for PassesOwn.never rfl (pi_range1 rfl T.b_range (pa_cons (pe_ix ix_tup (pe_tup (pa_cons pe_int (pa_cons pe_int pa_nil))) (pe_callTy call_intB rfl T.b_int bt_int (pa_cons (pe_cmpR op_gt (pe_callB (call_lenK (K := K) rfl) rfl T.b_len PySem.boot_len (pa_cons (pv 3) pa_nil)) pe_int (nomark _)) pa_nil)) (fun _ _ => rfl)) pa_nil)) (pg_name (i := 6) sc_law.nd rfl (Or.inl rfl)) (pss_cons (ps_asg (pv 5) (pg_tup (n := 3) rfl (pgs_cons (pg_name (i := 7) sc_law.nd rfl (Or.inl rfl)) (pgs_cons (pg_name (i := 8) sc_law.nd rfl (Or.inl rfl)) (pgs_cons (pg_name (i := 9) sc_law.nd rfl (Or.inl rfl)) pgs_nil)))))
      (pss_cons (ps_nox (ps_for PassesOwn.never rfl (pi_range1 rfl T.b_range (pa_cons (pe_callB (call_min2 rfl) rfl T.b_min bt_min (pa_cons (pv 6) (pa_cons (pe_op op_add pe_int (pe_callF G__law_take (hr.mono (by decide)) rfl passE (pa_cons (pv 2) (pa_cons pe_int pa_nil)))) pa_nil))) pa_nil)) (pg_name (i := 10) sc_law.nd rfl (Or.inl rfl)) (pss_one (ps_asg (pe_callF G__law_bent (hr.mono (by decide)) rfl passE (pa_cons (pv 2) (pa_cons (pv 3) (pa_cons (pe_tup (pa_cons (pv 7) (pa_cons (pv 8) (pa_cons (pv 9) pa_nil)))) pa_nil)))) (pg_tup (n := 3) rfl (pgs_cons (pg_name (i := 7) sc_law.nd rfl (Or.inl rfl)) (pgs_cons (pg_name (i := 8) sc_law.nd rfl (Or.inl rfl)) (pgs_cons (pg_name (i := 9) sc_law.nd rfl (Or.inl rfl)) pgs_nil))))))))
      (pss_cons (ps_set (i := 11) sc_law.nd rfl (Or.inl rfl) (pe_tup (pa_cons (pe_callF G__law_either (hr.mono (by decide)) rfl passE (pa_cons (pv 2) (pa_cons (pv 4) pa_nil))) (pa_cons (pe_callF G__law_either (hr.mono (by decide)) rfl passE (pa_cons (pv 2) (pa_cons (pv 8) pa_nil))) pa_nil))))
      (pss_cons (ps_set (i := 12) sc_law.nd rfl (Or.inl rfl) (pe_callF G_nearest_right (hr.mono (by decide)) rfl passE (pa_cons (pv 3) (pa_cons (pe_ix ix_tup (pv 11) pe_int (fun _ _ => rfl)) (pa_cons (pv 7) (pa_cons (pe_ix ix_tup (pv 11) pe_int (fun _ _ => rfl)) (pa_cons (pv 9) pa_nil)))))))
      (pss_cons (ps_if (PW.pt (pw_or (pt_not (pt_val (pe_callB (call_isiK (K := K) rfl) rfl T.b_isinstance bt_isinstance (pa_cons (pv 12) (pa_cons (pe_bltn (v := .ty "bool") rfl T.b_bool bt_bool rfl) pa_nil))))) (pw_or1 (pt_cmpR op_ne (pv 12) (pe_callF G__law_is_so (hr.mono (by decide)) rfl passE (pa_cons (pv 3) (pa_cons (pv 4) (pa_cons (pv 7) (pa_cons (pv 8) (pa_cons (pv 9) pa_nil)))))) (nomark _))))) (pss_one (ps_ret pe_bl)) pss_nil)
      (pss_one (ps_if (PW.pt (pw_or (pt_cmpR (op_neD (K := K) rfl hr) (pe_callTy (call_listK (K := K) rfl) rfl T.b_list bt_list (pa_cons (pe_ix ix_tup (pv 11) pe_int (fun _ _ => rfl)) pa_nil)) (pv 4) (nomark _)) (pw_or1 (pt_cmpR (op_neD (K := K) rfl hr) (pe_callTy (call_listK (K := K) rfl) rfl T.b_list bt_list (pa_cons (pe_ix ix_tup (pv 11) pe_int (fun _ _ => rfl)) pa_nil)) (pe_callTy (call_listK (K := K) rfl) rfl T.b_list bt_list (pa_cons (pv 8) pa_nil)) (nomark _))))) (pss_one (ps_ret pe_bl)) pss_nil)))))))))))))))))
      (pss_one (ps_ret pe_bl))), ?_⟩
  walk_at "rd"
  have el : (ss.map V.int).length = ss.length := List.length_map ..
  refine ⟨_, .inl hsc, by split <;> (try split) <;> omega, by split <;> (try split) <;> omega, ?_⟩
  rw [el]
  obtain ⟨nn, hnn, nn1⟩ : ∃ nn : Nat, (if (if (6 : Int) < (ss.length : Int) then (6 : Int) else (ss.length : Int)) > 2 then (if (6 : Int) < (ss.length : Int) then (6 : Int) else (ss.length : Int)) else 2).toNat = nn ∧ nn ≤ 6 := ⟨_, rfl, by split <;> (try split) <;> omega⟩
  rw [hnn]
  refine for_range (fun i σ Hx => ∃ v1 v2 v3 v4 v5 v6 v7 v8 v9 v10 v11 v12, σ = [some (.ref sc), v1, v2, v3, v4, v5, v6, v7, v8, v9, v10, v11, v12] ∧ Same H Hx) ⟨_, _, _, _, _, _, _, _, _, _, _, _, rfl, Same.refl H⟩ ?_ ?_
  · rintro i σ H' hi ⟨v1, v2, v3, v4, v5, v6, v7, v8, v9, v10, v11, v12, rfl, hs⟩
    generalize hk : (0 : Int) + (i : Int) = kk
    have hk0 : 0 ≤ kk ∧ kk ≤ 100 := by omega
    refine seqR (fun σ Hx => ∃ p, σ = [some (.ref sc), some (.int kk), some (.ref p), v3, v4, v5, v6, v7, v8, v9, v10, v11, v12] ∧ H' p = none ∧ PotAt Hx p ∧ Same H' Hx) (fun R hR => ?_) ?_
    · walk_at "rd"
      exact ⟨sc, ss, kk, rfl, hs.seq hsc, hk0.1, hk0.2, fun p H1 hp s1 P1 => hR _ _ ⟨p, rfl, hp, P1, s1⟩⟩
    rintro σ H1 ⟨p, rfl, zp, P1, s1⟩
    refine seqR (fun σ Hx => ∃ (t : Addr) (T : List Int), σ = [some (.ref sc), some (.int kk), some (.ref p), some (.ref t), v4, v5, v6, v7, v8, v9, v10, v11, v12] ∧ GoodT T ∧ Hx t = some (.tup (T.map V.int)) ∧ PotAt Hx p ∧ Same H' Hx) (fun R hR => ?_) ?_
    · walk_at "rd"
      exact ⟨p, rfl, P1, fun r ns H2 zr hn hr2 P2 e2 => ⟨r, ns, rfl, .inl (SqL.of hr2), by omega, fun t es H3 hE s3 ht => hR _ _ ⟨t, es, rfl, ⟨by have := hE.1; omega, ns, hE⟩, ht, P2.same s3, (s1.exc zp e2).trans s3⟩⟩⟩
    clear P1 s1 H1
    rintro σ H2 ⟨t, T', rfl, hG, ht2, P2, s2⟩
    have h40 := hG.1
    have eL : (T'.map V.int).length = T'.length := List.length_map ..
    refine seqR (fun σ Hx => ∃ (r : Addr) (ns : List Int), σ = [some (.ref sc), some (.int kk), some (.ref p), some (.ref t), some (.ref r), v5, v6, v7, v8, v9, v10, v11, v12] ∧ r ≠ p ∧ ns.length = T'.length ∧ Hx t = some (.tup (T'.map V.int)) ∧ Hx r = some (.lst (ns.map V.int)) ∧ PotAt Hx p ∧ Same H' Hx) (fun R hR => ?_) ?_
    · walk_at "rd"
      exact ⟨p, t, T', rfl, P2, ht2, hG, TabH.same hTb (hs.trans s2), fun r ns H3 zr hn hr3 P3 e3 => hR _ _ ⟨r, ns, rfl, P2.ne zr, hn, e3 _ _ (pot_tup P2 ht2) ht2, hr3, P3, s2.exc zp e3⟩⟩
    clear P2 s2 ht2
    rintro σ H3 ⟨r, ns, rfl, nrp, hnl, ht3, hr3, P3, s3⟩
    have npt : t ≠ p := pot_tup P3 ht3
    refine seqR (fun σ Hx => ∃ (u m : Addr) (far : Int) (v : V) (ms : List Int) (pr : Option (Int × Int)), σ = [some (.ref sc), some (.int kk), some (.ref p), some (.ref t), some (.ref r), some (.ref u), v6, v7, v8, v9, v10, v11, v12] ∧ m ≠ p ∧ ms.length = T'.length ∧ rightN T' ns far ms pr ∧ PairAt Hx v pr ∧ Hx u = some (.tup [.int far, .ref m, v]) ∧ Hx m = some (.lst (ms.map V.int)) ∧ Same H3 Hx) (fun R hR => ?_) ?_
    · walk_at "rd"
      exact ⟨t, r, T', ns, rfl, ht3, hr3, hG, hnl, fun u m far v ms pr H4 zm hml hri hv hu hm s4 => hR _ _ ⟨u, m, far, v, ms, pr, rfl, P3.ne zm, hml, hri, hv, hu, hm, s4⟩⟩
    rintro σ H4 ⟨u, m, far, v, ms, pr, rfl, nmp, hml, hri, hv, hu, hm, s4⟩
    refine seqR (fun σ Hx => σ = [some (.ref sc), some (.int kk), some (.ref p), some (.ref t), some (.ref r), some (.ref u), v6, v7, v8, v9, v10, v11, v12] ∧ Same H4 Hx) (fun R hR => ?_) ?_
    · walk_at "rd"
      exact ⟨_, SqT.of hu, _, rfl, _, SqT.of hu, _, rfl, _, SqT.of hu, _, rfl, t, r, m, far, v, T', ns, ms, pr, rfl, s4 _ _ ht3, s4 _ _ hr3, hm, hv, hG, hnl, by omega, fun z H5 hz s5 => ⟨z, rfl, ite2 (fun y => absurd (hz.mpr hri) (by rw [y]; decide)) fun _ => hR _ _ ⟨rfl, s5⟩⟩⟩
    rintro σ H5 ⟨rfl, s5⟩
    have s45 := s4.trans s5
    have ht5 := s45 _ _ ht3
    have hr5 := s45 _ _ hr3
    have hu5 := s5 _ _ hu
    have hm5 := s5 _ _ hm
    have hv5 := hv.same s5
    have P5 := P3.same s45
    have npu : u ≠ p := pot_tup P5 hu5
    have s05 := s3.trans s45
    clear hu hm hv s5 s4 s45 s3 ht3 hr3 P3 hri
    clear H4 H3
    have hTb5 : TabH K mg "_law_kin_row" H5 := TabH.same hTb (hs.trans s05)
    walk_at "rd"
    refine ⟨by decide, fun q zq => ?_⟩
    have gq := (Same.refl H5).upd (o := .tup [V.int 12, V.int 5]) zq
    obtain ⟨nt, ent, hnt⟩ : ∃ nt : Nat, atI [V.int 12, V.int 5] (if 12 < ((T'.map V.int).length : Int) then 1 else 0) = some (V.int (nt : Int)) ∧ nt ≤ 12 := by
      split
      · exact ⟨5, rfl, by omega⟩
      · exact ⟨12, rfl, by omega⟩
    refine ⟨_, .inr (SqT.of (gq _ _ ht5)), _, SqT.of upd_same, _, ent, _, rfl, by omega, by omega, ?_⟩
    rw [show ((nt : Nat) : Int).toNat = nt by omega]
    generalize upd H5 q (.tup [V.int 12, V.int 5]) = H6 at gq ⊢
    refine for_range (fun j σ Hx => ∃ w6 w7 w8 w9 w10 w11 w12, σ = [some (.ref sc), some (.int kk), some (.ref p), some (.ref t), some (.ref r), some (.ref u), w6, w7, w8, w9, w10, w11, w12] ∧ PotAt Hx p ∧ Exc p H5 Hx) ⟨_, _, _, _, _, _, _, rfl, P5.same gq, gq.toExc⟩ ?_ ?_
    · rintro j σ Hx hj ⟨w6, w7, w8, w9, w10, w11, w12, rfl, Px, ex⟩
      generalize hjj : (0 : Int) + (j : Int) = jj
      have hj0 : 0 ≤ jj ∧ jj ≤ 12 := by omega
      refine seqR (fun σ Hy => σ = [some (.ref sc), some (.int kk), some (.ref p), some (.ref t), some (.ref r), some (.ref u), some (.int jj), some (.int far), some (.ref m), some v, w10, w11, w12] ∧ Hy = Hx) (fun R hR => ?_) ?_
      · walk_at "rd"
        exact ⟨_, SqT.of (ex _ _ npu hu5), rfl, _, _, rfl, _, _, rfl, _, _, rfl, rfl, hR _ _ ⟨rfl, rfl⟩⟩
      rintro σ Hy ⟨rfl, rfl⟩
      refine seqR (fun σ Hz => ∃ (far' : Int) (m' : Addr) (v' : V) (ms' : List Int) (pr' : Option (Int × Int)) (w10 : Option V), σ = [some (.ref sc), some (.int kk), some (.ref p), some (.ref t), some (.ref r), some (.ref u), some (.int jj), some (.int far'), some (.ref m'), some v', w10, w11, w12] ∧ m' ≠ p ∧ ms'.length ≤ 1000 ∧ PairAt Hz v' pr' ∧ Hz m' = some (.lst (ms'.map V.int)) ∧ PotAt Hz p ∧ Exc p H5 Hz) (fun R hR => ?_) ?_
      · walk_at "rd"
        refine ⟨p, _, rfl, by decide, by decide, Px, fun d H7 d0 d1 P7 e7 => ⟨_, rfl, by split <;> omega, by split <;> omega, ?_⟩⟩
        refine for_range (fun b σ Hz => ∃ (far' : Int) (m' : Addr) (v' : V) (ms' : List Int) (pr' : Option (Int × Int)) (w10 : Option V), σ = [some (.ref sc), some (.int kk), some (.ref p), some (.ref t), some (.ref r), some (.ref u), some (.int jj), some (.int far'), some (.ref m'), some v', w10, w11, w12] ∧ m' ≠ p ∧ ms'.length ≤ 1000 ∧ PairAt Hz v' pr' ∧ Hz m' = some (.lst (ms'.map V.int)) ∧ PotAt Hz p ∧ Exc p H5 Hz) ⟨far, m, v, ms, pr, w10, rfl, nmp, by omega, hv5.exc P5 (ex.trans e7), (ex.trans e7) _ _ nmp hm5, P7, ex.trans e7⟩ ?_ (fun σ Hz z => hR _ _ z)
        rintro b σ Hz hb ⟨far', m', v', ms', pr', w10', rfl, nmp', hml', hv', hm', Pz, ez⟩
        walk_at "rd"
        refine ⟨by decide, fun q2 zq2 => ?_⟩
        have g2 := (Same.refl Hz).upd (o := .tup [V.int far', V.ref m', v']) zq2
        refine ⟨p, t, q2, m', far', v', T', ms', pr', rfl, Pz.upd zq2, g2 _ _ (ez _ _ npt ht5), upd_same, g2 _ _ hm', nmp', hv'.same g2, hG, hml', (TabH.exc hTb5 P5 ez).same g2, fun u2 m2 far2 v2 ms2 pr2 H8 zm2 hl2 hv2 hu2 hm2 P8 e8 => ?_⟩
        exact ⟨u2, rfl, _, SqT.of hu2, rfl, _, _, rfl, _, _, rfl, _, _, rfl, rfl, _, rfl, _, rfl, (Pz.upd zq2).ne zm2, _, hl2, _, hv2, hm2, P8, (ez.same g2).trans e8⟩
      clear Px ex
      rintro σ Hx ⟨far1, m1, v1', ms1, pr1, w10', rfl, nmp1, hml1, hv1, hm1, Px, ex⟩
      walk_at "rd"
      have seq : ∀ {H9 : Hp} {q : Addr} {xs : List Int}, (H9 q = some (.lst (xs.map V.int)) ∨ H9 q = some (.tup (xs.map V.int))) → SqL K H9 q (xs.map V.int) ∨ SqT K H9 q (xs.map V.int) := fun h => h.imp SqL.of SqT.of
      refine ⟨p, r, ns, rfl, Px, nrp, ex _ _ nrp hr5, by omega, fun u1 H8 zu1 hu1 P8 e8 => ⟨p, m1, ms1, rfl, P8, nmp1, e8 _ _ nmp1 hm1, hml1, fun u2 H9 zu2 hu2 P9 e9 => ⟨by decide, fun hh zh => ?_⟩⟩⟩
      have gg := (Same.refl H9).upd (o := .tup [V.ref u1, V.ref u2]) zh
      have hhy := upd_same (H := H9) (a := hh) (o := .tup [V.ref u1, V.ref u2])
      have n1 : u1 ≠ p := Px.ne zu1
      have hu1' := hu1.imp (fun z => gg _ _ (e9 _ _ n1 z)) (fun z => gg _ _ (e9 _ _ n1 z))
      have hu2' := hu2.imp (fun z => gg _ _ z) (fun z => gg _ _ z)
      have Py := P9.same gg
      have eA := (e8.trans e9).same gg
      generalize upd H9 hh (.tup [V.ref u1, V.ref u2]) = Hy at hhy hu1' hu2' Py eA ⊢
      have eB := ex.trans eA
      have hvy := hv1.exc Px eA
      refine ⟨_, SqT.of hhy, _, rfl, _, SqT.of hhy, _, rfl, t, u1, u2, far1, v1', T', ns, ms1, pr1, rfl, eB _ _ npt ht5, seq hu1', seq hu2', hvy, hG, hnl, hml1, fun z H10 hz s10 => ⟨true, ty_bb, ite2 (fun z => nomatch z) fun _ => ⟨t, r, m1, far1, v1', T', ns, ms1, pr1, rfl, s10 _ _ (eB _ _ npt ht5), s10 _ _ (eB _ _ nrp hr5), s10 _ _ (eA _ _ nmp1 hm1), hvy.same s10, hG, hnl, hml1, fun z2 H11 hz2 s11 => ⟨rfl, ite2 (fun n => absurd (congrArg V.bl (Bool.eq_iff_iff.mpr (hz.trans hz2.symm))) n) fun _ => ?_⟩⟩⟩⟩
      have sA := s10.trans s11
      refine ⟨_, SqT.of (sA _ _ hhy), _, rfl, u1, rfl, _, seq (hu1'.imp (sA _ _ ·) (sA _ _ ·)), fun q1 zq1 => ?_⟩
      have g1 := sA.upd' (o := .lst (ns.map V.int)) zq1
      have e1 := eqp_lst (n := 2) (K := K) (H := upd H11 q1 (.lst (ns.map V.int))) eqp_int (V.ref q1) (V.ref r) ns ns (isL_ints (SqL.of upd_same)) (isL_ints (SqL.of (g1 _ _ (eB _ _ nrp hr5))))
      generalize upd H11 q1 (.lst (ns.map V.int)) = H12 at g1 e1 ⊢
      refine ⟨_, e1, ite2 (fun z => absurd z (by simp)) fun _ => ⟨_, SqT.of (g1 _ _ hhy), _, rfl, u2, rfl, _, seq (hu2'.imp (g1 _ _ ·) (g1 _ _ ·)), fun q2 zq2 => ?_⟩⟩
      have g2 := g1.upd' (o := .lst (ms1.map V.int)) zq2
      have k2 := upd_same (H := H12) (a := q2) (o := .lst (ms1.map V.int))
      generalize upd H12 q2 (.lst (ms1.map V.int)) = H13 at g2 k2 ⊢
      have hm13 := g2 _ _ (eA _ _ nmp1 hm1)
      refine ⟨_, .inl (SqL.of hm13), fun q3 zq3 => ?_⟩
      have g3 := g2.upd' (o := .lst (ms1.map V.int)) zq3
      have h3 := (Same.refl H13).upd (o := .lst (ms1.map V.int)) zq3
      have e2 := eqp_lst (n := 2) (K := K) (H := upd H13 q3 (.lst (ms1.map V.int))) eqp_int (V.ref q2) (V.ref q3) ms1 ms1 (isL_ints (SqL.of (h3 _ _ k2))) (isL_ints (SqL.of upd_same))
      exact ⟨_, e2, ite2 (fun z => absurd z (by simp)) fun _ => ⟨Py.same g3, eB.same g3⟩⟩
    · rintro σ Hx ⟨w6, w7, w8, w9, w10, w11, w12, rfl, Px, ex⟩
      exact ⟨_, _, _, _, _, _, _, _, _, _, _, _, rfl, hs.trans (s05.exc zp ex)⟩
  · rintro σ Hx ⟨v1, v2, v3, v4, v5, v6, v7, v8, v9, v10, v11, v12, rfl, hs⟩
    walk_at "rd"
    exact k1 Hx

end
theorem all_mk {l : PySem.W.OpenLaw} {w : World} {K : PySem.W.Frag} {h : Heap} {mg : Str → Option Value} {fa : Addr} {ts : List Addr} (X : K.In h) (G : h.Ns mainGlobals mg) (hfa : mg "law" = some (.ref fa))
    {f_settle : Addr} {od_settle an_settle : Option Addr} {sl_settle : Array (Option Value)} {oc_settle kV_settle dc_settle pm_settle cd_settle ct_settle : Value}
    (a_settle : PySem.W.nsIn K mainGlobals "settle" = some (some (.ref f_settle))) (l_settle : K.lookup f_settle = some ⟨oc_settle, od_settle, .func (PySem.W.fnOf "settle" "settle" (defArgs s_settle) (defBody s_settle) (defScope s_settle) .none kV_settle dc_settle pm_settle an_settle cd_settle ct_settle), sl_settle⟩) (c_settle : PySem.W.codeIn K cd_settle "settle" = true) (k_settle : PySem.W.keepIn K (.ref f_settle) = true)
    {f_tree_of : Addr} {od_tree_of an_tree_of : Option Addr} {sl_tree_of : Array (Option Value)} {oc_tree_of kV_tree_of dc_tree_of pm_tree_of cd_tree_of ct_tree_of : Value}
    (a_tree_of : PySem.W.nsIn K mainGlobals "tree_of" = some (some (.ref f_tree_of))) (l_tree_of : K.lookup f_tree_of = some ⟨oc_tree_of, od_tree_of, .func (PySem.W.fnOf "tree_of" "tree_of" (defArgs s_tree_of) (defBody s_tree_of) (defScope s_tree_of) .none kV_tree_of dc_tree_of pm_tree_of an_tree_of cd_tree_of ct_tree_of), sl_tree_of⟩) (c_tree_of : PySem.W.codeIn K cd_tree_of "tree_of" = true) (k_tree_of : PySem.W.keepIn K (.ref f_tree_of) = true)
    {f_way_up : Addr} {od_way_up an_way_up : Option Addr} {sl_way_up : Array (Option Value)} {oc_way_up kV_way_up dc_way_up pm_way_up cd_way_up ct_way_up : Value}
    (a_way_up : PySem.W.nsIn K mainGlobals "way_up" = some (some (.ref f_way_up))) (l_way_up : K.lookup f_way_up = some ⟨oc_way_up, od_way_up, .func (PySem.W.fnOf "way_up" "way_up" (defArgs s_way_up) (defBody s_way_up) (defScope s_way_up) .none kV_way_up dc_way_up pm_way_up an_way_up cd_way_up ct_way_up), sl_way_up⟩) (c_way_up : PySem.W.codeIn K cd_way_up "way_up" = true) (k_way_up : PySem.W.keepIn K (.ref f_way_up) = true)
    {f_is_tree : Addr} {od_is_tree an_is_tree : Option Addr} {sl_is_tree : Array (Option Value)} {oc_is_tree kV_is_tree dc_is_tree pm_is_tree cd_is_tree ct_is_tree : Value}
    (a_is_tree : PySem.W.nsIn K mainGlobals "is_tree" = some (some (.ref f_is_tree))) (l_is_tree : K.lookup f_is_tree = some ⟨oc_is_tree, od_is_tree, .func (PySem.W.fnOf "is_tree" "is_tree" (defArgs s_is_tree) (defBody s_is_tree) (defScope s_is_tree) .none kV_is_tree dc_is_tree pm_is_tree an_is_tree cd_is_tree ct_is_tree), sl_is_tree⟩) (c_is_tree : PySem.W.codeIn K cd_is_tree "is_tree" = true) (k_is_tree : PySem.W.keepIn K (.ref f_is_tree) = true)
    {f_need_tree : Addr} {od_need_tree an_need_tree : Option Addr} {sl_need_tree : Array (Option Value)} {oc_need_tree kV_need_tree dc_need_tree pm_need_tree cd_need_tree ct_need_tree : Value}
    (a_need_tree : PySem.W.nsIn K mainGlobals "need_tree" = some (some (.ref f_need_tree))) (l_need_tree : K.lookup f_need_tree = some ⟨oc_need_tree, od_need_tree, .func (PySem.W.fnOf "need_tree" "need_tree" (defArgs s_need_tree) (defBody s_need_tree) (defScope s_need_tree) .none kV_need_tree dc_need_tree pm_need_tree an_need_tree cd_need_tree ct_need_tree), sl_need_tree⟩) (c_need_tree : PySem.W.codeIn K cd_need_tree "need_tree" = true) (k_need_tree : PySem.W.keepIn K (.ref f_need_tree) = true)
    {f_flat_number : Addr} {od_flat_number an_flat_number : Option Addr} {sl_flat_number : Array (Option Value)} {oc_flat_number kV_flat_number dc_flat_number pm_flat_number cd_flat_number ct_flat_number : Value}
    (a_flat_number : PySem.W.nsIn K mainGlobals "flat_number" = some (some (.ref f_flat_number))) (l_flat_number : K.lookup f_flat_number = some ⟨oc_flat_number, od_flat_number, .func (PySem.W.fnOf "flat_number" "flat_number" (defArgs s_flat_number) (defBody s_flat_number) (defScope s_flat_number) .none kV_flat_number dc_flat_number pm_flat_number an_flat_number cd_flat_number ct_flat_number), sl_flat_number⟩) (c_flat_number : PySem.W.codeIn K cd_flat_number "flat_number" = true) (k_flat_number : PySem.W.keepIn K (.ref f_flat_number) = true)
    {f_flattest : Addr} {od_flattest an_flattest : Option Addr} {sl_flattest : Array (Option Value)} {oc_flattest kV_flattest dc_flattest pm_flattest cd_flattest ct_flattest : Value}
    (a_flattest : PySem.W.nsIn K mainGlobals "flattest" = some (some (.ref f_flattest))) (l_flattest : K.lookup f_flattest = some ⟨oc_flattest, od_flattest, .func (PySem.W.fnOf "flattest" "flattest" (defArgs s_flattest) (defBody s_flattest) (defScope s_flattest) .none kV_flattest dc_flattest pm_flattest an_flattest cd_flattest ct_flattest), sl_flattest⟩) (c_flattest : PySem.W.codeIn K cd_flattest "flattest" = true) (k_flattest : PySem.W.keepIn K (.ref f_flattest) = true)
    {f_heights_of : Addr} {od_heights_of an_heights_of : Option Addr} {sl_heights_of : Array (Option Value)} {oc_heights_of kV_heights_of dc_heights_of pm_heights_of cd_heights_of ct_heights_of : Value}
    (a_heights_of : PySem.W.nsIn K mainGlobals "heights_of" = some (some (.ref f_heights_of))) (l_heights_of : K.lookup f_heights_of = some ⟨oc_heights_of, od_heights_of, .func (PySem.W.fnOf "heights_of" "heights_of" (defArgs s_heights_of) (defBody s_heights_of) (defScope s_heights_of) .none kV_heights_of dc_heights_of pm_heights_of an_heights_of cd_heights_of ct_heights_of), sl_heights_of⟩) (c_heights_of : PySem.W.codeIn K cd_heights_of "heights_of" = true) (k_heights_of : PySem.W.keepIn K (.ref f_heights_of) = true)
    {f_is_over : Addr} {od_is_over an_is_over : Option Addr} {sl_is_over : Array (Option Value)} {oc_is_over kV_is_over dc_is_over pm_is_over cd_is_over ct_is_over : Value}
    (a_is_over : PySem.W.nsIn K mainGlobals "is_over" = some (some (.ref f_is_over))) (l_is_over : K.lookup f_is_over = some ⟨oc_is_over, od_is_over, .func (PySem.W.fnOf "is_over" "is_over" (defArgs s_is_over) (defBody s_is_over) (defScope s_is_over) .none kV_is_over dc_is_over pm_is_over an_is_over cd_is_over ct_is_over), sl_is_over⟩) (c_is_over : PySem.W.codeIn K cd_is_over "is_over" = true) (k_is_over : PySem.W.keepIn K (.ref f_is_over) = true)
    {f_pair_shows : Addr} {od_pair_shows an_pair_shows : Option Addr} {sl_pair_shows : Array (Option Value)} {oc_pair_shows kV_pair_shows dc_pair_shows pm_pair_shows cd_pair_shows ct_pair_shows : Value}
    (a_pair_shows : PySem.W.nsIn K mainGlobals "pair_shows" = some (some (.ref f_pair_shows))) (l_pair_shows : K.lookup f_pair_shows = some ⟨oc_pair_shows, od_pair_shows, .func (PySem.W.fnOf "pair_shows" "pair_shows" (defArgs s_pair_shows) (defBody s_pair_shows) (defScope s_pair_shows) .none kV_pair_shows dc_pair_shows pm_pair_shows an_pair_shows cd_pair_shows ct_pair_shows), sl_pair_shows⟩) (c_pair_shows : PySem.W.codeIn K cd_pair_shows "pair_shows" = true) (k_pair_shows : PySem.W.keepIn K (.ref f_pair_shows) = true)
    {f_nearest_right : Addr} {od_nearest_right an_nearest_right : Option Addr} {sl_nearest_right : Array (Option Value)} {oc_nearest_right kV_nearest_right dc_nearest_right pm_nearest_right cd_nearest_right ct_nearest_right : Value}
    (a_nearest_right : PySem.W.nsIn K mainGlobals "nearest_right" = some (some (.ref f_nearest_right))) (l_nearest_right : K.lookup f_nearest_right = some ⟨oc_nearest_right, od_nearest_right, .func (PySem.W.fnOf "nearest_right" "nearest_right" (defArgs s_nearest_right) (defBody s_nearest_right) (defScope s_nearest_right) .none kV_nearest_right dc_nearest_right pm_nearest_right an_nearest_right cd_nearest_right ct_nearest_right), sl_nearest_right⟩) (c_nearest_right : PySem.W.codeIn K cd_nearest_right "nearest_right" = true) (k_nearest_right : PySem.W.keepIn K (.ref f_nearest_right) = true)
    {f__law_deal : Addr} {od__law_deal an__law_deal : Option Addr} {sl__law_deal : Array (Option Value)} {oc__law_deal kV__law_deal dc__law_deal pm__law_deal cd__law_deal ct__law_deal : Value}
    (a__law_deal : PySem.W.nsIn K mainGlobals "_law_deal" = some (some (.ref f__law_deal))) (l__law_deal : K.lookup f__law_deal = some ⟨oc__law_deal, od__law_deal, .func (PySem.W.fnOf "_law_deal" "_law_deal" (defArgs s__law_deal) (defBody s__law_deal) (defScope s__law_deal) .none kV__law_deal dc__law_deal pm__law_deal an__law_deal cd__law_deal ct__law_deal), sl__law_deal⟩) (c__law_deal : PySem.W.codeIn K cd__law_deal "_law_deal" = true) (k__law_deal : PySem.W.keepIn K (.ref f__law_deal) = true)
    {f__law_take : Addr} {od__law_take an__law_take : Option Addr} {sl__law_take : Array (Option Value)} {oc__law_take kV__law_take dc__law_take pm__law_take cd__law_take ct__law_take : Value}
    (a__law_take : PySem.W.nsIn K mainGlobals "_law_take" = some (some (.ref f__law_take))) (l__law_take : K.lookup f__law_take = some ⟨oc__law_take, od__law_take, .func (PySem.W.fnOf "_law_take" "_law_take" (defArgs s__law_take) (defBody s__law_take) (defScope s__law_take) .none kV__law_take dc__law_take pm__law_take an__law_take cd__law_take ct__law_take), sl__law_take⟩) (c__law_take : PySem.W.codeIn K cd__law_take "_law_take" = true) (k__law_take : PySem.W.keepIn K (.ref f__law_take) = true)
    {f__law_row : Addr} {od__law_row an__law_row : Option Addr} {sl__law_row : Array (Option Value)} {oc__law_row kV__law_row dc__law_row pm__law_row cd__law_row ct__law_row : Value}
    (a__law_row : PySem.W.nsIn K mainGlobals "_law_row" = some (some (.ref f__law_row))) (l__law_row : K.lookup f__law_row = some ⟨oc__law_row, od__law_row, .func (PySem.W.fnOf "_law_row" "_law_row" (defArgs s__law_row) (defBody s__law_row) (defScope s__law_row) .none kV__law_row dc__law_row pm__law_row an__law_row cd__law_row ct__law_row), sl__law_row⟩) (c__law_row : PySem.W.codeIn K cd__law_row "_law_row" = true) (k__law_row : PySem.W.keepIn K (.ref f__law_row) = true)
    {f__law_elder : Addr} {od__law_elder an__law_elder : Option Addr} {sl__law_elder : Array (Option Value)} {oc__law_elder kV__law_elder dc__law_elder pm__law_elder cd__law_elder ct__law_elder : Value}
    (a__law_elder : PySem.W.nsIn K mainGlobals "_law_elder" = some (some (.ref f__law_elder))) (l__law_elder : K.lookup f__law_elder = some ⟨oc__law_elder, od__law_elder, .func (PySem.W.fnOf "_law_elder" "_law_elder" (defArgs s__law_elder) (defBody s__law_elder) (defScope s__law_elder) .none kV__law_elder dc__law_elder pm__law_elder an__law_elder cd__law_elder ct__law_elder), sl__law_elder⟩) (c__law_elder : PySem.W.codeIn K cd__law_elder "_law_elder" = true) (k__law_elder : PySem.W.keepIn K (.ref f__law_elder) = true)
    {f__law_tree : Addr} {od__law_tree an__law_tree : Option Addr} {sl__law_tree : Array (Option Value)} {oc__law_tree kV__law_tree dc__law_tree pm__law_tree cd__law_tree ct__law_tree : Value}
    (a__law_tree : PySem.W.nsIn K mainGlobals "_law_tree" = some (some (.ref f__law_tree))) (l__law_tree : K.lookup f__law_tree = some ⟨oc__law_tree, od__law_tree, .func (PySem.W.fnOf "_law_tree" "_law_tree" (defArgs s__law_tree) (defBody s__law_tree) (defScope s__law_tree) .none kV__law_tree dc__law_tree pm__law_tree an__law_tree cd__law_tree ct__law_tree), sl__law_tree⟩) (c__law_tree : PySem.W.codeIn K cd__law_tree "_law_tree" = true) (k__law_tree : PySem.W.keepIn K (.ref f__law_tree) = true)
    {f__law_over : Addr} {od__law_over an__law_over : Option Addr} {sl__law_over : Array (Option Value)} {oc__law_over kV__law_over dc__law_over pm__law_over cd__law_over ct__law_over : Value}
    (a__law_over : PySem.W.nsIn K mainGlobals "_law_over" = some (some (.ref f__law_over))) (l__law_over : K.lookup f__law_over = some ⟨oc__law_over, od__law_over, .func (PySem.W.fnOf "_law_over" "_law_over" (defArgs s__law_over) (defBody s__law_over) (defScope s__law_over) .none kV__law_over dc__law_over pm__law_over an__law_over cd__law_over ct__law_over), sl__law_over⟩) (c__law_over : PySem.W.codeIn K cd__law_over "_law_over" = true) (k__law_over : PySem.W.keepIn K (.ref f__law_over) = true)
    {f__law_flat : Addr} {od__law_flat an__law_flat : Option Addr} {sl__law_flat : Array (Option Value)} {oc__law_flat kV__law_flat dc__law_flat pm__law_flat cd__law_flat ct__law_flat : Value}
    (a__law_flat : PySem.W.nsIn K mainGlobals "_law_flat" = some (some (.ref f__law_flat))) (l__law_flat : K.lookup f__law_flat = some ⟨oc__law_flat, od__law_flat, .func (PySem.W.fnOf "_law_flat" "_law_flat" (defArgs s__law_flat) (defBody s__law_flat) (defScope s__law_flat) .none kV__law_flat dc__law_flat pm__law_flat an__law_flat cd__law_flat ct__law_flat), sl__law_flat⟩) (c__law_flat : PySem.W.codeIn K cd__law_flat "_law_flat" = true) (k__law_flat : PySem.W.keepIn K (.ref f__law_flat) = true)
    {f__law_either : Addr} {od__law_either an__law_either : Option Addr} {sl__law_either : Array (Option Value)} {oc__law_either kV__law_either dc__law_either pm__law_either cd__law_either ct__law_either : Value}
    (a__law_either : PySem.W.nsIn K mainGlobals "_law_either" = some (some (.ref f__law_either))) (l__law_either : K.lookup f__law_either = some ⟨oc__law_either, od__law_either, .func (PySem.W.fnOf "_law_either" "_law_either" (defArgs s__law_either) (defBody s__law_either) (defScope s__law_either) .none kV__law_either dc__law_either pm__law_either an__law_either cd__law_either ct__law_either), sl__law_either⟩) (c__law_either : PySem.W.codeIn K cd__law_either "_law_either" = true) (k__law_either : PySem.W.keepIn K (.ref f__law_either) = true)
    {f__law_wide_row : Addr} {od__law_wide_row an__law_wide_row : Option Addr} {sl__law_wide_row : Array (Option Value)} {oc__law_wide_row kV__law_wide_row dc__law_wide_row pm__law_wide_row cd__law_wide_row ct__law_wide_row : Value}
    (a__law_wide_row : PySem.W.nsIn K mainGlobals "_law_wide_row" = some (some (.ref f__law_wide_row))) (l__law_wide_row : K.lookup f__law_wide_row = some ⟨oc__law_wide_row, od__law_wide_row, .func (PySem.W.fnOf "_law_wide_row" "_law_wide_row" (defArgs s__law_wide_row) (defBody s__law_wide_row) (defScope s__law_wide_row) .none kV__law_wide_row dc__law_wide_row pm__law_wide_row an__law_wide_row cd__law_wide_row ct__law_wide_row), sl__law_wide_row⟩) (c__law_wide_row : PySem.W.codeIn K cd__law_wide_row "_law_wide_row" = true) (k__law_wide_row : PySem.W.keepIn K (.ref f__law_wide_row) = true)
    {f__law_least_row : Addr} {od__law_least_row an__law_least_row : Option Addr} {sl__law_least_row : Array (Option Value)} {oc__law_least_row kV__law_least_row dc__law_least_row pm__law_least_row cd__law_least_row ct__law_least_row : Value}
    (a__law_least_row : PySem.W.nsIn K mainGlobals "_law_least_row" = some (some (.ref f__law_least_row))) (l__law_least_row : K.lookup f__law_least_row = some ⟨oc__law_least_row, od__law_least_row, .func (PySem.W.fnOf "_law_least_row" "_law_least_row" (defArgs s__law_least_row) (defBody s__law_least_row) (defScope s__law_least_row) .none kV__law_least_row dc__law_least_row pm__law_least_row an__law_least_row cd__law_least_row ct__law_least_row), sl__law_least_row⟩) (c__law_least_row : PySem.W.codeIn K cd__law_least_row "_law_least_row" = true) (k__law_least_row : PySem.W.keepIn K (.ref f__law_least_row) = true)
    {f__law_kin_row : Addr} {od__law_kin_row an__law_kin_row : Option Addr} {sl__law_kin_row : Array (Option Value)} {oc__law_kin_row kV__law_kin_row dc__law_kin_row pm__law_kin_row cd__law_kin_row ct__law_kin_row : Value}
    {cc__law_kin_row PT__law_kin_row : Addr} {oq__law_kin_row : Value} {oz__law_kin_row : Option Addr} {vs__law_kin_row : Array Value} {sq__law_kin_row : Array (Option Value)}
    (a__law_kin_row : PySem.W.nsIn K mainGlobals "_law_kin_row" = some (some (.ref f__law_kin_row))) (l__law_kin_row : K.lookup f__law_kin_row = some ⟨oc__law_kin_row, od__law_kin_row, .func (PySem.W.fnOf "_law_kin_row" "_law_kin_row" (defArgs s__law_kin_row) (defBody s__law_kin_row) (defScope s__law_kin_row) .none kV__law_kin_row dc__law_kin_row pm__law_kin_row an__law_kin_row cd__law_kin_row ct__law_kin_row), sl__law_kin_row⟩) (c__law_kin_row : PySem.W.codeIn K cd__law_kin_row "_law_kin_row" = true) (k__law_kin_row : PySem.W.keepIn K (.ref f__law_kin_row) = true)
    (le__law_kin_row : cd__law_kin_row = .ref cc__law_kin_row) (lk__law_kin_row : K.lookup cc__law_kin_row = some ⟨oq__law_kin_row, oz__law_kin_row, .fields vs__law_kin_row, sq__law_kin_row⟩) (lp__law_kin_row : vs__law_kin_row[11]? = some (.ref PT__law_kin_row)) (lh__law_kin_row : PySem.W.codeHdIn K cc__law_kin_row PT__law_kin_row = true) (ln__law_kin_row : K.lookup PT__law_kin_row = none) (lm__law_kin_row : PT__law_kin_row ∈ ts)
    {f__law_over_by : Addr} {od__law_over_by an__law_over_by : Option Addr} {sl__law_over_by : Array (Option Value)} {oc__law_over_by kV__law_over_by dc__law_over_by pm__law_over_by cd__law_over_by ct__law_over_by : Value}
    (a__law_over_by : PySem.W.nsIn K mainGlobals "_law_over_by" = some (some (.ref f__law_over_by))) (l__law_over_by : K.lookup f__law_over_by = some ⟨oc__law_over_by, od__law_over_by, .func (PySem.W.fnOf "_law_over_by" "_law_over_by" (defArgs s__law_over_by) (defBody s__law_over_by) (defScope s__law_over_by) .none kV__law_over_by dc__law_over_by pm__law_over_by an__law_over_by cd__law_over_by ct__law_over_by), sl__law_over_by⟩) (c__law_over_by : PySem.W.codeIn K cd__law_over_by "_law_over_by" = true) (k__law_over_by : PySem.W.keepIn K (.ref f__law_over_by) = true)
    {f__law_far : Addr} {od__law_far an__law_far : Option Addr} {sl__law_far : Array (Option Value)} {oc__law_far kV__law_far dc__law_far pm__law_far cd__law_far ct__law_far : Value}
    (a__law_far : PySem.W.nsIn K mainGlobals "_law_far" = some (some (.ref f__law_far))) (l__law_far : K.lookup f__law_far = some ⟨oc__law_far, od__law_far, .func (PySem.W.fnOf "_law_far" "_law_far" (defArgs s__law_far) (defBody s__law_far) (defScope s__law_far) .none kV__law_far dc__law_far pm__law_far an__law_far cd__law_far ct__law_far), sl__law_far⟩) (c__law_far : PySem.W.codeIn K cd__law_far "_law_far" = true) (k__law_far : PySem.W.keepIn K (.ref f__law_far) = true)
    {f__law_any_row : Addr} {od__law_any_row an__law_any_row : Option Addr} {sl__law_any_row : Array (Option Value)} {oc__law_any_row kV__law_any_row dc__law_any_row pm__law_any_row cd__law_any_row ct__law_any_row : Value}
    (a__law_any_row : PySem.W.nsIn K mainGlobals "_law_any_row" = some (some (.ref f__law_any_row))) (l__law_any_row : K.lookup f__law_any_row = some ⟨oc__law_any_row, od__law_any_row, .func (PySem.W.fnOf "_law_any_row" "_law_any_row" (defArgs s__law_any_row) (defBody s__law_any_row) (defScope s__law_any_row) .none kV__law_any_row dc__law_any_row pm__law_any_row an__law_any_row cd__law_any_row ct__law_any_row), sl__law_any_row⟩) (c__law_any_row : PySem.W.codeIn K cd__law_any_row "_law_any_row" = true) (k__law_any_row : PySem.W.keepIn K (.ref f__law_any_row) = true)
    {f__law_is_so : Addr} {od__law_is_so an__law_is_so : Option Addr} {sl__law_is_so : Array (Option Value)} {oc__law_is_so kV__law_is_so dc__law_is_so pm__law_is_so cd__law_is_so ct__law_is_so : Value}
    (a__law_is_so : PySem.W.nsIn K mainGlobals "_law_is_so" = some (some (.ref f__law_is_so))) (l__law_is_so : K.lookup f__law_is_so = some ⟨oc__law_is_so, od__law_is_so, .func (PySem.W.fnOf "_law_is_so" "_law_is_so" (defArgs s__law_is_so) (defBody s__law_is_so) (defScope s__law_is_so) .none kV__law_is_so dc__law_is_so pm__law_is_so an__law_is_so cd__law_is_so ct__law_is_so), sl__law_is_so⟩) (c__law_is_so : PySem.W.codeIn K cd__law_is_so "_law_is_so" = true) (k__law_is_so : PySem.W.keepIn K (.ref f__law_is_so) = true)
    {f__law_pairs : Addr} {od__law_pairs an__law_pairs : Option Addr} {sl__law_pairs : Array (Option Value)} {oc__law_pairs kV__law_pairs dc__law_pairs pm__law_pairs cd__law_pairs ct__law_pairs : Value}
    (a__law_pairs : PySem.W.nsIn K mainGlobals "_law_pairs" = some (some (.ref f__law_pairs))) (l__law_pairs : K.lookup f__law_pairs = some ⟨oc__law_pairs, od__law_pairs, .func (PySem.W.fnOf "_law_pairs" "_law_pairs" (defArgs s__law_pairs) (defBody s__law_pairs) (defScope s__law_pairs) .none kV__law_pairs dc__law_pairs pm__law_pairs an__law_pairs cd__law_pairs ct__law_pairs), sl__law_pairs⟩) (c__law_pairs : PySem.W.codeIn K cd__law_pairs "_law_pairs" = true) (k__law_pairs : PySem.W.keepIn K (.ref f__law_pairs) = true)
    {f__law_bent : Addr} {od__law_bent an__law_bent : Option Addr} {sl__law_bent : Array (Option Value)} {oc__law_bent kV__law_bent dc__law_bent pm__law_bent cd__law_bent ct__law_bent : Value}
    (a__law_bent : PySem.W.nsIn K mainGlobals "_law_bent" = some (some (.ref f__law_bent))) (l__law_bent : K.lookup f__law_bent = some ⟨oc__law_bent, od__law_bent, .func (PySem.W.fnOf "_law_bent" "_law_bent" (defArgs s__law_bent) (defBody s__law_bent) (defScope s__law_bent) .none kV__law_bent dc__law_bent pm__law_bent an__law_bent cd__law_bent ct__law_bent), sl__law_bent⟩) (c__law_bent : PySem.W.codeIn K cd__law_bent "_law_bent" = true) (k__law_bent : PySem.W.keepIn K (.ref f__law_bent) = true)
    {f__law_parts : Addr} {od__law_parts an__law_parts : Option Addr} {sl__law_parts : Array (Option Value)} {oc__law_parts kV__law_parts dc__law_parts pm__law_parts cd__law_parts ct__law_parts : Value}
    (a__law_parts : PySem.W.nsIn K mainGlobals "_law_parts" = some (some (.ref f__law_parts))) (l__law_parts : K.lookup f__law_parts = some ⟨oc__law_parts, od__law_parts, .func (PySem.W.fnOf "_law_parts" "_law_parts" (defArgs s__law_parts) (defBody s__law_parts) (defScope s__law_parts) .none kV__law_parts dc__law_parts pm__law_parts an__law_parts cd__law_parts ct__law_parts), sl__law_parts⟩) (c__law_parts : PySem.W.codeIn K cd__law_parts "_law_parts" = true) (k__law_parts : PySem.W.keepIn K (.ref f__law_parts) = true)
    {f_law : Addr} {od_law an_law : Option Addr} {sl_law : Array (Option Value)} {oc_law kV_law dc_law pm_law cd_law ct_law : Value}
    (a_law : PySem.W.nsIn K mainGlobals "law" = some (some (.ref f_law))) (l_law : K.lookup f_law = some ⟨oc_law, od_law, .func (PySem.W.fnOf "law" "law" (defArgs s_law) (defBody s_law) (defScope s_law) .none kV_law dc_law pm_law an_law cd_law ct_law), sl_law⟩) (c_law : PySem.W.codeIn K cd_law "law" = true) (k_law : PySem.W.keepIn K (.ref f_law) = true)
    {C_DipError : Addr} (n_DipError : PySem.W.nsIn K mainGlobals "DipError" = some (some (.ref C_DipError))) (x_DipError : PySem.W.excIn K C_DipError bmV newV = true) (d_DipError : PySem.W.hasDictIn K C_DipError = true) (y_DipError : PySem.W.typeIn K (.ref C_DipError) = some (.type "type"))
    {C_Unlike : Addr} (n_Unlike : PySem.W.nsIn K mainGlobals "Unlike" = some (some (.ref C_Unlike))) (x_Unlike : PySem.W.excIn K C_Unlike bmV newV = true) (d_Unlike : PySem.W.hasDictIn K C_Unlike = true) (y_Unlike : PySem.W.typeIn K (.ref C_Unlike) = some (.type "type"))
    {C_NoTree : Addr} (n_NoTree : PySem.W.nsIn K mainGlobals "NoTree" = some (some (.ref C_NoTree))) (x_NoTree : PySem.W.excIn K C_NoTree bmV newV = true) (d_NoTree : PySem.W.hasDictIn K C_NoTree = true) (y_NoTree : PySem.W.typeIn K (.ref C_NoTree) = some (.type "type"))
    (b_abs : PySem.W.nsIn K mainGlobals "abs" = some none)
    (b_all : PySem.W.nsIn K mainGlobals "all" = some none)
    (b_any : PySem.W.nsIn K mainGlobals "any" = some none)
    (b_bool : PySem.W.nsIn K mainGlobals "bool" = some none)
    (b_int : PySem.W.nsIn K mainGlobals "int" = some none)
    (b_isinstance : PySem.W.nsIn K mainGlobals "isinstance" = some none)
    (b_len : PySem.W.nsIn K mainGlobals "len" = some none)
    (b_list : PySem.W.nsIn K mainGlobals "list" = some none)
    (b_max : PySem.W.nsIn K mainGlobals "max" = some none)
    (b_min : PySem.W.nsIn K mainGlobals "min" = some none)
    (b_range : PySem.W.nsIn K mainGlobals "range" = some none)
    (b_sorted : PySem.W.nsIn K mainGlobals "sorted" = some none)
    (b_tuple : PySem.W.nsIn K mainGlobals "tuple" = some none)
    (b_zip : PySem.W.nsIn K mainGlobals "zip" = some none)
    {t_MOST_PLACES : Tok} (m_MOST_PLACES : PySem.W.nsIn K mainGlobals "MOST_PLACES" = some (some (.int 40 t_MOST_PLACES)))
    (nd : [PT__law_kin_row].Nodup)
    : ∃ fd : FuncData, (∀ (s : Shared) (v : Value), BindsTo s fd ⟨[v], []⟩ [("script", v)]) ∧ (∀ p ∈ tabsL K mg, p.1 ∈ ts ∧ K.lookup p.1 = none ∧ ∃ c, PySem.W.codeHdIn K c p.1 = true) ∧ ((tabsL K mg).map (·.1)).Nodup ∧ ∀ base : Heap, K.In base → base.Ns mainGlobals mg → BM mg base → FnOk l.prog w K mg base (CXE l.prog w) 7 fa fd ["script"] (spLaw K mg) := by
  have e := hfa.symm.trans (PySem.W.mg_of X G a_law)
  cases e
  have q_DipError : clsAt mg "DipError" = C_DipError := by unfold clsAt; rw [PySem.W.mg_of X G n_DipError]
  have q_Unlike : clsAt mg "Unlike" = C_Unlike := by unfold clsAt; rw [PySem.W.mg_of X G n_Unlike]
  have q_NoTree : clsAt mg "NoTree" = C_NoTree := by unfold clsAt; rw [PySem.W.mg_of X G n_NoTree]
  have q_MOST_PLACES : tokAt mg "MOST_PLACES" = t_MOST_PLACES := by unfold tokAt; rw [PySem.W.mg_of X G m_MOST_PLACES]
  have T : Txt K mg := {
    b_abs := PySem.W.mg_none_of X G b_abs
    b_all := PySem.W.mg_none_of X G b_all
    b_any := PySem.W.mg_none_of X G b_any
    b_bool := PySem.W.mg_none_of X G b_bool
    b_int := PySem.W.mg_none_of X G b_int
    b_isinstance := PySem.W.mg_none_of X G b_isinstance
    b_len := PySem.W.mg_none_of X G b_len
    b_list := PySem.W.mg_none_of X G b_list
    b_max := PySem.W.mg_none_of X G b_max
    b_min := PySem.W.mg_none_of X G b_min
    b_range := PySem.W.mg_none_of X G b_range
    b_sorted := PySem.W.mg_none_of X G b_sorted
    b_tuple := PySem.W.mg_none_of X G b_tuple
    b_zip := PySem.W.mg_none_of X G b_zip
    c_DipError := by rw [q_DipError]; exact PySem.W.mg_of X G n_DipError
    x_DipError := by rw [q_DipError]; exact x_DipError
    c_Unlike := by rw [q_Unlike]; exact PySem.W.mg_of X G n_Unlike
    x_Unlike := by rw [q_Unlike]; exact x_Unlike
    c_NoTree := by rw [q_NoTree]; exact PySem.W.mg_of X G n_NoTree
    x_NoTree := by rw [q_NoTree]; exact x_NoTree
    m_MOST_PLACES := by rw [q_MOST_PLACES]; exact PySem.W.mg_of X G m_MOST_PLACES
  }
  subst le__law_kin_row
  have tq__law_kin_row := tabP_of (PySem.W.mg_of X G a__law_kin_row) l__law_kin_row rfl lk__law_kin_row lp__law_kin_row
  have L__law_kin_row : LamD K mg "_law_kin_row" f__law_kin_row := ⟨cc__law_kin_row, tq__law_kin_row.2, by rw [tq__law_kin_row.1]; exact lh__law_kin_row⟩
  have F_settle := fun_mk (st := s_settle) l_settle c_settle k_settle
  have B_settle := F_settle.binds (ps := ["elders", "spine", "place", "keep"]) fun _ _ _ _ _ _ us hl => match us, hl with | [_, _, _, _], _ => rfl
  have F_tree_of := fun_mk (st := s_tree_of) l_tree_of c_tree_of k_tree_of
  have B_tree_of := F_tree_of.binds (ps := ["row"]) fun _ _ _ _ _ _ us hl => match us, hl with | [_], _ => rfl
  have F_way_up := fun_mk (st := s_way_up) l_way_up c_way_up k_way_up
  have B_way_up := F_way_up.binds (ps := ["tree", "place"]) fun _ _ _ _ _ _ us hl => match us, hl with | [_, _], _ => rfl
  have F_is_tree := fun_mk (st := s_is_tree) l_is_tree c_is_tree k_is_tree
  have B_is_tree := F_is_tree.binds (ps := ["tree"]) fun _ _ _ _ _ _ us hl => match us, hl with | [_], _ => rfl
  have F_need_tree := fun_mk (st := s_need_tree) l_need_tree c_need_tree k_need_tree
  have B_need_tree := F_need_tree.binds (ps := ["tree"]) fun _ _ _ _ _ _ us hl => match us, hl with | [_], _ => rfl
  have F_flat_number := fun_mk (st := s_flat_number) l_flat_number c_flat_number k_flat_number
  have B_flat_number := F_flat_number.binds (ps := ["tree", "place"]) fun _ _ _ _ _ _ us hl => match us, hl with | [_, _], _ => rfl
  have F_flattest := fun_mk (st := s_flattest) l_flattest c_flattest k_flattest
  have B_flattest := F_flattest.binds (ps := ["tree"]) fun _ _ _ _ _ _ us hl => match us, hl with | [_], _ => rfl
  have F_heights_of := fun_mk (st := s_heights_of) l_heights_of c_heights_of k_heights_of
  have B_heights_of := F_heights_of.binds (ps := ["flat", "row"]) fun _ _ _ _ _ _ us hl => match us, hl with | [_, _], _ => rfl
  have F_is_over := fun_mk (st := s_is_over) l_is_over c_is_over k_is_over
  have B_is_over := F_is_over.binds (ps := ["tree", "a", "b"]) fun _ _ _ _ _ _ us hl => match us, hl with | [_, _, _], _ => rfl
  have F_pair_shows := fun_mk (st := s_pair_shows) l_pair_shows c_pair_shows k_pair_shows
  have B_pair_shows := F_pair_shows.binds (ps := ["tree", "heights", "far", "pair"]) fun _ _ _ _ _ _ us hl => match us, hl with | [_, _, _, _], _ => rfl
  have F_nearest_right := fun_mk (st := s_nearest_right) l_nearest_right c_nearest_right k_nearest_right
  have B_nearest_right := F_nearest_right.binds (ps := ["tree", "row", "far", "made", "pair"]) fun _ _ _ _ _ _ us hl => match us, hl with | [_, _, _, _, _], _ => rfl
  have F__law_deal := fun_mk (st := s__law_deal) l__law_deal c__law_deal k__law_deal
  have B__law_deal := F__law_deal.binds (ps := ["script", "k"]) fun _ _ _ _ _ _ us hl => match us, hl with | [_, _], _ => rfl
  have F__law_take := fun_mk (st := s__law_take) l__law_take c__law_take k__law_take
  have B__law_take := F__law_take.binds (ps := ["pot", "many"]) fun _ _ _ _ _ _ us hl => match us, hl with | [_, _], _ => rfl
  have F__law_row := fun_mk (st := s__law_row) l__law_row c__law_row k__law_row
  have B__law_row := F__law_row.binds (ps := ["pot", "most"]) fun _ _ _ _ _ _ us hl => match us, hl with | [_, _], _ => rfl
  have F__law_elder := fun_mk (st := s__law_elder) l__law_elder c__law_elder k__law_elder
  have B__law_elder := F__law_elder.binds (ps := ["row", "place"]) fun _ _ _ _ _ _ us hl => match us, hl with | [_, _], _ => rfl
  have F__law_tree := fun_mk (st := s__law_tree) l__law_tree c__law_tree k__law_tree
  have B__law_tree := F__law_tree.binds (ps := ["row"]) fun _ _ _ _ _ _ us hl => match us, hl with | [_], _ => rfl
  have F__law_over := fun_mk (st := s__law_over) l__law_over c__law_over k__law_over
  have B__law_over := F__law_over.binds (ps := ["tree", "place"]) fun _ _ _ _ _ _ us hl => match us, hl with | [_, _], _ => rfl
  have F__law_flat := fun_mk (st := s__law_flat) l__law_flat c__law_flat k__law_flat
  have B__law_flat := F__law_flat.binds (ps := ["tree"]) fun _ _ _ _ _ _ us hl => match us, hl with | [_], _ => rfl
  have F__law_either := fun_mk (st := s__law_either) l__law_either c__law_either k__law_either
  have B__law_either := F__law_either.binds (ps := ["pot", "some"]) fun _ _ _ _ _ _ us hl => match us, hl with | [_, _], _ => rfl
  have F__law_wide_row := fun_mk (st := s__law_wide_row) l__law_wide_row c__law_wide_row k__law_wide_row
  have B__law_wide_row := F__law_wide_row.binds (ps := ["pot"]) fun _ _ _ _ _ _ us hl => match us, hl with | [_], _ => rfl
  have F__law_least_row := fun_mk (st := s__law_least_row) l__law_least_row c__law_least_row k__law_least_row
  have B__law_least_row := F__law_least_row.binds (ps := ["tree", "least"]) fun _ _ _ _ _ _ us hl => match us, hl with | [_, _], _ => rfl
  have F__law_kin_row := fun_mk (st := s__law_kin_row) l__law_kin_row c__law_kin_row k__law_kin_row
  have B__law_kin_row := F__law_kin_row.binds (ps := ["pot", "tree"]) fun _ _ _ _ _ _ us hl => match us, hl with | [_, _], _ => rfl
  have F__law_over_by := fun_mk (st := s__law_over_by) l__law_over_by c__law_over_by k__law_over_by
  have B__law_over_by := F__law_over_by.binds (ps := ["flat", "row", "a", "b"]) fun _ _ _ _ _ _ us hl => match us, hl with | [_, _, _, _], _ => rfl
  have F__law_far := fun_mk (st := s__law_far) l__law_far c__law_far k__law_far
  have B__law_far := F__law_far.binds (ps := ["tree", "row"]) fun _ _ _ _ _ _ us hl => match us, hl with | [_, _], _ => rfl
  have F__law_any_row := fun_mk (st := s__law_any_row) l__law_any_row c__law_any_row k__law_any_row
  have B__law_any_row := F__law_any_row.binds (ps := ["pot", "tree"]) fun _ _ _ _ _ _ us hl => match us, hl with | [_, _], _ => rfl
  have F__law_is_so := fun_mk (st := s__law_is_so) l__law_is_so c__law_is_so k__law_is_so
  have B__law_is_so := F__law_is_so.binds (ps := ["tree", "row", "far", "made", "pair"]) fun _ _ _ _ _ _ us hl => match us, hl with | [_, _, _, _, _], _ => rfl
  have F__law_pairs := fun_mk (st := s__law_pairs) l__law_pairs c__law_pairs k__law_pairs
  have B__law_pairs := F__law_pairs.binds (ps := ["tree"]) fun _ _ _ _ _ _ us hl => match us, hl with | [_], _ => rfl
  have F__law_bent := fun_mk (st := s__law_bent) l__law_bent c__law_bent k__law_bent
  have B__law_bent := F__law_bent.binds (ps := ["pot", "tree", "parts"]) fun _ _ _ _ _ _ us hl => match us, hl with | [_, _, _], _ => rfl
  have F__law_parts := fun_mk (st := s__law_parts) l__law_parts c__law_parts k__law_parts
  have B__law_parts := F__law_parts.binds (ps := ["tree", "row"]) fun _ _ _ _ _ _ us hl => match us, hl with | [_, _], _ => rfl
  have F_law := fun_mk (st := s_law) l_law c_law k_law
  refine ⟨PySem.W.fnOf "law" "law" (defArgs s_law) (defBody s_law) (defScope s_law) .none kV_law dc_law pm_law an_law cd_law ct_law, fun s v => .of_eq rfl, ?tb, ?nd, fun base _ _ B => ?_⟩
  case tb =>
    intro p hp
    unfold tabsL at hp
    simp only [List.mem_cons, List.not_mem_nil, or_false] at hp
    subst hp
    · exact ⟨by rw [tq__law_kin_row.1]; exact lm__law_kin_row, by rw [tq__law_kin_row.1]; exact ln__law_kin_row, cc__law_kin_row, by rw [tq__law_kin_row.1]; exact lh__law_kin_row⟩
  case nd =>
    unfold tabsL
    simp only [List.map_cons, List.map_nil]
    rw [tq__law_kin_row.1]
    exact nd
  have G_settle : Callee l.prog w K mg base "settle" 1 ["elders", "spine", "place", "keep"] (sp_settle K mg) := ⟨_, _, PySem.W.mg_of X G a_settle, k_settle, B_settle, ok_settle F_settle  T⟩
  have G_tree_of : Callee l.prog w K mg base "tree_of" 2 ["row"] (sp_tree_of K mg) := ⟨_, _, PySem.W.mg_of X G a_tree_of, k_tree_of, B_tree_of, ok_tree_of F_tree_of G_settle T⟩
  have G_way_up : Callee l.prog w K mg base "way_up" 1 ["tree", "place"] (sp_way_up K mg) := ⟨_, _, PySem.W.mg_of X G a_way_up, k_way_up, B_way_up, ok_way_up F_way_up  T⟩
  have G_is_tree : Callee l.prog w K mg base "is_tree" 3 ["tree"] (sp_is_tree K mg) := ⟨_, _, PySem.W.mg_of X G a_is_tree, k_is_tree, B_is_tree, ok_is_tree F_is_tree G_tree_of G_way_up T⟩
  have G_need_tree : Callee l.prog w K mg base "need_tree" 4 ["tree"] (sp_need_tree K mg) := ⟨_, _, PySem.W.mg_of X G a_need_tree, k_need_tree, B_need_tree, ok_need_tree F_need_tree G_is_tree T⟩
  have G_flat_number : Callee l.prog w K mg base "flat_number" 2 ["tree", "place"] (sp_flat_number K mg) := ⟨_, _, PySem.W.mg_of X G a_flat_number, k_flat_number, B_flat_number, ok_flat_number F_flat_number G_way_up T⟩
  have G_flattest : Callee l.prog w K mg base "flattest" 5 ["tree"] (sp_flattest K mg) := ⟨_, _, PySem.W.mg_of X G a_flattest, k_flattest, B_flattest, ok_flattest F_flattest G_need_tree G_flat_number T⟩
  have G_heights_of : Callee l.prog w K mg base "heights_of" 1 ["flat", "row"] (sp_heights_of K mg) := ⟨_, _, PySem.W.mg_of X G a_heights_of, k_heights_of, B_heights_of, ok_heights_of F_heights_of  T⟩
  have G_is_over : Callee l.prog w K mg base "is_over" 2 ["tree", "a", "b"] (sp_is_over K mg) := ⟨_, _, PySem.W.mg_of X G a_is_over, k_is_over, B_is_over, ok_is_over F_is_over G_way_up T⟩
  have G_pair_shows : Callee l.prog w K mg base "pair_shows" 3 ["tree", "heights", "far", "pair"] (sp_pair_shows K mg) := ⟨_, _, PySem.W.mg_of X G a_pair_shows, k_pair_shows, B_pair_shows, ok_pair_shows F_pair_shows G_is_over T⟩
  have G_nearest_right : Callee l.prog w K mg base "nearest_right" 6 ["tree", "row", "far", "made", "pair"] (sp_nearest_right K mg) := ⟨_, _, PySem.W.mg_of X G a_nearest_right, k_nearest_right, B_nearest_right, ok_nearest_right F_nearest_right G_tree_of G_flattest G_heights_of G_pair_shows T⟩
  have G__law_deal : Callee l.prog w K mg base "_law_deal" 1 ["script", "k"] (sp__law_deal K mg) := ⟨_, _, PySem.W.mg_of X G a__law_deal, k__law_deal, B__law_deal, ok__law_deal F__law_deal  T⟩
  have G__law_take : Callee l.prog w K mg base "_law_take" 1 ["pot", "many"] (sp__law_take K mg) := ⟨_, _, PySem.W.mg_of X G a__law_take, k__law_take, B__law_take, ok__law_take F__law_take  T⟩
  have G__law_elder : Callee l.prog w K mg base "_law_elder" 1 ["row", "place"] (sp__law_elder K mg) := ⟨_, _, PySem.W.mg_of X G a__law_elder, k__law_elder, B__law_elder, ok__law_elder F__law_elder  T⟩
  have G__law_tree : Callee l.prog w K mg base "_law_tree" 2 ["row"] (sp__law_tree K mg) := ⟨_, _, PySem.W.mg_of X G a__law_tree, k__law_tree, B__law_tree, ok__law_tree F__law_tree G__law_elder T⟩
  have G__law_either : Callee l.prog w K mg base "_law_either" 2 ["pot", "some"] (sp__law_either K mg) := ⟨_, _, PySem.W.mg_of X G a__law_either, k__law_either, B__law_either, ok__law_either F__law_either G__law_take T⟩
  have G__law_row : Callee l.prog w K mg base "_law_row" 2 ["pot", "most"] (sp__law_row K mg) := ⟨_, _, PySem.W.mg_of X G a__law_row, k__law_row, B__law_row, ok__law_row F__law_row G__law_take T⟩
  have G__law_wide_row : Callee l.prog w K mg base "_law_wide_row" 3 ["pot"] (sp__law_wide_row K mg) := ⟨_, _, PySem.W.mg_of X G a__law_wide_row, k__law_wide_row, B__law_wide_row, ok__law_wide_row F__law_wide_row G__law_take G__law_row T⟩
  have G__law_over : Callee l.prog w K mg base "_law_over" 1 ["tree", "place"] (sp__law_over K mg) := ⟨_, _, PySem.W.mg_of X G a__law_over, k__law_over, B__law_over, ok__law_over F__law_over  T⟩
  have G__law_flat : Callee l.prog w K mg base "_law_flat" 2 ["tree"] (sp__law_flat K mg) := ⟨_, _, PySem.W.mg_of X G a__law_flat, k__law_flat, B__law_flat, ok__law_flat F__law_flat G__law_over T⟩
  have G__law_kin_row : Callee l.prog w K mg base "_law_kin_row" 5 ["pot", "tree"] (sp__law_kin_row K mg) := ⟨_, _, PySem.W.mg_of X G a__law_kin_row, k__law_kin_row, B__law_kin_row, ok__law_kin_row F__law_kin_row G__law_take G__law_over G__law_flat L__law_kin_row B T⟩
  have G__law_any_row : Callee l.prog w K mg base "_law_any_row" 6 ["pot", "tree"] (sp__law_any_row K mg) := ⟨_, _, PySem.W.mg_of X G a__law_any_row, k__law_any_row, B__law_any_row, ok__law_any_row F__law_any_row G__law_take G__law_kin_row T⟩
  have G__law_over_by : Callee l.prog w K mg base "_law_over_by" 1 ["flat", "row", "a", "b"] (sp__law_over_by K mg) := ⟨_, _, PySem.W.mg_of X G a__law_over_by, k__law_over_by, B__law_over_by, ok__law_over_by F__law_over_by  T⟩
  have G__law_is_so : Callee l.prog w K mg base "_law_is_so" 3 ["tree", "row", "far", "made", "pair"] (sp__law_is_so K mg) := ⟨_, _, PySem.W.mg_of X G a__law_is_so, k__law_is_so, B__law_is_so, ok__law_is_so F__law_is_so G__law_tree G__law_over G__law_flat G__law_over_by T⟩
  have G__law_pairs : Callee l.prog w K mg base "_law_pairs" 2 ["tree"] (sp__law_pairs K mg) := ⟨_, _, PySem.W.mg_of X G a__law_pairs, k__law_pairs, B__law_pairs, ok__law_pairs F__law_pairs G__law_over T⟩
  have G__law_bent : Callee l.prog w K mg base "_law_bent" 6 ["pot", "tree", "parts"] (sp__law_bent K mg) := ⟨_, _, PySem.W.mg_of X G a__law_bent, k__law_bent, B__law_bent, ok__law_bent F__law_bent G__law_take G__law_kin_row G__law_pairs T⟩
  have G__law_least_row : Callee l.prog w K mg base "_law_least_row" 3 ["tree", "least"] (sp__law_least_row K mg) := ⟨_, _, PySem.W.mg_of X G a__law_least_row, k__law_least_row, B__law_least_row, ok__law_least_row F__law_least_row G__law_over G__law_flat T⟩
  have G__law_far : Callee l.prog w K mg base "_law_far" 3 ["tree", "row"] (sp__law_far K mg) := ⟨_, _, PySem.W.mg_of X G a__law_far, k__law_far, B__law_far, ok__law_far F__law_far G__law_over G__law_flat T⟩
  have G__law_parts : Callee l.prog w K mg base "_law_parts" 4 ["tree", "row"] (sp__law_parts K mg) := ⟨_, _, PySem.W.mg_of X G a__law_parts, k__law_parts, B__law_parts, ok__law_parts F__law_parts G__law_flat G__law_least_row G__law_over_by G__law_far G__law_pairs T⟩
  exact ok_law F_law G_nearest_right G__law_deal G__law_take G__law_tree G__law_either G__law_wide_row G__law_any_row G__law_is_so G__law_bent G__law_parts T
theorem walk {l : PySem.W.OpenLaw} {q : Program} {loose : List Str} {XP : (Str → Option Value) → Heap → Prop} {YP : World → Heap → Prop} {d : DefRec} {K : Params → PySem.W.Frag} {ts : List Addr} (hn : l.most = some 63) (hdf : d.params.defaults = [])
    (hY : ∀ (w : World) (h : Heap), YP w h → (K w.params).In h) (hY2 : ∀ (w : World) (h : Heap), YP w h → ∀ P ∈ ts, h.get? P = some (PySem.W.tabObj #[]))
    (F : ∀ (w : World) (mg : Str → Option Value) (fa : Addr) (h : Heap), (K w.params).In h → h.Ns mainGlobals mg → mg d.name = some (.ref fa) →
      ∃ fd : FuncData, (∀ (s : Shared) (u : Value), BindsTo s fd ⟨[u], []⟩ [("script", u)]) ∧ (∀ p ∈ tabsL (K w.params) mg, p.1 ∈ ts ∧ (K w.params).lookup p.1 = none ∧ ∃ c, PySem.W.codeHdIn (K w.params) c p.1 = true) ∧ ((tabsL (K w.params) mg).map (·.1)).Nodup ∧ ∀ base : Heap, (K w.params).In base → base.Ns mainGlobals mg → BM mg base → FnOk l.prog w (K w.params) mg base (CXE l.prog w) 7 fa fd ["script"] (spLaw (K w.params) mg)) :
    PySem.W.WalkO q loose XP YP l.row.toRowW d [] (fun f vs => PySem.call f vs) :=
  L2.walk_ofT (n := 63) (k := 7) (x := "script") (ts := ts) (tabs := tabsL) (CX := fun w => CXE l.prog w) (sp := fun w mg => spLaw (K w.params) mg) hn (by decide) hdf ⟨rfl, by decide, by decide⟩ hY hY2 F (fun _ _ _ a ns hl hS hT => ⟨a, ns, rfl, hS, hl, hT, fun _ => rfl⟩) fun _ _ _ _ _ ⟨_, _, _, _, _, _, _, z⟩ => z
end K61
def PySem.W.Fast.tw16244393064772637547 : Unit := ()
def PySem.W.Fast.tw1676539480992531167 : Unit := ()
def PySem.W.Fast.tw701262283402857111 : Unit := ()
def PySem.W.Fast.tw8286357128653155134 : Unit := ()
def PySem.W.Fast.tw1445357092988690679 : Unit := ()
def PySem.W.Fast.tw17702605203634337761 : Unit := ()
def PySem.W.Fast.tw2557939457512194722 : Unit := ()
def PySem.W.Fast.tw10133506546882309356 : Unit := ()
def PySem.W.Fast.tw2232081642422109397 : Unit := ()
def PySem.W.Fast.tw14345746597308347627 : Unit := ()
def PySem.W.Fast.tw6353543974932954708 : Unit := ()
def PySem.W.Fast.tw15720429141031966884 : Unit := ()
def PySem.W.Fast.tw703246676522297068 : Unit := ()
def PySem.W.Fast.tw9991000388690747550 : Unit := ()
def PySem.W.Fast.tw2036226372324509457 : Unit := ()
def PySem.W.Fast.tw9803713088824186020 : Unit := ()
def PySem.W.Fast.tw3404481325870768436 : Unit := ()
def PySem.W.Fast.tw12055259990576023686 : Unit := ()
def PySem.W.Fast.tw9985336744375785866 : Unit := ()
def PySem.W.Fast.tw5587799032863067815 : Unit := ()
def PySem.W.Fast.tw7143663730255297188 : Unit := ()
def PySem.W.Fast.tw17837059127294357975 : Unit := ()
def PySem.W.Fast.tw6053379453385450493 : Unit := ()
def PySem.W.Fast.tw7248338731633781749 : Unit := ()
def PySem.W.Fast.tw11440542764234015303 : Unit := ()
def PySem.W.Fast.tw8051792060151544691 : Unit := ()
def PySem.W.Fast.tw18282729576621649149 : Unit := ()
def PySem.W.Fast.tw5711596524558076820 : Unit := ()
def PySem.W.Fast.tw5650999862423151803 : Unit := ()
def PySem.W.Fast.tw8250699818015380741 : Unit := ()
def PySem.W.Fast.tw14813344023816194682 : Unit := ()
def PySem.W.Fast.tw6240264848251003441 : Unit := ()
def PySem.W.Fast.tw12049458115016327385 : Unit := ()
def PySem.W.Fast.tw15939048185086542802 : Unit := ()
def PySem.W.Fast.tw15683273139447513195 : Unit := ()
def PySem.W.Fast.tw16065641710677604034 : Unit := ()
def PySem.W.Fast.tw1412207172101032575 : Unit := ()
def PySem.W.Fast.tw17489092866977097472 : Unit := ()
def PySem.W.Fast.tw17500648063325271228 : Unit := ()
def PySem.W.Fast.tw18173189166878144807 : Unit := ()
def PySem.W.Fast.tw17927290155808321155 : Unit := ()
def PySem.W.Fast.tw3559456624582655307 : Unit := ()
def PySem.W.Fast.tw12668212289214507720 : Unit := ()
def PySem.W.Fast.tw3856653159607934549 : Unit := ()
def PySem.W.Fast.tw2543621878007670144 : Unit := ()
def PySem.W.Fast.tw1896892428534274199 : Unit := ()
def PySem.W.Fast.tw3173838026333127847 : Unit := ()
def PySem.W.Fast.tw4674482695743537165 : Unit := ()
def PySem.W.Fast.tw4374107485209107469 : Unit := ()
def PySem.W.Fast.tw902255693090015391 : Unit := ()
def PySem.W.Fast.tw12984190555092095953 : Unit := ()
def PySem.W.Fast.tw14494007426020467634 : Unit := ()
def PySem.W.Fast.tw2034415660821784567 : Unit := ()
def PySem.W.Fast.tw1253445520603582269 : Unit := ()
def PySem.W.Fast.tw7049620767226376034 : Unit := ()
def PySem.W.Fast.tw917206603116557371 : Unit := ()
def PySem.W.Fast.tw4326478579563063236 : Unit := ()
def PySem.W.Fast.tw4903549624246266373 : Unit := ()
def PySem.W.Fast.tw4533532189818420721 : Unit := ()
def PySem.W.Fast.tw13459650290068325054 : Unit := ()
def PySem.W.Fast.tw1601892607572885610 : Unit := ()
def PySem.W.Fast.tw18334472265539796958 : Unit := ()
def PySem.W.Fast.tw14525163908968432850 : Unit := ()
def PySem.W.Fast.tw548158212620931891 : Unit := ()
def PySem.W.Fast.tw9808446977845321993 : Unit := ()
def PySem.W.Fast.tw16868997748891160171 : Unit := ()
def PySem.W.Fast.tw16428372189961115963 : Unit := ()
def PySem.W.Fast.tw8193501380401244403 : Unit := ()
def PySem.W.Fast.tw10022450005834654741 : Unit := ()
def PySem.W.Fast.tw8057029770866726348 : Unit := ()
def PySem.W.Fast.tw9477751015978355699 : Unit := ()
def PySem.W.Fast.tw11698038357203299526 : Unit := ()
def PySem.W.Fast.tw3870947124311475777 : Unit := ()
def PySem.W.Fast.tw8414475028936454110 : Unit := ()
def PySem.W.Fast.tw7200136558784409341 : Unit := ()
def PySem.W.Fast.tw5647539437228231828 : Unit := ()
def PySem.W.Fast.tw9896210132452536431 : Unit := ()
def PySem.W.Fast.tw7950283331300617498 : Unit := ()
def PySem.W.Fast.tw4462198831540626856 : Unit := ()
def PySem.W.Fast.tw15778945528595373999 : Unit := ()
def PySem.W.Fast.tw12531507834639223804 : Unit := ()
def PySem.W.Fast.tw8877948650476021163 : Unit := ()

open PySem PySem.W PyProof.Rows
set_option maxRecDepth 100000 in
set_option maxHeartbeats 0 in
theorem PySem.Challenge.cw_dipkin_k61_the_nearest_judged_holds : PySem.Challenge.rw_dipkin_k61_the_nearest_judged.Holds := by
  w_on; o_law; k_head; (case hw => w_witness2)
  k_fill
  refine K61.walk (l := PySem.Challenge.rw_dipkin_k61_the_nearest_judged) rfl rfl (fun w h Y => PySem.W.km_in_of Y) (fun w h Y => PySem.W.km_tabs_of Y) ?F
  case F =>
    intro w mg fa h KX G hmg
    refine' K61.all_mk KX G hmg ?a_settle ?l_settle ?c_settle ?k_settle ?a_tree_of ?l_tree_of ?c_tree_of ?k_tree_of ?a_way_up ?l_way_up ?c_way_up ?k_way_up ?a_is_tree ?l_is_tree ?c_is_tree ?k_is_tree ?a_need_tree ?l_need_tree ?c_need_tree ?k_need_tree ?a_flat_number ?l_flat_number ?c_flat_number ?k_flat_number ?a_flattest ?l_flattest ?c_flattest ?k_flattest ?a_heights_of ?l_heights_of ?c_heights_of ?k_heights_of ?a_is_over ?l_is_over ?c_is_over ?k_is_over ?a_pair_shows ?l_pair_shows ?c_pair_shows ?k_pair_shows ?a_nearest_right ?l_nearest_right ?c_nearest_right ?k_nearest_right ?a__law_deal ?l__law_deal ?c__law_deal ?k__law_deal ?a__law_take ?l__law_take ?c__law_take ?k__law_take ?a__law_row ?l__law_row ?c__law_row ?k__law_row ?a__law_elder ?l__law_elder ?c__law_elder ?k__law_elder ?a__law_tree ?l__law_tree ?c__law_tree ?k__law_tree ?a__law_over ?l__law_over ?c__law_over ?k__law_over ?a__law_flat ?l__law_flat ?c__law_flat ?k__law_flat ?a__law_either ?l__law_either ?c__law_either ?k__law_either ?a__law_wide_row ?l__law_wide_row ?c__law_wide_row ?k__law_wide_row ?a__law_least_row ?l__law_least_row ?c__law_least_row ?k__law_least_row ?a__law_kin_row ?l__law_kin_row ?c__law_kin_row ?k__law_kin_row ?le__law_kin_row ?lk__law_kin_row ?lp__law_kin_row ?lh__law_kin_row ?ln__law_kin_row ?lm__law_kin_row ?a__law_over_by ?l__law_over_by ?c__law_over_by ?k__law_over_by ?a__law_far ?l__law_far ?c__law_far ?k__law_far ?a__law_any_row ?l__law_any_row ?c__law_any_row ?k__law_any_row ?a__law_is_so ?l__law_is_so ?c__law_is_so ?k__law_is_so ?a__law_pairs ?l__law_pairs ?c__law_pairs ?k__law_pairs ?a__law_bent ?l__law_bent ?c__law_bent ?k__law_bent ?a__law_parts ?l__law_parts ?c__law_parts ?k__law_parts ?a_law ?l_law ?c_law ?k_law ?n_DipError ?x_DipError ?d_DipError ?y_DipError ?n_Unlike ?x_Unlike ?d_Unlike ?y_Unlike ?n_NoTree ?x_NoTree ?d_NoTree ?y_NoTree ?b_abs ?b_all ?b_any ?b_bool ?b_int ?b_isinstance ?b_len ?b_list ?b_max ?b_min ?b_range ?b_sorted ?b_tuple ?b_zip ?m_MOST_PLACES ?nd
    (case a_settle => k_is)
    (case l_settle => k_is)
    (case c_settle => k_is)
    (case k_settle => k_is)
    (case a_tree_of => k_is)
    (case l_tree_of => k_is)
    (case c_tree_of => k_is)
    (case k_tree_of => k_is)
    (case a_way_up => k_is)
    (case l_way_up => k_is)
    (case c_way_up => k_is)
    (case k_way_up => k_is)
    (case a_is_tree => k_is)
    (case l_is_tree => k_is)
    (case c_is_tree => k_is)
    (case k_is_tree => k_is)
    (case a_need_tree => k_is)
    (case l_need_tree => k_is)
    (case c_need_tree => k_is)
    (case k_need_tree => k_is)
    (case a_flat_number => k_is)
    (case l_flat_number => k_is)
    (case c_flat_number => k_is)
    (case k_flat_number => k_is)
    (case a_flattest => k_is)
    (case l_flattest => k_is)
    (case c_flattest => k_is)
    (case k_flattest => k_is)
    (case a_heights_of => k_is)
    (case l_heights_of => k_is)
    (case c_heights_of => k_is)
    (case k_heights_of => k_is)
    (case a_is_over => k_is)
    (case l_is_over => k_is)
    (case c_is_over => k_is)
    (case k_is_over => k_is)
    (case a_pair_shows => k_is)
    (case l_pair_shows => k_is)
    (case c_pair_shows => k_is)
    (case k_pair_shows => k_is)
    (case a_nearest_right => k_is)
    (case l_nearest_right => k_is)
    (case c_nearest_right => k_is)
    (case k_nearest_right => k_is)
    (case a__law_deal => k_is)
    (case l__law_deal => k_is)
    (case c__law_deal => k_is)
    (case k__law_deal => k_is)
    (case a__law_take => k_is)
    (case l__law_take => k_is)
    (case c__law_take => k_is)
    (case k__law_take => k_is)
    (case a__law_row => k_is)
    (case l__law_row => k_is)
    (case c__law_row => k_is)
    (case k__law_row => k_is)
    (case a__law_elder => k_is)
    (case l__law_elder => k_is)
    (case c__law_elder => k_is)
    (case k__law_elder => k_is)
    (case a__law_tree => k_is)
    (case l__law_tree => k_is)
    (case c__law_tree => k_is)
    (case k__law_tree => k_is)
    (case a__law_over => k_is)
    (case l__law_over => k_is)
    (case c__law_over => k_is)
    (case k__law_over => k_is)
    (case a__law_flat => k_is)
    (case l__law_flat => k_is)
    (case c__law_flat => k_is)
    (case k__law_flat => k_is)
    (case a__law_either => k_is)
    (case l__law_either => k_is)
    (case c__law_either => k_is)
    (case k__law_either => k_is)
    (case a__law_wide_row => k_is)
    (case l__law_wide_row => k_is)
    (case c__law_wide_row => k_is)
    (case k__law_wide_row => k_is)
    (case a__law_least_row => k_is)
    (case l__law_least_row => k_is)
    (case c__law_least_row => k_is)
    (case k__law_least_row => k_is)
    (case a__law_kin_row => k_is)
    (case l__law_kin_row => k_is)
    (case c__law_kin_row => k_is)
    (case k__law_kin_row => k_is)
    (case le__law_kin_row => exact rfl)
    (case lk__law_kin_row => k_is)
    (case lp__law_kin_row => exact rfl)
    (case lh__law_kin_row => kernel_rfl)
    (case ln__law_kin_row => kernel_rfl)
    (case lm__law_kin_row => decide)
    (case a__law_over_by => k_is)
    (case l__law_over_by => k_is)
    (case c__law_over_by => k_is)
    (case k__law_over_by => k_is)
    (case a__law_far => k_is)
    (case l__law_far => k_is)
    (case c__law_far => k_is)
    (case k__law_far => k_is)
    (case a__law_any_row => k_is)
    (case l__law_any_row => k_is)
    (case c__law_any_row => k_is)
    (case k__law_any_row => k_is)
    (case a__law_is_so => k_is)
    (case l__law_is_so => k_is)
    (case c__law_is_so => k_is)
    (case k__law_is_so => k_is)
    (case a__law_pairs => k_is)
    (case l__law_pairs => k_is)
    (case c__law_pairs => k_is)
    (case k__law_pairs => k_is)
    (case a__law_bent => k_is)
    (case l__law_bent => k_is)
    (case c__law_bent => k_is)
    (case k__law_bent => k_is)
    (case a__law_parts => k_is)
    (case l__law_parts => k_is)
    (case c__law_parts => k_is)
    (case k__law_parts => k_is)
    (case a_law => k_is)
    (case l_law => k_is)
    (case c_law => k_is)
    (case k_law => k_is)
    (case n_DipError => k_is)
    (case x_DipError => k_exc)
    (case d_DipError => k_is)
    (case y_DipError => k_is)
    (case n_Unlike => k_is)
    (case x_Unlike => k_exc)
    (case d_Unlike => k_is)
    (case y_Unlike => k_is)
    (case n_NoTree => k_is)
    (case x_NoTree => k_exc)
    (case d_NoTree => k_is)
    (case y_NoTree => k_is)
    (case b_abs => k_is)
    (case b_all => k_is)
    (case b_any => k_is)
    (case b_bool => k_is)
    (case b_int => k_is)
    (case b_isinstance => k_is)
    (case b_len => k_is)
    (case b_list => k_is)
    (case b_max => k_is)
    (case b_min => k_is)
    (case b_range => k_is)
    (case b_sorted => k_is)
    (case b_tuple => k_is)
    (case b_zip => k_is)
    (case m_MOST_PLACES => k_is)
    (case nd => decide)

