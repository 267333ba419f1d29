import PyProof.Rows.All
import Wide.All
import OpenK.AllK
import Wide.FinOn
import Lean
import PyProof.EqAt
import PyProof.EqKinds
import PyProof.TupleCall
import PySem.Challenge.RW_mapweave_k01_maps
-- CHANGE: your row's module here, as the last of these rows
set_option Elab.async false
set_option linter.all false
set_option maxRecDepth 100000
/-! THE HAND LAYER, for ints, bools, texts, own classes, LISTS and tuples (index, slices, in, append, pop ..), calls, loops. Paste it whole ahead of your own text; what your proof does not reach may be deleted. -/
namespace L2
open PySem PySem.Spec PyProof.Rows

/-- a key: an int or a str -/
abbrev Key := Sum Int Str
def keyIs : Key → Value → Bool
  | .inl k, v => Value.isInt k v
  | .inr x, v => Value.isStrOf x v
def keyH (w : World) : Key → Int
  | .inl k => hashInt k
  | .inr x => hashStr w x
theorem keyIs_shape : ∀ {k : Key} {v : Value}, keyIs k v = true → (∃ i t, k = Sum.inl i ∧ v = Value.int i t) ∨ (∃ x t, k = Sum.inr x ∧ v = Value.str x t)
  | .inl i, v, h => by
    obtain ⟨t, e⟩ := Value.isInt_shape (k := i) (v := v) h
    exact .inl ⟨i, t, rfl, e⟩
  | .inr x, v, h => by
    obtain ⟨t, e⟩ := Value.isStrOf_shape (x := x) (v := v) h
    exact .inr ⟨x, t, rfl, e⟩
theorem keyIs_int (i : Int) (t : Tok) : keyIs (.inl i) (.int i t) = true := by simp [keyIs, Value.isInt]
theorem keyIs_str (x : Str) (t : Tok) : keyIs (.inr x) (.str x t) = true := by simp [keyIs, Value.isStrOf]
theorem key_ll (a b : Int) : decide ((Sum.inl a : Key) = Sum.inl b) = (a == b) := by
  by_cases e : a = b
  · subst e; simp
  · have h : ¬ (Sum.inl a : Key) = Sum.inl b := fun q => e (Sum.inl.inj q)
    rw [decide_eq_false h]
    exact (beq_eq_false_iff_ne.mpr e).symm
theorem key_rr (a b : Str) : decide ((Sum.inr a : Key) = Sum.inr b) = decide (a = b) := by
  by_cases e : a = b
  · subst e; simp
  · have h : ¬ (Sum.inr a : Key) = Sum.inr b := fun q => e (Sum.inr.inj q)
    rw [decide_eq_false h, decide_eq_false e]
theorem key_lr (a : Int) (b : Str) : decide ((Sum.inl a : Key) = Sum.inr b) = false := decide_eq_false (fun q => nomatch q)
theorem key_rl (a : Str) (b : Int) : decide ((Sum.inr a : Key) = Sum.inl b) = false := decide_eq_false (fun q => nomatch q)

def mixKind (prog : Program) (w : World) : PySem.KeyKind prog w Key where
  is := keyIs
  hash := keyH w
  inj := fun v a b ha hb => by
    rcases keyIs_shape ha with ⟨i, t, rfl, rfl⟩ | ⟨x, t, rfl, rfl⟩
    · rcases keyIs_shape hb with ⟨j, u, rfl, e⟩ | ⟨y, u, rfl, e⟩
      · injection e with e1 _; rw [e1]
      · exact nomatch e
    · rcases keyIs_shape hb with ⟨j, u, rfl, e⟩ | ⟨y, u, rfl, e⟩
      · exact nomatch e
      · injection e with e1 _; rw [e1]
  byValue := fun k v h => by
    rcases keyIs_shape h with ⟨i, t, rfl, rfl⟩ | ⟨x, t, rfl, rfl⟩ <;> rfl
  pyHash := fun hv h => by
    rcases keyIs_shape hv with ⟨i, t, rfl, rfl⟩ | ⟨x, t, rfl, rfl⟩
    · exact wpAny_pyHash_int h
    · exact wpAny_pyHash_str h
  eqBool := fun hu hv h => by
    rcases keyIs_shape hu with ⟨i, t, rfl, rfl⟩ | ⟨x, t, rfl, rfl⟩
    · rcases keyIs_shape hv with ⟨j, u, rfl, rfl⟩ | ⟨y, u, rfl, rfl⟩
      · rw [key_ll] at h; exact wpAny_eqBool_int h
      · rw [key_lr] at h; exact SeqAt.EqAt.int_str i t y u _ _ _ _ h
    · rcases keyIs_shape hv with ⟨j, u, rfl, rfl⟩ | ⟨y, u, rfl, rfl⟩
      · rw [key_rl] at h; exact SeqAt.EqAt.str_int x t j u _ _ _ _ h
      · rw [key_rr] at h; exact wpAny_eqBool_str h
  «strs» := fun k x t v h => by
    rcases keyIs_shape h with ⟨i, u, rfl, e⟩ | ⟨y, u, rfl, e⟩
    · exact nomatch e
    · injection e with e1 _
      subst e1
      cases v <;> rfl

theorem mixKind_is (prog : Program) (w : World) (k : Key) (v : Value) : (mixKind prog w).is k v = keyIs k v := rfl
theorem mixKind_int (prog : Program) (w : World) (i : Int) (t : Tok) : (mixKind prog w).is (.inl i) (.int i t) = true := keyIs_int i t
theorem mixKind_str (prog : Program) (w : World) (x : Str) (t : Tok) : (mixKind prog w).is (.inr x) (.str x t) = true := keyIs_str x t
end L2

namespace L2
open PySem PySem.Spec PyProof.Rows

/-- a value, without the heap -/
inductive V where
  | non | bl (b : Bool) | int (i : Int) | str (x : Str) | byt (b : Array UInt8) | flt (b : UInt64) | ref (a : Addr) | ty (n : String)
  deriving DecidableEq

def RelV : V → Value → Prop
  | .non, u => u = Value.none
  | .bl b, u => u = Value.bool b
  | .int i, u => ∃ t, u = Value.int i t
  | .str x, u => ∃ t, u = Value.str x t
  | .byt b, u => ∃ t, u = Value.bytes b t
  | .flt b, u => ∃ t, u = Value.float b t
  | .ref a, u => u = Value.ref a
  | .ty n, u => u = Value.type n

abbrev Vals : List V → List Value → Prop := Paired RelV
theorem Vals.length {xs : List V} {us : List Value} (r : Vals xs us) : xs.length = us.length := Paired.length r
theorem Vals.get : ∀ {xs : List V} {us : List Value} {i : Nat} {x : V}, Vals xs us → xs[i]? = some x → ∃ u, us[i]? = some u ∧ RelV x u
  | _, _, _, _, .nil, e => by simp at e
  | _, _, 0, _, .cons r _, e => by simp at e; subst e; exact ⟨_, rfl, r⟩
  | _, _, i + 1, x, .cons _ t, e => by
    obtain ⟨u, h1, h2⟩ := Vals.get (i := i) (x := x) t (by simpa using e)
    exact ⟨u, by simpa using h1, h2⟩
theorem Vals.set {x : V} {u : Value} (r : RelV x u) : ∀ {xs : List V} {us : List Value} (i : Nat), Vals xs us → Vals (xs.set i x) (us.set i u)
  | _, _, _, .nil => .nil
  | _, _, 0, .cons _ t => .cons r t
  | _, _, i + 1, .cons q t => .cons q (Vals.set r i t)
theorem Vals.append : ∀ {xs ys : List V} {us ws : List Value}, Vals xs us → Vals ys ws → Vals (xs ++ ys) (us ++ ws)
  | _, _, _, _, .nil, s => s
  | _, _, _, _, .cons r t, s => .cons r (Vals.append t s)
theorem Vals.take : ∀ {xs : List V} {us : List Value} (n : Nat), Vals xs us → Vals (xs.take n) (us.take n)
  | _, _, 0, _ => .nil
  | _, _, _ + 1, .nil => .nil
  | _, _, n + 1, .cons r t => .cons r (Vals.take n t)
theorem Vals.drop : ∀ {xs : List V} {us : List Value} (n : Nat), Vals xs us → Vals (xs.drop n) (us.drop n)
  | _, _, 0, r => r
  | _, _, _ + 1, .nil => .nil
  | _, _, n + 1, .cons _ t => Vals.drop n t
theorem Vals.none_of : ∀ {xs : List V} {us : List Value} {i : Nat}, Vals xs us → xs[i]? = none → us[i]? = none := fun {xs us i} r e => by
  have h1 := r.length
  have h2 : xs.length ≤ i := List.getElem?_eq_none_iff.mp e
  exact List.getElem?_eq_none_iff.mpr (by omega)

def RelO : Option V → Option Value → Prop
  | some v, some u => RelV v u
  | none, none => True
  | _, _ => False
def KV {κ : Type} : List (κ × V) → List (κ × Value) → Prop := Paired fun (p : κ × V) (q : κ × Value) => p.1 = q.1 ∧ RelV p.2 q.2

/-- a key of a dict (00_mix): an int or a text -/
def kV : Key → V
  | .inl i => .int i
  | .inr x => .str x

/-- what stands at a tracked address -/
inductive HO where
  /-- a list -/
  | lst (xs : List V)
  /-- a tuple (never changes) -/
  | tup (xs : List V)
  /-- a dict whose keys are ints and texts; one whose keys are tuples of ints and texts (the empty one is both) -/
  | dK (kvs : List (Key × V)) | dT (kvs : List (List Key × V))
  /-- a set of ints: its members, its size -/
  | set (S : Int → Bool) (n : Nat)
  /-- an instance of the class at C, its dict at dx, its attributes -/
  | ins (C dx : Addr) (fs : List (Str × V))
  /-- the dict of the instance at x -/
  | own (x : Addr)
  /-- the dict of an exception -/
  | xd (fs : List (Str × V))
  /-- a bound method, f of x -/
  | met (f x : Addr)
  /-- a range object lo, lo + 1, .. below hi -/
  | rng (lo hi : Int)
  /-- a thing that is known to the object (the script; a dict while a loop walks it): read, never written while it is so -/
  | frz (o : Obj) (u : HO)
  /-- a code object's table -/
  | tbl (ps : Array Value)
  /-- any other thing, by what is true of its one object (a def of one's own: SetO a S n := HO.ext fun h => ..) -/
  | ext (φ : Heap → Prop)

abbrev Hp := Addr → Option HO
def upd (H : Hp) (a : Addr) (o : HO) : Hp := fun b => if b = a then some o else H b
theorem upd_same {H : Hp} {a : Addr} {o : HO} : upd H a o a = some o := by unfold upd; rw [if_pos rfl]
theorem upd_ne {H : Hp} {a b : Addr} {o : HO} (h : b ≠ a) : upd H a o b = H b := by unfold upd; rw [if_neg h]
theorem upd_upd {H : Hp} {a : Addr} {o u : HO} : upd (upd H a o) a u = upd H a u := by
  funext b; unfold upd; split <;> rfl
/-- two objects of different content stand apart -/
theorem ne_of {H : Hp} {a b : Addr} {o u : HO} (h : H a = some o) (h' : H b = some u) (d : o ≠ u) : a ≠ b := by
  intro e; subst e; rw [h] at h'; exact d (Option.some.inj h')
theorem ne_of_none {H : Hp} {a b : Addr} {o : HO} (h : H a = some o) (h' : H b = none) : a ≠ b := by
  intro e; subst e; rw [h] at h'; cases h'

section
variable (P : Program) (w : World)
def ObjOk (H : Hp) (h : Heap) (a : Addr) : HO → Prop
  | .lst xs => xs.length ≤ sizeLine ∧ ∃ (its : List Value) (n : Nat), Vals xs its ∧ h.get? a = some { cls := .type "list", data := .seq its.toArray n }
  | .tup xs => xs.length ≤ sizeLine ∧ ∃ its : List Value, Vals xs its ∧ IsTup h a its.toArray
  | .dK kvs => kvs.length ≤ sizeLine ∧ (a == sysModules) = false ∧ ∃ vs, KV kvs vs ∧ h.DictOf (mixKind P w) a vs
  | .dT kvs => kvs.length ≤ sizeLine ∧ (a == sysModules) = false ∧ ∃ xs : List (List Key × Addr × Value),
      Paired (fun (p : List Key × V) (q : List Key × Addr × Value) => p.1 = q.1 ∧ H q.2.1 = some (.tup (p.1.map kV)) ∧ RelV p.2 q.2.2) kvs xs ∧
      ∃ o es ep, h.get? a = some o ∧ o.ExactDict ∧ o.data = .dict es ep ∧ es.toList = xs.map (entryOfKey (tupleKind (mixKind P w))) ∧ (xs.map (·.1)).Nodup
  | .set S n => h.SetOf (intKind P w) a S n
  | .ins C dx fs => H dx = some (.own a) ∧ fs.length ≤ 1000 ∧ dx ≠ a ∧ h.get? a = some (PySem.W.instObj C dx) ∧
      ∃ mA, h.Ns1 dx mA ∧ (∀ f, RelO (fs.lookup f) (mA f)) ∧ PySem.Within mA (fs.map (·.1))
  | .own _ => ∃ o, h.get? a = some o
  | .xd fs => ∃ mA, h.Ns1 a mA ∧ ∀ f, RelO (fs.lookup f) (mA f)
  | .rng lo hi => ∃ t u v, h.get? a = some { cls := .type "range", data := .fields #[.int lo t, .int hi u, .int 1 v] }
  | .frz o u => h.get? a = some o ∧ ObjOk H h a u
  | .tbl ps => h.get? a = some { cls := .none, data := .fields ps }
  | .met f x => h.get? a = some (PySem.W.methodObj (.ref f) (.ref x))
  | .ext φ => φ h ∧ (∃ o, h.get? a = some o) ∧ ∀ h1 h2 : Heap, φ h1 → (∀ o, h1.get? a = some o → h2.get? a = some o) → φ h2
/-- the abstract heap is held -/
def HOk (H : Hp) (h : Heap) : Prop := ∀ a o, H a = some o → ObjOk P w H h a o
end

section
variable {P : Program} {w : World} {H H' : Hp} {h h' : Heap} {a : Addr} {o : HO}
theorem ObjOk.lt (x : ObjOk P w H h a o) : a < h.objs.size := by
  cases o with
  | lst xs => obtain ⟨_, _, _, _, e⟩ := x; exact Heap.lt_size e
  | tup xs => obtain ⟨_, _, _, p⟩ := x; exact p.lt
  | dK kvs => obtain ⟨_, _, _, _, o, _, _, e, _⟩ := x; exact Heap.lt_size e
  | dT kvs => obtain ⟨_, _, _, _, o, _, _, e, _⟩ := x; exact Heap.lt_size e
  | set S n => obtain ⟨o, _, _, _, e, _⟩ := x; exact Heap.lt_size e
  | ins C dx fs => obtain ⟨_, _, _, e, _⟩ := x; exact Heap.lt_size e
  | own y => obtain ⟨_, e⟩ := x; exact Heap.lt_size e
  | xd fs => obtain ⟨_, ⟨_, _, _, e, _⟩, _⟩ := x; exact Heap.lt_size e
  | rng lo hi => obtain ⟨_, _, _, e⟩ := x; exact Heap.lt_size e
  | frz ob u => obtain ⟨e, _⟩ := x; exact Heap.lt_size e
  | tbl ps => exact Heap.lt_size (show h.get? a = some _ from x)
  | met f y => exact Heap.lt_size (show h.get? a = some _ from x)
  | ext φ => obtain ⟨_, ⟨_, e⟩, _⟩ := x; exact Heap.lt_size e
theorem Paired.mapP {α β : Type} {F G : α → β → Prop} : ∀ {l₁ : List α} {l₂ : List β}, Paired F l₁ l₂ → (∀ a b, F a b → G a b) → Paired G l₁ l₂
  | _, _, .nil, _ => .nil
  | _, _, .cons r t, f => .cons (f _ _ r) (Paired.mapP t f)
theorem Paired.imp' {α β : Type} {F G : α → β → Prop} (f : ∀ a b, F a b → G a b) {l₁ : List α} {l₂ : List β} (r : Paired F l₁ l₂) : Paired G l₁ l₂ := Paired.mapP r f
/-- what an object's description leans on: its own object, its own dict, the tuples -/
theorem ObjOk.stay (x : ObjOk P w H h a o) (k : ∀ b u, (b = a ∨ H b = some (.own a)) → h.get? b = some u → h'.get? b = some u)
    (ho : ∀ b, H b = some (.own a) → H' b = some (.own a)) (ht : ∀ b xs, H b = some (.tup xs) → H' b = some (.tup xs)) : ObjOk P w H' h' a o := by
  induction o with
  | lst xs => obtain ⟨z, its, n, r, e⟩ := x; exact ⟨z, its, n, r, k _ _ (.inl rfl) e⟩
  | tup xs => obtain ⟨z, its, r, ob, e, c⟩ := x; exact ⟨z, its, r, ob, k _ _ (.inl rfl) e, c⟩
  | dK kvs => obtain ⟨z, y, vs, r, ob, es, ep, e, c⟩ := x; exact ⟨z, y, vs, r, ob, es, ep, k _ _ (.inl rfl) e, c⟩
  | dT kvs =>
    obtain ⟨z, y, xs, r, ob, es, ep, e, c⟩ := x
    exact ⟨z, y, xs, Paired.mapP r fun p q z => ⟨z.1, ht _ _ z.2.1, z.2.2⟩, ob, es, ep, k _ _ (.inl rfl) e, c⟩
  | set S n => obtain ⟨ob, es, ep, t, e, c⟩ := x; exact ⟨ob, es, ep, t, k _ _ (.inl rfl) e, c⟩
  | ins C dx fs =>
    obtain ⟨d, z, ne, e, mA, ⟨od, es, ep, e2, c⟩, r⟩ := x
    exact ⟨ho _ d, z, ne, k _ _ (.inl rfl) e, mA, ⟨od, es, ep, k _ _ (.inr d) e2, c⟩, r⟩
  | own y => obtain ⟨ob, e⟩ := x; exact ⟨ob, k _ _ (.inl rfl) e⟩
  | xd fs => obtain ⟨mA, ⟨od, es, ep, e, c⟩, r⟩ := x; exact ⟨mA, ⟨od, es, ep, k _ _ (.inl rfl) e, c⟩, r⟩
  | rng lo hi => obtain ⟨t, u, v, e⟩ := x; exact ⟨t, u, v, k _ _ (.inl rfl) e⟩
  | frz ob u ih => obtain ⟨e, q⟩ := x; exact ⟨k _ _ (.inl rfl) e, ih q⟩
  | tbl ps =>
    have e : h.get? a = some { cls := .none, data := .fields ps } := x
    show h'.get? a = some { cls := .none, data := .fields ps }
    exact k a _ (.inl rfl) e
  | met f y =>
    have e : h.get? a = some (PySem.W.methodObj (.ref f) (.ref y)) := x
    show h'.get? a = some (PySem.W.methodObj (.ref f) (.ref y))
    exact k a _ (.inl rfl) e
  | ext φ => obtain ⟨p, ⟨o, e⟩, st⟩ := x; exact ⟨st _ _ p fun o q => k _ _ (.inl rfl) q, ⟨o, k _ _ (.inl rfl) e⟩, st⟩
theorem HOk.lt (x : HOk P w H h) (e : H a = some o) : a < h.objs.size := (x a o e).lt
theorem HOk.fresh (x : HOk P w H h) (e : h.objs.size ≤ a) : H a = none := by
  cases q : H a with
  | none => rfl
  | some u => exact absurd (Nat.lt_of_lt_of_le (x.lt q) e) (Nat.lt_irrefl _)
/-- every object of the heap is kept -/
theorem HOk.kept (x : HOk P w H h) (k : ∀ b u, h.get? b = some u → h'.get? b = some u) : HOk P w H h' := fun a o e =>
  (x a o e).stay (fun b u _ q => k b u q) (fun _ q => q) fun _ _ q => q
/-- a new object is laid and tracked -/
theorem HOk.laid (x : HOk P w H h) (k : ∀ b u, h.get? b = some u → h'.get? b = some u) (hp : h.objs.size ≤ a) (new : ObjOk P w (upd H a o) h' a o) : HOk P w (upd H a o) h' := fun b u e => by
  have hn := x.fresh hp
  by_cases hb : b = a
  · subst hb; rw [upd_same] at e; cases e; exact new
  · rw [upd_ne hb] at e
    exact (x b u e).stay (fun c v _ q => k c v q) (fun c q => by rw [upd_ne (ne_of_none q hn)]; exact q) fun c xs q => by rw [upd_ne (ne_of_none q hn)]; exact q
end

/-- what may be read as u: it is u, or a known u -/
def Rd (H : Hp) (a : Addr) (u : HO) : Prop := H a = some u ∨ ∃ o, H a = some (.frz o u)
theorem Rd.of {H : Hp} {a : Addr} {u : HO} (h : H a = some u) : Rd H a u := .inl h
theorem Rd.ok {P : Program} {w : World} {H : Hp} {h : Heap} {a : Addr} {u : HO} (r : Rd H a u) (x : HOk P w H h) : ObjOk P w H h a u := by
  rcases r with r | ⟨o, r⟩
  · exact x a u r
  · obtain ⟨_, q⟩ := x a _ r
    exact q
/-- what may be written -/
def Mut : Option HO → Prop
  | some (.lst _) => True
  | some (.dK _) => True
  | some (.dT _) => True
  | some (.set _ _) => True
  | some (.ins _ _ _) => True
  | some (.ext _) => True
  | _ => False
section
variable {P : Program} {w : World} {H : Hp} {h h' : Heap} {x e : Addr} {o' : HO}
/-- the object at e is changed: x itself, or the dict of the instance x -/
theorem HOk.write (ok : HOk P w H h) (mu : Mut (H x)) (he : e = x ∨ H e = some (.own x)) (k : ∀ b u, b ≠ e → h.get? b = some u → h'.get? b = some u) (heo : ∃ u, h'.get? e = some u)
    (new : ObjOk P w (upd H x o') h' x o') : HOk P w (upd H x o') h' := fun b u q => by
  have nown : ∀ c y, H c = some (.own y) → c ≠ x := fun c y r z => by subst z; rw [r] at mu; exact mu
  have ntup : ∀ c xs, H c = some (.tup xs) → c ≠ x := fun c xs r z => by subst z; rw [r] at mu; exact mu
  by_cases hb : b = x
  · subst hb; rw [upd_same] at q; cases q; exact new
  · rw [upd_ne hb] at q
    by_cases hbe : b = e
    · have q' : H b = some (.own x) := by
        rcases he with z | z
        · exact absurd (hbe.trans z) hb
        · rw [hbe]; exact z
      rw [q] at q'; cases q'
      obtain ⟨v, hv⟩ := heo
      exact ⟨v, by rw [hbe]; exact hv⟩
    · refine (ok b u q).stay (fun c v hc r => k c v ?_ r) (fun c r => by rw [upd_ne (nown c b r)]; exact r) fun c xs r => by rw [upd_ne (ntup c xs r)]; exact r
      rcases hc with rfl | hc
      · exact hbe
      · rintro rfl
        rcases he with z | z
        · exact nown c b hc z
        · rw [hc] at z; cases z; exact hb rfl
end

/-! ### kept unless tracked; of the frames at fs (the callers') the slots may change (an exception that passes writes there); of the records at ex (iterators) nothing is said -/
structure Un (fs ex : List Addr) (H H' : Hp) (h h' : Heap) : Prop where
  keep : ∀ b o, h.get? b = some o → H b = none → b ∉ fs → b ∉ ex → h'.get? b = some o
  slot : ∀ b o, h.get? b = some o → H b = none → b ∈ fs → b ∉ ex → ∃ sl, h'.get? b = some { o with slots := sl }
  free : ∀ b o, h.get? b = some o → H b = none → b ∉ ex → H' b = none
  there : ∀ b o, h.get? b = some o → b ∉ ex → ∃ o', h'.get? b = some o'
  tups : ∀ b xs, H b = some (.tup xs) → H' b = some (.tup xs)
  frzs : ∀ b o u, H b = some (.frz o u) → H' b = some (.frz o u)
  tbls : ∀ b ps, H b = some (.tbl ps) → ∃ more, H' b = some (.tbl (ps ++ more))
section
variable {fs fs' ex ex' : List Addr} {H H1 H2 : Hp} {h h1 h2 h' : Heap} {a x e : Addr} {o : HO}
theorem Un.any (u : Un fs ex H H1 h h1) {b : Addr} {ob : Obj} (q : h.get? b = some ob) (n : H b = none) (hx : b ∉ ex) : ∃ sl, h1.get? b = some { ob with slots := sl } := by
  by_cases hb : b ∈ fs
  · exact u.slot b ob q n hb hx
  · exact ⟨ob.slots, u.keep b ob q n hb hx⟩
theorem Un.trans (a : Un fs ex H H1 h h1) (b : Un fs ex H1 H2 h1 h2) : Un fs ex H H2 h h2 where
  keep := fun c ob q n hc hx => b.keep c ob (a.keep c ob q n hc hx) (a.free c ob q n hx) hc hx
  slot := fun c ob q n hc hx => by
    obtain ⟨sl, e1⟩ := a.slot c ob q n hc hx
    obtain ⟨sl', e2⟩ := b.slot c _ e1 (a.free c ob q n hx) hc hx
    exact ⟨sl', e2⟩
  free := fun c ob q n hx => by
    obtain ⟨o', e1⟩ := a.there c ob q hx
    exact b.free c o' e1 (a.free c ob q n hx) hx
  there := fun c ob q hx => by
    obtain ⟨o', e1⟩ := a.there c ob q hx
    exact b.there c o' e1 hx
  tups := fun c xs q => b.tups c xs (a.tups c xs q)
  frzs := fun c ob xs q => b.frzs c ob xs (a.frzs c ob xs q)
  tbls := fun c ps q => by
    obtain ⟨m1, e1⟩ := a.tbls c ps q
    obtain ⟨m2, e2⟩ := b.tbls c _ e1
    exact ⟨m1 ++ m2, by rw [e2, Array.append_assoc]⟩
theorem Un.kept (k : ∀ b u, h.get? b = some u → h'.get? b = some u) : Un fs ex H H h h' :=
  ⟨fun b ob q _ _ _ => k b ob q, fun b ob q _ _ _ => ⟨ob.slots, k b ob q⟩, fun _ _ _ n _ => n, fun b ob q _ => ⟨ob, k b ob q⟩, fun _ _ q => q, fun _ _ _ q => q, fun _ ps q => ⟨#[], by rw [q]; simp⟩⟩
theorem Un.refl : Un fs ex H H h h := Un.kept fun _ _ q => q
theorem Un.laid (k : ∀ b u, h.get? b = some u → h'.get? b = some u) (hp : h.objs.size ≤ a) (hn : H a = none) : Un fs ex H (upd H a o) h h' where
  keep := fun b u q _ _ _ => k b u q
  slot := fun b u q _ _ _ => ⟨u.slots, k b u q⟩
  free := fun b u q n _ => by rw [upd_ne (Nat.ne_of_lt (Nat.lt_of_lt_of_le (Heap.lt_size q) hp))]; exact n
  there := fun b u q _ => ⟨u, k b u q⟩
  tups := fun b xs q => by rw [upd_ne (ne_of_none q hn)]; exact q
  frzs := fun b u xs q => by rw [upd_ne (ne_of_none q hn)]; exact q
  tbls := fun b ps q => ⟨#[], by rw [upd_ne (ne_of_none q hn), q]; simp⟩
theorem Un.write (mu : Mut (H x)) (he : e = x ∨ H e = some (.own x)) (k : ∀ b u, b ≠ e → h.get? b = some u → h'.get? b = some u) (heo : ∃ u, h'.get? e = some u) : Un fs ex H (upd H x o) h h' := by
  have hx : ∀ b, H b = none → b ≠ x := fun b n z => by subst z; rw [n] at mu; exact mu
  have hb : ∀ b, H b = none → b ≠ e := fun b n z => by
    subst z
    rcases he with r | r
    · exact hx b n r
    · rw [n] at r; cases r
  have hm : ∀ b u, H b = some u → ¬ Mut (some u) → b ≠ x := fun b u q nm z => by subst z; rw [q] at mu; exact nm mu
  refine ⟨fun b u q n _ _ => k b u (hb b n) q, fun b u q n _ _ => ⟨u.slots, k b u (hb b n) q⟩, fun b u q n _ => by rw [upd_ne (hx b n)]; exact n, fun b u q _ => ?_,
    fun b xs q => by rw [upd_ne (hm b _ q fun z => z)]; exact q, fun b u xs q => by rw [upd_ne (hm b _ q fun z => z)]; exact q, fun b ps q => ⟨#[], by rw [upd_ne (hm b _ q fun z => z), q]; simp⟩⟩
  by_cases hbe : b = e
  · subst hbe; exact heo
  · exact ⟨u, k b u hbe q⟩
theorem Un.mono (u : Un fs ex H H1 h h1) (hs : ∀ b ∈ fs, b ∈ fs') (hx : ∀ b ∈ ex, b ∈ ex') : Un fs' ex' H H1 h h1 :=
  ⟨fun b ob q n hb he => u.keep b ob q n (fun z => hb (hs b z)) fun z => he (hx b z), fun _ _ q n _ he => u.any q n fun z => he (hx _ z), fun b ob q n he => u.free b ob q n fun z => he (hx b z), fun b ob q he => u.there b ob q fun z => he (hx b z), u.tups, u.frzs, u.tbls⟩
end

/-! ### the heap without what is tracked -/
def trk (h : Heap) (H : Hp) : List Addr := (List.range h.objs.size).filter fun a => (H a).isSome
def hidT (h : Heap) (H : Hp) : Heap := PySem.W.hideAll h (trk h H)
theorem hidT_size (h : Heap) (H : Hp) : (hidT h H).objs.size = h.objs.size := PySem.W.hideAll_size _ _
theorem hidT_get {h : Heap} {H : Hp} {b : Addr} {o : Obj} (e : h.get? b = some o) (n : H b = none) : (hidT h H).get? b = some o :=
  PySem.W.hideAll_get _ e fun hm => by
    have q : (H b).isSome = true := (List.mem_filter.mp hm).2
    rw [n] at q; simp at q
theorem of_hidT {h : Heap} {H : Hp} {b : Addr} {o : Obj} (e : (hidT h H).get? b = some o) : h.get? b = some o ∧ H b = none := by
  have e' : h.get? b = some o := PySem.W.of_hideAll (trk h H) e
  refine ⟨e', ?_⟩
  cases q : H b with
  | none => rfl
  | some x =>
    have hm : b ∈ trk h H := List.mem_filter.mpr ⟨List.mem_range.mpr (Heap.lt_size e'), by simp [q]⟩
    have z : (hidT h H).get? b = none := PySem.W.hideAll_none (trk h H) hm
    rw [z] at e; cases e

/-! ### OpenK's ledger, filled with every new object but one -/
def allNews (g h : Heap) (L : Addr) : List (Addr × Obj) := (List.range h.objs.size).filterMap fun a => if a = L ∨ (g.get? a).isSome = true then none else (h.get? a).map fun o => (a, o)
theorem mem_allNews {g h : Heap} {L a : Addr} {o : Obj} (h1 : a ≠ L) (h2 : g.get? a = none) (h3 : h.get? a = some o) : (a, o) ∈ allNews g h L :=
  List.mem_filterMap.mpr ⟨a, List.mem_range.mpr (Heap.lt_size h3), by simp [h1, h2, h3]⟩
theorem of_mem_allNews {g h : Heap} {L : Addr} {p : Addr × Obj} (hp : p ∈ allNews g h L) : p.1 ≠ L ∧ g.get? p.1 = none ∧ h.get? p.1 = some p.2 := by
  obtain ⟨b, _, e⟩ := List.mem_filterMap.mp hp
  split at e
  · cases e
  · rename_i hn
    cases q : h.get? b with
    | none => rw [q] at e; simp at e
    | some u =>
      rw [q] at e
      simp only [Option.map_some, Option.some.injEq] at e
      subst e
      refine ⟨fun z => hn (.inl z), ?_, q⟩
      show g.get? b = none
      cases r : g.get? b with
      | none => rfl
      | some v => exact (hn (.inr (by simp [r]))).elim
def rest (g h : Heap) (L d : Addr) : List (Addr × Obj) := (allNews g h L).filter fun p => decide (p.1 ≠ d)
theorem rest_ne {g h : Heap} {L d : Addr} : ∀ p ∈ rest g h L d, p.1 ≠ d := fun p hp => of_decide_eq_true (List.mem_filter.mp hp).2
theorem mem_rest {g h : Heap} {L d a : Addr} {o : Obj} (h1 : a ≠ L) (h2 : g.get? a = none) (h3 : h.get? a = some o) (h4 : a ≠ d) : (a, o) ∈ rest g h L d :=
  List.mem_filter.mpr ⟨mem_allNews h1 h2 h3, decide_eq_true h4⟩
theorem news_all {g h : Heap} {L : Addr} : News g L h (allNews g h L) := fun p hp => let ⟨a, b, c⟩ := of_mem_allNews hp; ⟨c, a, b⟩
theorem news_at {g h : Heap} {L d : Addr} {o : Obj} (h1 : d ≠ L) (h2 : g.get? d = none) (h3 : h.get? d = some o) : News g L h ((d, o) :: rest g h L d) := fun p hp => by
  rcases List.mem_cons.mp hp with rfl | hp
  · exact ⟨h3, h1, h2⟩
  · exact news_all p (List.mem_filter.mp hp).1
/-- behind a rule that changed d alone: all else but the frame is kept -/
theorem kept_of_news {g h h' : Heap} {L d : Addr} {m : Str → Option Value} (k : ∀ b o, g.get? b = some o → h.get? b = some o) (F : Fr g L h' m) (N : News g L h' (rest g h L d)) :
    ∀ b o, b ≠ L → b ≠ d → h.get? b = some o → h'.get? b = some o := fun b o h1 h2 e => by
  cases q : g.get? b with
  | some u =>
    have := k b u q
    rw [e] at this; cases this
    exact F.keep b _ q
  | none => exact (N (b, o) (mem_rest h1 q e h2)).1
end L2

namespace L2
open PySem PySem.Spec PyProof.Rows

/-- the module's facts, over the base: the heap at the law's entry without what is tracked there -/
structure Mod (K : PySem.W.Frag) (mg : Str → Option Value) (base : Heap) : Prop where
  kin : K.In base
  glob : base.Ns mainGlobals mg
  blt : ∃ mb, base.Ns builtinsNs mb ∧ ∀ x : Str, x ≠ "__name__" → mb x = bootBuiltins x
  nolimit : base.NoLimit

/-- the context: a def's body (or a comprehension's block) running. base: fixed through the whole law; s₀, H₀: the entry; outer: the frames whose slots others may change (a def's callers); stack: all frames that run;
   ex: iterators that were made ahead of the entry and are walked here (a comprehension's); fn: the names whose cells were made at the entry (a def: all; a comprehension's block: its own); calm: not within an except suite; pn: pins that every state bears; xe: what is wanted of an exception that leaves the code -/
structure Cx where
  prog : Program
  w : World
  K : PySem.W.Frag
  mg : Str → Option Value
  base : Heap
  A : Around
  N : List Str
  s₀ : Shared
  H₀ : Hp
  env : Env
  outer : List Env
  stack : List Env
  ex : List Addr
  fn : Str → Bool
  calm : Bool
  pn : List (Addr × Obj)
  xe : Value → Shared → Prop
/-- the callers' frames -/
def frs (l : List Env) : List Addr := l.filterMap (·.frame)
abbrev Cx.fs (X : Cx) : List Addr := frs X.outer

def Vis (sc : Scope) (x : Str) : Prop := sc.names.lookup x = some .local ∨ sc.names.lookup x = some .cell ∨ sc.names.lookup x = some .free
def Loc (sc : Scope) (x : Str) : Prop := sc.names.lookup x = some .local ∨ sc.names.lookup x = some .cell
def Look (env : Env) (h : Heap) (m : Str → Option Value) (x : Str) (u : Value) : Prop :=
  (env.kindOf x = some .local ∧ m x = some u) ∨ ((env.kindOf x = some .cell ∨ env.kindOf x = some .free) ∧ ∃ c, env.cells.lookup x = some c ∧ h.IsCell c (some u))

structure Cx.Ok (X : Cx) : Prop where
  mod : Mod X.K X.mg X.base
  kind : X.env.scope.kind = .function
  glob : X.env.globals = mainGlobals
  blt : X.env.builtins = builtinsNs
  above : X.s₀.heap.objs.size ≤ X.env.locals
  inj : ∀ x y c, X.env.cells.lookup x = some c → X.env.cells.lookup y = some c → x = y
  has : ∀ x, (X.env.kindOf x = some .cell ∨ X.env.kindOf x = some .free) → ∃ c, X.env.cells.lookup x = some c
  cab : ∀ x c, X.fn x = true → X.env.cells.lookup x = some c → X.s₀.heap.objs.size ≤ c
  hd : X.calm = true → X.A.handled = none
  frames : X.A.frames = some X.stack
  stk : X.stack = X.outer ∨ (X.stack = X.env :: X.outer ∧ X.env.frame = some X.env.locals)
  exf : ∀ b ∈ X.ex, b ≠ X.env.locals ∧ ∀ x c, X.env.cells.lookup x = some c → c ≠ b
  bs : ∀ b o, X.base.get? b = some o → X.s₀.heap.get? b = some o ∧ X.H₀ b = none
  bsz : X.base.objs.size ≤ X.s₀.heap.objs.size
  noex : ∀ b o, X.base.get? b = some o → b ∉ X.ex
  exfs : ∀ b ∈ X.ex, b ∉ X.fs
  funs : X.s₀.heap.FunFrames X.base X.outer
  frf : ∀ b ∈ X.fs, X.H₀ b = none

structure Inv (X : Cx) (pins : List (Addr × Obj)) (σ : List (Option V)) (H : Hp) (s : Shared) : Prop where
  ok : X.Ok
  os : s.os = X.s₀.os
  bare : AllBare s.gens
  base : Un X.fs X.ex X.H₀ H X.s₀.heap s.heap
  loc : ∃ m, s.heap.Ns X.env.locals m ∧ ∀ (i : Nat) (x : Str) (v : V), X.N[i]? = some x → σ[i]? = some (some v) → Vis X.env.scope x → ∃ u, RelV v u ∧ Look X.env s.heap m x u
  cell : ∀ x c, X.env.cells.lookup x = some c → ∃ v, s.heap.IsCell c v
  free : H X.env.locals = none
  freeC : ∀ x c, X.env.cells.lookup x = some c → H c = none
  pin : ∀ p ∈ X.pn ++ pins, s.heap.get? p.1 = some p.2 ∧ H p.1 = none ∧ p.1 ≠ X.env.locals ∧ p.1 ∉ X.fs ∧ ∀ v, p.2.data ≠ .cell v
  hok : HOk X.prog X.w H s.heap
  len : σ.length = X.N.length

section
variable {X : Cx} {pins : List (Addr × Obj)} {σ : List (Option V)} {H H' : Hp} {s : Shared} {h' : Heap}

theorem Cx.Ok.nofr (ok : X.Ok) {b : Addr} {o : Obj} (e : X.base.get? b = some o) : b ∉ X.fs := fun hb => by
  have := (ok.funs.mem hb).1
  rw [e] at this; cases this
theorem Inv.bs (I : Inv X pins σ H s) : ∀ b o, X.base.get? b = some o → s.heap.get? b = some o ∧ H b = none := fun b o e =>
  ⟨I.base.keep b o (I.ok.bs b o e).1 (I.ok.bs b o e).2 (I.ok.nofr e) (I.ok.noex b o e), I.base.free b o (I.ok.bs b o e).1 (I.ok.bs b o e).2 (I.ok.noex b o e)⟩
theorem Inv.bk (I : Inv X pins σ H s) : ∀ b o, X.base.get? b = some o → s.heap.get? b = some o := fun b o e => (I.bs b o e).1
theorem Inv.mod (I : Inv X pins σ H s) : Mod X.K X.mg X.base := I.ok.mod
theorem Inv.kIn (I : Inv X pins σ H s) : X.K.In s.heap := I.ok.mod.kin.keeps I.bk
theorem Inv.nolimit (I : Inv X pins σ H s) : s.heap.NoLimit := I.ok.mod.nolimit.keeps I.bk
/-- the frame over the base: for OpenK's rules (K.In X.base is I.mod.kin) -/
theorem Inv.fr (I : Inv X pins σ H s) : ∃ m, Fr X.base X.env.locals s.heap m :=
  let ⟨m, hn, _⟩ := I.loc
  ⟨m, hn, I.bk, Nat.le_trans I.ok.bsz I.ok.above⟩
theorem Inv.lt (I : Inv X pins σ H s) : X.env.locals < s.heap.objs.size := let ⟨_, hn, _⟩ := I.loc; hn.lt
theorem Inv.sz (I : Inv X pins σ H s) : X.s₀.heap.objs.size ≤ s.heap.objs.size := Nat.le_trans I.ok.above (Nat.le_of_lt I.lt)
theorem Inv.nofs (I : Inv X pins σ H s) {a : Addr} (h : s.heap.objs.size ≤ a) : a ∉ X.fs := fun hb => by
  obtain ⟨_, o, ho, _⟩ := I.ok.funs.mem hb
  exact absurd (Nat.lt_of_lt_of_le (Heap.lt_size ho) (Nat.le_trans I.sz h)) (Nat.lt_irrefl _)
theorem Inv.cne (I : Inv X pins σ H s) : ∀ x c, X.env.cells.lookup x = some c → c ≠ X.env.locals := fun x c e z => by
  obtain ⟨v, o, ho, hd⟩ := I.cell x c e
  obtain ⟨m, ⟨o', es, ep, ho', hd', _⟩, _⟩ := I.loc
  rw [z, ho'] at ho; cases ho; rw [hd'] at hd; cases hd
theorem Inv.funs (I : Inv X pins σ H s) : s.heap.FunFrames X.base X.outer := by
  have all : ∀ (l : List Env), (∀ b ∈ frs l, b ∈ X.fs) → X.s₀.heap.FunFrames X.base l → s.heap.FunFrames X.base l := by
    intro l
    induction l with
    | nil => intro _ _; trivial
    | cons env r ih =>
      intro hs hl
      obtain ⟨hk, ⟨L, o, hf, hn, ho, hd⟩, hr⟩ := hl
      have hL : L ∈ X.fs := hs L (by unfold frs; rw [List.filterMap_cons, hf]; exact List.mem_cons_self)
      obtain ⟨sl, e⟩ := I.base.slot L o ho (I.ok.frf L hL) hL fun z => I.ok.exfs L z hL
      exact ⟨hk, ⟨L, _, hf, hn, e, hd⟩, ih (fun b hb => hs b (by unfold frs; rw [List.filterMap_cons, hf]; exact List.mem_cons_of_mem _ hb)) hr⟩
  exact all X.outer (fun _ hb => hb) I.ok.funs

/-- the frames that run, for a call -/
theorem Inv.stack (I : Inv X pins σ H s) : s.heap.FunFrames X.base X.stack := by
  rcases I.ok.stk with e | ⟨e, hf⟩
  · rw [e]; exact I.funs
  · rw [e]
    obtain ⟨m, hn, _⟩ := I.loc
    refine .cons (by rw [I.ok.kind]; decide) hf hn ?_ I.funs
    exact Heap.get?_none_of_le (Nat.le_trans I.ok.bsz I.ok.above)
theorem Inv.stkSub (I : Inv X pins σ H s) : ∀ b ∈ frs X.stack, b ∈ X.env.locals :: X.fs := fun b hb => by
  rcases I.ok.stk with e | ⟨e, hf⟩
  · rw [e] at hb; exact List.mem_cons_of_mem _ hb
  · rw [e] at hb
    unfold frs at hb
    rw [List.filterMap_cons, hf] at hb
    exact hb
theorem Inv.stkFree (I : Inv X pins σ H s) : ∀ b ∈ frs X.stack, H b = none := fun b hb => by
  rcases List.mem_cons.mp (I.stkSub b hb) with e | hb
  · rw [e]; exact I.free
  · obtain ⟨_, o, ho, _⟩ := I.ok.funs.mem hb
    exact I.base.free b o ho (I.ok.frf b hb) fun z => I.ok.exfs b z hb

/-- THE STEP: the untracked objects but the frame and the records at ch are kept (the callers' frames up to slots), the frame's map is kept, the new abstract heap is held -/
theorem Inv.step {g' : Array GenState} {t' : Nat} {d' : Drawn} {ch : List Addr} (I : Inv X pins σ H s)
    (hch : ∀ b ∈ ch, (b ∈ X.ex ∨ X.s₀.heap.objs.size ≤ b) ∧ b ≠ X.env.locals ∧ (∀ x c, X.env.cells.lookup x = some c → c ≠ b) ∧ ∀ p ∈ X.pn ++ pins, p.1 ≠ b)
    (keep : ∀ b o, b ≠ X.env.locals → b ∉ X.fs → b ∉ ch → s.heap.get? b = some o → H b = none → h'.get? b = some o)
    (slot : ∀ b o, b ≠ X.env.locals → b ∈ X.fs → b ∉ ch → s.heap.get? b = some o → H b = none → ∃ sl, h'.get? b = some { o with slots := sl }) (free : ∀ b o, b ∉ ch → s.heap.get? b = some o → H b = none → H' b = none)
    (there : ∀ b o, b ∉ ch → s.heap.get? b = some o → ∃ o', h'.get? b = some o')
    (tups : ∀ b xs, H b = some (.tup xs) → H' b = some (.tup xs)) (frzs : ∀ b o u, H b = some (.frz o u) → H' b = some (.frz o u)) (tbls : ∀ b ps, H b = some (.tbl ps) → ∃ more, H' b = some (.tbl (ps ++ more)))
    (ns : ∀ m, s.heap.Ns X.env.locals m → h'.Ns X.env.locals m) (hok : HOk X.prog X.w H' h') (hg : AllBare g') :
    Inv X pins σ H' { s with heap := h', gens := g', drawn := d', toks := t' } := by
  have neL : ∀ b o, X.s₀.heap.get? b = some o → b ≠ X.env.locals := fun b o e => Nat.ne_of_lt (Nat.lt_of_lt_of_le (Heap.lt_size e) I.ok.above)
  have neC : ∀ b o, X.s₀.heap.get? b = some o → b ∉ X.ex → b ∉ ch := fun b o e hx hb => by
    rcases (hch b hb).1 with z | z
    · exact hx z
    · exact absurd (Nat.lt_of_lt_of_le (Heap.lt_size e) z) (Nat.lt_irrefl _)
  have cellK : ∀ x c, X.env.cells.lookup x = some c → ∀ v, s.heap.IsCell c v → h'.IsCell c v := fun x c e v ⟨o, ho, hd⟩ => by
    have nch : c ∉ ch := fun z => (hch c z).2.2.1 x c e rfl
    by_cases hc : c ∈ X.fs
    · obtain ⟨sl, q⟩ := slot c o (I.cne x c e) hc nch ho (I.freeC x c e)
      exact ⟨_, q, hd⟩
    · exact ⟨o, keep c o (I.cne x c e) hc nch ho (I.freeC x c e), hd⟩
  refine ⟨I.ok, I.os, hg, ⟨fun b o e n hb hx => ?_, fun b o e n hb hx => ?_, fun b o e n hx => ?_, fun b o e hx => ?_, fun b xs e => tups b xs (I.base.tups b xs e), fun b o xs e => frzs b o xs (I.base.frzs b o xs e), fun b ps e => ?_⟩, ?_, fun x c e => ?_, ?_, fun x c e => ?_, fun p hp => ?_, hok, I.len⟩
  · exact keep b o (neL b o e) hb (neC b o e hx) (I.base.keep b o e n hb hx) (I.base.free b o e n hx)
  · obtain ⟨sl, e1⟩ := I.base.slot b o e n hb hx
    obtain ⟨sl', e2⟩ := slot b _ (neL b o e) hb (neC b o e hx) e1 (I.base.free b o e n hx)
    exact ⟨sl', e2⟩
  · obtain ⟨o', e1⟩ := I.base.there b o e hx
    exact free b o' (neC b o e hx) e1 (I.base.free b o e n hx)
  · obtain ⟨o', e1⟩ := I.base.there b o e hx
    exact there b o' (neC b o e hx) e1
  · obtain ⟨m1, e1⟩ := I.base.tbls b ps e
    obtain ⟨m2, e2⟩ := tbls b _ e1
    exact ⟨m1 ++ m2, by rw [e2, Array.append_assoc]⟩
  · obtain ⟨m, hn, hl⟩ := I.loc
    refine ⟨m, ns m hn, fun i x v e1 e2 e3 => ?_⟩
    obtain ⟨u, r, l⟩ := hl i x v e1 e2 e3
    refine ⟨u, r, ?_⟩
    rcases l with l | ⟨k, c, e, z⟩
    · exact .inl l
    · exact .inr ⟨k, c, e, cellK x c e _ z⟩
  · obtain ⟨v, z⟩ := I.cell x c e
    exact ⟨v, cellK x c e v z⟩
  · obtain ⟨m, ⟨o, _, _, ho, _⟩, _⟩ := I.loc
    exact free _ o (fun z => (hch _ z).2.1 rfl) ho I.free
  · obtain ⟨v, o, ho, hd⟩ := I.cell x c e
    exact free c o (fun z => (hch c z).2.2.1 x c e rfl) ho (I.freeC x c e)
  · obtain ⟨e, n, ne, nf, d⟩ := I.pin p hp
    have nch : p.1 ∉ ch := fun z => (hch p.1 z).2.2.2 p hp rfl
    exact ⟨keep p.1 p.2 ne nf nch e n, free p.1 p.2 nch e n, ne, nf, d⟩
/-- .. where the frame's own object is kept too -/
theorem Inv.un {t' : Nat} (I : Inv X pins σ H s) (u : Un X.fs [] H H' s.heap h') (hok : HOk X.prog X.w H' h') : Inv X pins σ H' { s with heap := h', toks := t' } := by
  obtain ⟨m, ⟨o, es, ep, ho, r⟩, _⟩ := id I.loc
  obtain ⟨sl, hL⟩ := u.any ho I.free (by simp)
  exact I.step (g' := s.gens) (d' := s.drawn) (ch := []) (fun _ z => nomatch z) (fun b o _ hb _ e n => u.keep b o e n hb (by simp)) (fun b o _ hb _ e n => u.slot b o e n hb (by simp)) (fun b o _ e n => u.free b o e n (by simp)) (fun b o _ e => u.there b o e (by simp)) u.tups u.frzs u.tbls (fun m' hm => by
    obtain ⟨o', es', ep', ho', r'⟩ := hm
    rw [ho] at ho'; cases ho'
    exact ⟨_, es', ep', hL, r'⟩) hok I.bare
/-- behind a call (or a comprehension's block): the slots of this frame may have changed too, the records at ch may have turned -/
theorem Inv.call {g' : Array GenState} {t' : Nat} {d' : Drawn} {ch : List Addr} (I : Inv X pins σ H s) (u : Un (frs X.stack) ch H H' s.heap h') (hok : HOk X.prog X.w H' h') (hg : AllBare g')
    (hch : ∀ b ∈ ch, (b ∈ X.ex ∨ X.s₀.heap.objs.size ≤ b) ∧ b ≠ X.env.locals ∧ (∀ x c, X.env.cells.lookup x = some c → c ≠ b) ∧ ∀ p ∈ X.pn ++ pins, p.1 ≠ b) :
    Inv X pins σ H' { s with heap := h', gens := g', drawn := d', toks := t' } := by
  obtain ⟨m, ⟨o, es, ep, ho, r⟩, _⟩ := id I.loc
  obtain ⟨sl, hL⟩ := u.any ho I.free fun z => (hch _ z).2.1 rfl
  exact I.step (ch := ch) hch (fun b o hL hb hc e n => u.keep b o e n (fun z => (List.mem_cons.mp (I.stkSub b z)).elim hL hb) hc) (fun b o _ _ hc e n => u.any e n hc) (fun b o hc e n => u.free b o e n hc) (fun b o hc e => u.there b o e hc) u.tups u.frzs u.tbls (fun m' hm => by
    obtain ⟨o', es', ep', ho', r'⟩ := hm
    rw [ho] at ho'; cases ho'
    exact ⟨_, es', ep', hL, r'⟩) hok hg
/-- an untracked record of ours (an iterator) has turned -/
theorem Inv.turned {t' : Nat} {it : Addr} (I : Inv X pins σ H s) (k : ∀ b o, b ≠ it → s.heap.get? b = some o → h'.get? b = some o) (hn : H it = none) (hL : it ≠ X.env.locals)
    (h1 : it ∈ X.ex ∨ X.s₀.heap.objs.size ≤ it) (h2 : ∀ x c, X.env.cells.lookup x = some c → c ≠ it) (h3 : ∀ p ∈ X.pn ++ pins, p.1 ≠ it) : Inv X pins σ H { s with heap := h', toks := t' } := by
  have nit : ∀ b u, H b = some u → b ≠ it := fun b u e z => by rw [z, hn] at e; cases e
  refine I.step (g' := s.gens) (d' := s.drawn) (ch := [it]) (fun b hb => ?_) (fun b o _ _ hc e _ => k b o (fun z => hc (by simp [z])) e) (fun b o _ _ hc e _ => ⟨o.slots, k b o (fun z => hc (by simp [z])) e⟩) (fun _ _ _ _ n => n)
    (fun b o hc e => ⟨o, k b o (fun z => hc (by simp [z])) e⟩) (fun _ _ e => e) (fun _ _ _ e => e) (fun b ps e => ⟨#[], by rw [e]; simp⟩) (fun m hm => ?_) (fun b u e => ?_) I.bare
  · have e : b = it := by simpa using hb
    subst e
    exact ⟨h1, hL, h2, h3⟩
  · obtain ⟨o, es, ep, ho, r⟩ := hm
    exact ⟨o, es, ep, k _ o (Ne.symm hL) ho, r⟩
  · refine (I.hok b u e).stay (fun c v hc q => k c v ?_ q) (fun _ q => q) fun _ _ q => q
    rcases hc with z | z
    · rw [z]; exact nit b u e
    · exact nit c _ z
theorem Inv.tok (I : Inv X pins σ H s) (t : Nat) : Inv X pins σ H { s with toks := t } := I.un (h' := s.heap) (t' := t) Un.refl I.hok
/-- all objects kept -/
theorem Inv.kept {t' : Nat} (I : Inv X pins σ H s) (k : ∀ b u, s.heap.get? b = some u → h'.get? b = some u) : Inv X pins σ H { s with heap := h', toks := t' } := I.un (Un.kept k) (I.hok.kept k)
/-- a new object laid and tracked -/
theorem Inv.laid {a : Addr} {o : HO} {t' : Nat} (I : Inv X pins σ H s) (k : ∀ b u, s.heap.get? b = some u → h'.get? b = some u) (hp : s.heap.objs.size ≤ a) (new : ObjOk X.prog X.w (upd H a o) h' a o) :
    Inv X pins σ (upd H a o) { s with heap := h', toks := t' } := I.un (Un.laid k hp (I.hok.fresh hp)) (I.hok.laid k hp new)
/-- an object written -/
theorem Inv.write {x e : Addr} {o : HO} {t' : Nat} (I : Inv X pins σ H s) (mu : Mut (H x)) (he : e = x ∨ H e = some (.own x)) (k : ∀ b u, b ≠ e → s.heap.get? b = some u → h'.get? b = some u) (heo : ∃ u, h'.get? e = some u)
    (new : ObjOk X.prog X.w (upd H x o) h' x o) : Inv X pins σ (upd H x o) { s with heap := h', toks := t' } := I.un (Un.write mu he k heo) (I.hok.write mu he k heo new)
/-- forgetting slots, pins -/
theorem Inv.weak {σ' : List (Option V)} (I : Inv X pins σ H s) (hl : σ'.length = σ.length) (w : ∀ (i : Nat) v, σ'[i]? = some (some v) → σ[i]? = some (some v)) : Inv X pins σ' H s :=
  ⟨I.ok, I.os, I.bare, I.base, let ⟨m, hn, hl'⟩ := I.loc; ⟨m, hn, fun i x v e1 e2 e3 => hl' i x v e1 (w i v e2) e3⟩, I.cell, I.free, I.freeC, I.pin, I.hok, hl.trans I.len⟩
theorem Inv.pins_of {pins' : List (Addr × Obj)} (I : Inv X pins σ H s) (h : ∀ p ∈ pins', s.heap.get? p.1 = some p.2 ∧ H p.1 = none ∧ p.1 ≠ X.env.locals ∧ p.1 ∉ X.fs ∧ ∀ v, p.2.data ≠ .cell v) : Inv X pins' σ H s :=
  ⟨I.ok, I.os, I.bare, I.base, I.loc, I.cell, I.free, I.freeC, fun p hp => (List.mem_append.mp hp).elim (fun z => I.pin p (List.mem_append_left _ z)) (h p), I.hok, I.len⟩

theorem nodup_ix {N : List Str} (hN : N.Nodup) {i j : Nat} {x : Str} (a : N[i]? = some x) (b : N[j]? = some x) : i = j := by
  obtain ⟨h1, e1⟩ := List.getElem?_eq_some_iff.mp a
  obtain ⟨h2, e2⟩ := List.getElem?_eq_some_iff.mp b
  exact (List.getElem_inj hN).mp (e1.trans e2.symm)

/-- a name is stored; what changed -/
theorem store_ok2 {M : Model} {A : Around} {E : Value → Shared → Prop} {i : Nat} {x : Str} {v : V} {u : Value} {Q : Unit → Shared → Prop} (I : Inv X pins σ H s) (hN : X.N.Nodup) (hi : X.N[i]? = some x) (hx : Loc X.env.scope x) (r : RelV v u)
    (h : ∀ s', Inv X pins (σ.set i (some v)) H s' → (∃ a, Heap.SameBut a s.heap s'.heap ∧ (a = X.env.locals ∨ X.env.cells.lookup x = some a)) → Q () s') (hf : X.fn x = true ∨ X.env.scope.names.lookup x = some .local := by first | exact .inl rfl | exact .inr rfl | assumption) : wpAny M A (storeName X.env x u) Q E s := by
  obtain ⟨m, hn, hl⟩ := id I.loc
  have hcls : (X.env.scope.kind == .class || (X.env.scope.kind == .module && X.env.locals != X.env.globals)) = false := by rw [I.ok.kind]; rfl
  have hiσ : i < σ.length := by rw [I.len]; exact (List.getElem?_eq_some_iff.mp hi).1
  have cne := I.cne
  have tracked : ∀ {a : Addr} {h' : Heap}, (∃ o, s.heap.get? a = some o ∧ H a = none) → Heap.SameBut a s.heap h' → HOk X.prog X.w H h' := fun {a h'} ha hs b ob e => by
    obtain ⟨_, _, hfree⟩ := ha
    refine (I.hok b ob e).stay (fun c w' hc q => (hs.2 c ?_).trans q) (fun _ q => q) fun _ _ q => q
    rintro rfl
    rcases hc with rfl | hc
    · rw [hfree] at e; cases e
    · rw [hfree] at hc; cases hc
  rcases hx with hk | hk
  · refine wpAny_storeName_local hk hn (fun h' hn' hs => ?_) hcls
    obtain ⟨oL, _, _, hoL, _⟩ := id hn
    refine h _ ⟨I.ok, I.os, I.bare, ⟨fun b o e n hb hx => ?_, fun b o e n hb hx => ?_, I.base.free, fun b o e hx => ?_, I.base.tups, I.base.frzs, I.base.tbls⟩, ⟨_, hn', fun j y v' e1 e2 e3 => ?_⟩, fun y c e => ?_, I.free, I.freeC, fun p hp => ?_, tracked ⟨oL, hoL, I.free⟩ hs, by simpa using I.len⟩ ⟨_, hs, .inl rfl⟩
    · exact (hs.2 b (Nat.ne_of_lt (Nat.lt_of_lt_of_le (Heap.lt_size e) I.ok.above))).trans (I.base.keep b o e n hb hx)
    · obtain ⟨sl, e1⟩ := I.base.slot b o e n hb hx
      exact ⟨sl, (hs.2 b (Nat.ne_of_lt (Nat.lt_of_lt_of_le (Heap.lt_size e) I.ok.above))).trans e1⟩
    · obtain ⟨o', e1⟩ := I.base.there b o e hx
      exact ⟨o', (hs.2 b (Nat.ne_of_lt (Nat.lt_of_lt_of_le (Heap.lt_size e) I.ok.above))).trans e1⟩
    · by_cases hj : j = i
      · subst hj
        rw [hi] at e1; cases e1
        rw [List.getElem?_set_self hiσ] at e2
        cases e2
        exact ⟨u, r, .inl ⟨hk, by simp⟩⟩
      · rw [List.getElem?_set_ne (Ne.symm hj)] at e2
        obtain ⟨u', r', q⟩ := hl j y v' e1 e2 e3
        refine ⟨u', r', ?_⟩
        rcases q with ⟨k, e⟩ | ⟨k, c, e, z⟩
        · refine .inl ⟨k, ?_⟩
          have : y ≠ x := fun e => hj (nodup_ix hN e1 (e ▸ hi))
          simp [this, e]
        · exact .inr ⟨k, c, e, z.sameBut hs (cne y c e)⟩
    · obtain ⟨w', z⟩ := I.cell y c e
      exact ⟨w', z.sameBut hs (cne y c e)⟩
    · obtain ⟨e, n, ne, nf, d⟩ := I.pin p hp
      exact ⟨(hs.2 p.1 ne).trans e, n, ne, nf, d⟩
  · have hfn : X.fn x = true := by
      rcases hf with z | z
      · exact z
      · rw [z] at hk; cases hk
    obtain ⟨c, hc⟩ := I.ok.has x (.inl hk)
    obtain ⟨w', z⟩ := I.cell x c hc
    refine wpAny_storeName_cell I.ok.kind hk hc z (fun h' hc' hs => ?_)
    obtain ⟨oc, hoc, hocd⟩ := id z
    refine h { s with heap := h' } ⟨I.ok, I.os, I.bare, ⟨fun b o e n hb hx => ?_, fun b o e n hb hx => ?_, I.base.free, fun b o e hx => ?_, I.base.tups, I.base.frzs, I.base.tbls⟩, ⟨m, hn.sameBut hs (Ne.symm (cne x c hc)), fun j y v' e1 e2 e3 => ?_⟩, fun y c' e => ?_, I.free, I.freeC, fun p hp => ?_, tracked ⟨oc, hoc, I.freeC x c hc⟩ hs, by simpa using I.len⟩ ⟨c, hs, .inr hc⟩
    · exact (hs.2 b (Nat.ne_of_lt (Nat.lt_of_lt_of_le (Heap.lt_size e) (I.ok.cab x c hfn hc)))).trans (I.base.keep b o e n hb hx)
    · obtain ⟨sl, e1⟩ := I.base.slot b o e n hb hx
      exact ⟨sl, (hs.2 b (Nat.ne_of_lt (Nat.lt_of_lt_of_le (Heap.lt_size e) (I.ok.cab x c hfn hc)))).trans e1⟩
    · obtain ⟨o', e1⟩ := I.base.there b o e hx
      exact ⟨o', (hs.2 b (Nat.ne_of_lt (Nat.lt_of_lt_of_le (Heap.lt_size e) (I.ok.cab x c hfn hc)))).trans e1⟩
    · by_cases hj : j = i
      · subst hj
        rw [hi] at e1; cases e1
        rw [List.getElem?_set_self hiσ] at e2
        cases e2
        exact ⟨u, r, .inr ⟨.inl hk, c, hc, hc'⟩⟩
      · rw [List.getElem?_set_ne (Ne.symm hj)] at e2
        obtain ⟨u', r', q⟩ := hl j y v' e1 e2 e3
        refine ⟨u', r', ?_⟩
        rcases q with q | ⟨k, c', e, z'⟩
        · exact .inl q
        · refine .inr ⟨k, c', e, z'.sameBut hs ?_⟩
          rintro rfl
          exact hj (nodup_ix hN e1 (I.ok.inj _ _ _ e hc ▸ hi))
    · by_cases hcc : c' = c
      · subst hcc; exact ⟨_, hc'⟩
      · obtain ⟨w2, z2⟩ := I.cell y c' e
        exact ⟨w2, z2.sameBut hs hcc⟩
    · obtain ⟨e, n, ne, nf, d⟩ := I.pin p hp
      refine ⟨(hs.2 p.1 ?_).trans e, n, ne, nf, d⟩
      intro q
      rw [q, hoc] at e
      have q' : oc = p.2 := Option.some.inj e
      exact d w' (by rw [← q']; exact hocd)
theorem store_ok {M : Model} {A : Around} {E : Value → Shared → Prop} {i : Nat} {x : Str} {v : V} {u : Value} {Q : Unit → Shared → Prop} (I : Inv X pins σ H s) (hN : X.N.Nodup) (hi : X.N[i]? = some x) (hx : Loc X.env.scope x) (r : RelV v u)
    (h : ∀ s', Inv X pins (σ.set i (some v)) H s' → Q () s') (hf : X.fn x = true ∨ X.env.scope.names.lookup x = some .local := by first | exact .inl rfl | exact .inr rfl | assumption) : wpAny M A (storeName X.env x u) Q E s :=
  store_ok2 I hN hi hx r (fun s' I' _ => h s' I') hf
/-- behind a call or a block, the state as it is -/
theorem Inv.call' {s' : Shared} {ch : List Addr} (I : Inv X pins σ H s) (ho : s'.os = s.os) (u : Un (frs X.stack) ch H H' s.heap s'.heap) (hok : HOk X.prog X.w H' s'.heap) (hg : AllBare s'.gens)
    (hch : ∀ b ∈ ch, (b ∈ X.ex ∨ X.s₀.heap.objs.size ≤ b) ∧ b ≠ X.env.locals ∧ (∀ x c, X.env.cells.lookup x = some c → c ≠ b) ∧ ∀ p ∈ X.pn ++ pins, p.1 ≠ b) : Inv X pins σ H' s' := by
  obtain ⟨h', g', d', t', o'⟩ := s'
  have e : o' = s.os := ho
  subst e
  exact I.call (g' := g') (t' := t') (d' := d') u hok hg hch
end

/-! ### the judgements -/
/-- an exception: its class, its own dict's address (where it has one), the abstract heap behind it -/
abbrev XK := Value → Option Addr → Hp → Prop
abbrev St := List (Option V)
abbrev VK := V → Hp → Prop
/-- an expression's reading; a test's; an argument list's -/
abbrev TE := St → Hp → VK → Prop
abbrev TT := St → Hp → (Bool → Hp → Prop) → Prop
abbrev TA := St → Hp → (List V → Hp → Prop) → Prop
/-- what is wanted behind a statement -/
structure Ends where
  nx : St → Hp → Prop
  rt : VK
  bk : St → Hp → Prop := fun _ _ => False
  ct : St → Hp → Prop := fun _ _ => False
abbrev TS := Ends → St → Hp → Prop

def EP (X : Cx) (pins : List (Addr × Obj)) (σ : St) (Q : VK) (u : Value) (s' : Shared) : Prop := ∃ v H', Inv X pins σ H' s' ∧ RelV v u ∧ Q v H'
def TP (X : Cx) (pins : List (Addr × Obj)) (σ : St) (Q : Bool → Hp → Prop) (b : Bool) (s' : Shared) : Prop := ∃ H', Inv X pins σ H' s' ∧ Q b H'
def AP (X : Cx) (pins : List (Addr × Obj)) (σ : St) (Q : List V → Hp → Prop) (us : List Value) (s' : Shared) : Prop := ∃ vs H', Inv X pins σ H' s' ∧ Vals vs us ∧ Q vs H'
def SP (X : Cx) (pins : List (Addr × Obj)) (D : Ends) (f : Flow) (s' : Shared) : Prop :=
  match f with
  | .next => ∃ σ' H', Inv X pins σ' H' s' ∧ D.nx σ' H'
  | .brk => ∃ σ' H', Inv X pins σ' H' s' ∧ D.bk σ' H'
  | .cont => ∃ σ' H', Inv X pins σ' H' s' ∧ D.ct σ' H'
  | .ret u => ∃ v σ' H', Inv X pins σ' H' s' ∧ RelV v u ∧ D.rt v H'

def PE (X : Cx) (e : Expr) (t : TE) : Prop :=
  ∀ (pins : List (Addr × Obj)) (s : Shared) (σ : St) (H : Hp) (Q : VK), Inv X pins σ H s → t σ H Q → wpAny (model X.prog X.w) X.A (eval e X.env) (EP X pins σ Q) X.xe s
def PT (X : Cx) (e : Expr) (t : TT) : Prop :=
  ∀ (pins : List (Addr × Obj)) (s : Shared) (σ : St) (H : Hp) (Q : Bool → Hp → Prop), Inv X pins σ H s → t σ H Q → wpAny (model X.prog X.w) X.A (isTrue e X.env (eval e X.env)) (TP X pins σ Q) X.xe s
/-- a test whatever its 'whole' is (and, or) -/
def PW (X : Cx) (e : Expr) (t : TT) : Prop :=
  ∀ (whole : Sem Value) (pins : List (Addr × Obj)) (s : Shared) (σ : St) (H : Hp) (Q : Bool → Hp → Prop), Inv X pins σ H s → t σ H Q → wpAny (model X.prog X.w) X.A (isTrue e X.env whole) (TP X pins σ Q) X.xe s
theorem PW.pt {X : Cx} {e : Expr} {t : TT} (h : PW X e t) : PT X e t := h _
/-- an argument list (no star), from the left -/
def PA (X : Cx) (es : List Expr) (t : TA) : Prop :=
  ∀ (pos : Pos) (pins : List (Addr × Obj)) (s : Shared) (σ : St) (H : Hp) (Q : List V → Hp → Prop), Inv X pins σ H s → t σ H Q → wpAny (model X.prog X.w) X.A (spliced (backTo pos (starEach es X.env))) (AP X pins σ Q) X.xe s
def PS (X : Cx) (st : Stmt) (t : TS) : Prop :=
  ∀ (pins : List (Addr × Obj)) (s : Shared) (σ : St) (H : Hp) (D : Ends), Inv X pins σ H s → t D σ H → wpAny (model X.prog X.w) X.A (exec st X.env) (SP X pins D) X.xe s
def PSs (X : Cx) (st : List Stmt) (t : TS) : Prop :=
  ∀ (pins : List (Addr × Obj)) (s : Shared) (σ : St) (H : Hp) (D : Ends), Inv X pins σ H s → t D σ H → wpAny (model X.prog X.w) X.A (execs st X.env) (SP X pins D) X.xe s
/-- weaken the end -/
theorem thn {α : Type} {t : Sem α} {Q Q' : α → Shared → Prop} {M : Model} {A : Around} {E : Value → Shared → Prop} {s : Shared} (h : wpAny M A t Q E s) (hQ : ∀ a s, Q a s → Q' a s) : wpAny M A t Q' E s := wpAny_mono h hQ fun _ _ x => x
end L2

namespace L2
open PySem PySem.Spec PyProof.Rows
section
variable {X : Cx}

/-- two expressions in a row -/
theorem bin {a b : Expr} {ta tb : TE} (ha : PE X a ta) (hb : PE X b tb) {pins : List (Addr × Obj)} {s : Shared} {σ : St} {H : Hp} {R : V → V → Hp → Prop} (I : Inv X pins σ H s) (h : ta σ H fun x H1 => tb σ H1 fun y H2 => R x y H2)
    {α : Type} {Q : α → Shared → Prop} {f : Value → Value → Sem α}
    (hf : ∀ v u s2 x y H2, Inv X pins σ H2 s2 → RelV x v → RelV y u → R x y H2 → wpAny (model X.prog X.w) X.A (f v u) Q X.xe s2) :
    wpAny (model X.prog X.w) X.A (eval a X.env) (fun v s₁ => wpAny (model X.prog X.w) X.A (eval b X.env) (fun u s₂ => wpAny (model X.prog X.w) X.A (f v u) Q X.xe s₂) X.xe s₁) X.xe s := by
  refine thn (ha pins s σ H _ I h) fun v s1 ⟨x, H1, I1, r1, q1⟩ => ?_
  refine thn (hb pins s1 σ H1 _ I1 q1) fun u s2 ⟨y, H2, I2, r2, q2⟩ => ?_
  exact hf v u s2 x y H2 I2 r1 r2 q2

/-! ### names and constants -/
def tVar (i : Nat) : TE := fun σ H Q => ∃ v, σ[i]? = some (some v) ∧ Q v H
def tC (v : V) : TE := fun _ H Q => Q v H
theorem pe_var {i : Nat} {x : Str} {pos : Pos} (hN : X.N[i]? = some x) (hv : Vis X.env.scope x) (hd : (x == ("__debug__" : Str)) = false := by decide) (hcd : (x == ("__classdict__" : Str)) = false := by decide) : PE X (.Name x pos) (tVar i) := by
  intro pins s σ H Q I h
  obtain ⟨v, e, h⟩ := h
  obtain ⟨m, hn, hl⟩ := I.loc
  obtain ⟨u, r, l⟩ := hl i x v hN e hv
  have fin : EP X pins σ Q u s := ⟨v, H, I, r, h⟩
  rcases l with ⟨hk, hm⟩ | ⟨hk, c, hc, hcell⟩
  · exact wpAny_Name (wpAny_loadName_local I.ok.kind hk hn hm fin) hd
  · rcases hk with hk | hk
    · exact wpAny_Name (wpAny_loadName_cell I.ok.kind hk hc hcell fin) hd
    · exact wpAny_Name (wpAny_loadName_free I.ok.kind hk hc hcell fin hcd) hd
theorem pe_int {i j pos} : PE X (.Constant (.int i) j pos) (tC (.int i)) := fun _ _ _ H _ I h => wpAny_Constant_int ⟨.int i, H, I.tok _, ⟨_, rfl⟩, h⟩
theorem pe_bl {b j pos} : PE X (.Constant (.bool b) j pos) (tC (.bl b)) := fun _ _ _ H _ I h => Constant_bool ⟨.bl b, H, I, rfl, h⟩
theorem pe_non {j pos} : PE X (.Constant .none j pos) (tC .non) := fun _ _ _ H _ I h => Constant_none ⟨.non, H, I, rfl, h⟩
theorem pe_str {x j pos} : PE X (.Constant (.str x) j pos) (tC (.str x)) := fun _ _ _ H _ I h => Calls.Constant_str ⟨.str x, H, I.tok _, ⟨_, rfl⟩, h⟩

/-- a global name of the def -/
def Gl (X : Cx) (x : Str) : Prop := X.env.kindOf x = some .globalImplicit
theorem ld_glob {E : Value → Shared → Prop} {pins : List (Addr × Obj)} {s : Shared} {σ : St} {H : Hp} {x : Str} {u : Value} {pos : Pos} {Q : Value → Shared → Prop} (I : Inv X pins σ H s) (hg : Gl X x) (hm : X.mg x = some u) (h : Q u s)
    (hd : (x == ("__debug__" : Str)) = false := by decide) : wpAny (model X.prog X.w) X.A (eval (.Name x pos) X.env) Q E s :=
  Calls.Name_function_global I.ok.kind hg (Calls.loadGlobal_global (by rw [I.ok.glob]; exact I.mod.glob.keeps I.bk) hm h) hd
theorem ld_blt {E : Value → Shared → Prop} {pins : List (Addr × Obj)} {s : Shared} {σ : St} {H : Hp} {x : Str} {u : Value} {pos : Pos} {Q : Value → Shared → Prop} (I : Inv X pins σ H s) (hg : Gl X x) (hm : X.mg x = none) (hv : bootBuiltins x = some u) (h : Q u s)
    (hn : x ≠ "__name__" := by decide) (hd : (x == ("__debug__" : Str)) = false := by decide) : wpAny (model X.prog X.w) X.A (eval (.Name x pos) X.env) Q E s := by
  obtain ⟨mb, h1, h2⟩ := I.mod.blt
  exact Calls.Name_function_global I.ok.kind hg (Calls.loadGlobal_builtin (by rw [I.ok.glob]; exact I.mod.glob.keeps I.bk) hm (by rw [I.ok.blt]; exact h1.keeps I.bk) ((h2 x hn).trans hv) h) hd
/-- a module's constant, a class, a function, as a value -/
theorem pe_glob {x : Str} {v : V} {u : Value} {pos : Pos} (hg : Gl X x) (hm : X.mg x = some u) (r : RelV v u) (hd : (x == ("__debug__" : Str)) = false := by decide) : PE X (.Name x pos) (tC v) :=
  fun _ _ _ H _ I h => ld_glob I hg hm ⟨v, H, I, r, h⟩ hd
theorem pe_bltn {x : Str} {v : V} {u : Value} {pos : Pos} (hg : Gl X x) (hm : X.mg x = none) (hv : bootBuiltins x = some u) (r : RelV v u) (hn : x ≠ "__name__" := by decide) (hd : (x == ("__debug__" : Str)) = false := by decide) : PE X (.Name x pos) (tC v) :=
  fun _ _ _ H _ I h => ld_blt I hg hm hv ⟨v, H, I, r, h⟩ hn hd

/-! ### arithmetic -/
/-- two ints -/
def t2I (ta tb : TE) (k : Int → Int → Hp → Prop) : St → Hp → Prop := fun σ H => ta σ H fun x H1 => tb σ H1 fun y H2 => ∃ i j, x = .int i ∧ y = .int j ∧ k i j H2
def tAdd (ta tb : TE) : TE := fun σ H Q => t2I ta tb (fun i j H2 => Q (.int (i + j)) H2) σ H
def tSub (ta tb : TE) : TE := fun σ H Q => t2I ta tb (fun i j H2 => Q (.int (i - j)) H2) σ H
/-- the left factor below 2^64 -/
def tMul (ta tb : TE) : TE := fun σ H Q => t2I ta tb (fun i j H2 => (-(2 ^ 64) < i ∧ i < 2 ^ 64) ∧ Q (.int (i * j)) H2) σ H
variable {a b : Expr} {ta tb : TE} {pos : Pos}
theorem pe_add (ha : PE X a ta) (hb : PE X b tb) : PE X (.BinOp a .Add b pos) (tAdd ta tb) := by
  intro pins s σ H Q I h
  refine wpAny_BinOp (bin ha hb I h fun v u s2 x y H2 I2 rx ry q => ?_)
  obtain ⟨i, j, rfl, rfl, q⟩ := q
  obtain ⟨t, rfl⟩ := rx
  obtain ⟨t', rfl⟩ := ry
  exact add_int ⟨.int _, H2, I2.tok _, ⟨_, rfl⟩, q⟩
theorem pe_sub (ha : PE X a ta) (hb : PE X b tb) : PE X (.BinOp a .Sub b pos) (tSub ta tb) := by
  intro pins s σ H Q I h
  refine wpAny_BinOp (bin ha hb I h fun v u s2 x y H2 I2 rx ry q => ?_)
  obtain ⟨i, j, rfl, rfl, q⟩ := q
  obtain ⟨t, rfl⟩ := rx
  obtain ⟨t', rfl⟩ := ry
  exact sub_int ⟨.int _, H2, I2.tok _, ⟨_, rfl⟩, q⟩
theorem pe_mul (ha : PE X a ta) (hb : PE X b tb) : PE X (.BinOp a .Mult b pos) (tMul ta tb) := by
  intro pins s σ H Q I h
  refine wpAny_BinOp (bin ha hb I h fun v u s2 x y H2 I2 rx ry q => ?_)
  obtain ⟨i, j, rfl, rfl, ⟨q1, q2⟩, q⟩ := q
  obtain ⟨t, rfl⟩ := rx
  obtain ⟨t', rfl⟩ := ry
  exact mul_int ⟨.int _, H2, I2.tok _, ⟨_, rfl⟩, q⟩ (.of_left (intBits_le_64 q1 q2))

/-! ### comparisons -/
def PC (X : Cx) (op : CmpOp) (a b : Expr) (t : TE) : Prop :=
  ∀ (pins : List (Addr × Obj)) (s : Shared) (σ : St) (H : Hp) (Q : VK), Inv X pins σ H s → t σ H Q →
    wpAny (model X.prog X.w) X.A (eval a X.env) (fun v s₁ => wpAny (model X.prog X.w) X.A (eval b X.env) (fun u s₂ => wpAny (model X.prog X.w) X.A (compareOp op v u) (EP X pins σ Q) X.xe s₂) X.xe s₁) X.xe s
theorem nobehind (b : Expr) {op : CmpOp} (h : op ≠ .In) (h2 : op ≠ .NotIn) : behindInMarks op b = false := by
  have e1 : (op == CmpOp.In) = false := by cases op <;> first | rfl | exact absurd rfl h
  have e2 : (op == CmpOp.NotIn) = false := by cases op <;> first | rfl | exact absurd rfl h2
  cases b <;> simp [behindInMarks, e1, e2]
def tCmp (p : Int → Int → Bool) (ta tb : TE) : TE := fun σ H Q => t2I ta tb (fun i j H2 => Q (.bl (p i j)) H2) σ H
abbrev tLt : TE → TE → TE := tCmp fun i j => decide (i < j)
abbrev tLe : TE → TE → TE := tCmp fun i j => decide (i ≤ j)
abbrev tGt : TE → TE → TE := tCmp fun i j => decide (j < i)
abbrev tGe : TE → TE → TE := tCmp fun i j => decide (j ≤ i)
abbrev tEqI : TE → TE → TE := tCmp fun i j => decide (i = j)
abbrev tNeI : TE → TE → TE := tCmp fun i j => !decide (i = j)
/-- a comparison of two ints, by its rule -/
theorem pc_int {op : CmpOp} {p : Int → Int → Bool} (ha : PE X a ta) (hb : PE X b tb)
    (rule : ∀ (i j : Int) (t u : Tok) (Q : Value → Shared → Prop) (s : Shared), Q (.bool (p i j)) s → wpAny (model X.prog X.w) X.A (compareOp op (.int i t) (.int j u)) Q X.xe s) : PC X op a b (tCmp p ta tb) := by
  intro pins s σ H Q I h
  refine bin ha hb I h fun v u s2 x y H2 I2 rx ry q => ?_
  obtain ⟨i, j, rfl, rfl, q⟩ := q
  obtain ⟨t, rfl⟩ := rx
  obtain ⟨t', rfl⟩ := ry
  exact rule i j t t' _ s2 ⟨.bl _, H2, I2, rfl, q⟩
theorem pc_lt (ha : PE X a ta) (hb : PE X b tb) : PC X .Lt a b (tLt ta tb) := pc_int ha hb fun _ _ _ _ _ _ h => lt_int h
theorem pc_le (ha : PE X a ta) (hb : PE X b tb) : PC X .LtE a b (tLe ta tb) := pc_int ha hb fun _ _ _ _ _ _ h => le_int h
theorem pc_gt (ha : PE X a ta) (hb : PE X b tb) : PC X .Gt a b (tGt ta tb) := pc_int ha hb fun _ _ _ _ _ _ h => gt_int h
theorem pc_ge (ha : PE X a ta) (hb : PE X b tb) : PC X .GtE a b (tGe ta tb) := pc_int ha hb fun _ _ _ _ _ _ h => ge_int h
theorem pc_eqI (ha : PE X a ta) (hb : PE X b tb) : PC X .Eq a b (tEqI ta tb) := pc_int ha hb fun _ _ _ _ _ _ h => eq_int (by rw [Bool.beq_eq_decide_eq]; exact h)
theorem pc_neI (ha : PE X a ta) (hb : PE X b tb) : PC X .NotEq a b (tNeI ta tb) := pc_int ha hb fun _ _ _ _ _ _ h => ne_int (by rw [bne, Bool.beq_eq_decide_eq]; exact h)
/-- is None -/
def tIsN (ta : TE) : TE := fun σ H Q => ta σ H fun x H1 => Q (.bl (decide (x = .non))) H1
def tNotN (ta : TE) : TE := fun σ H Q => ta σ H fun x H1 => Q (.bl (!decide (x = .non))) H1
theorem RelV.none_iff {x : V} {v : Value} (r : RelV x v) : (v == Value.none) = decide (x = .non) := by
  cases x with
  | non => cases r; rfl
  | bl _ => cases r; rfl
  | int _ => obtain ⟨t, rfl⟩ := r; rfl
  | str _ => obtain ⟨t, rfl⟩ := r; rfl
  | byt _ => obtain ⟨t, rfl⟩ := r; rfl
  | flt _ => obtain ⟨t, rfl⟩ := r; rfl
  | ref _ => cases r; rfl
  | ty _ => cases r; rfl
theorem pc_isN {j pos'} (ha : PE X a ta) : PC X .Is a (.Constant .none j pos') (tIsN ta) := by
  intro pins s σ H Q I h
  refine thn (ha pins s σ H _ I h) fun v s1 ⟨x, H1, I1, r1, q1⟩ => ?_
  exact Constant_none (is_none_gen ⟨.bl _, H1, I1, by rw [r1.none_iff]; rfl, q1⟩)
theorem pc_notN {j pos'} (ha : PE X a ta) : PC X .IsNot a (.Constant .none j pos') (tNotN ta) := by
  intro pins s σ H Q I h
  refine thn (ha pins s σ H _ I h) fun v s1 ⟨x, H1, I1, r1, q1⟩ => ?_
  exact Constant_none (isnot_none_gen ⟨.bl _, H1, I1, by rw [r1.none_iff]; rfl, q1⟩)
/-- a comparison as a value, as a test -/
def tB (t : TE) : TT := fun σ H Q => t σ H fun x H1 => ∃ c, x = .bl c ∧ Q c H1
theorem pe_cmp {op : CmpOp} {t : TE} (h : PC X op a b t) (h1 : behindInMarks op b = false := by first | exact nobehind _ (by decide) (by decide) | rfl) : PE X (.Compare a [op] [b] pos) t := fun pins s σ H Q I hw => wpAny_Compare1 (h pins s σ H Q I hw) h1
theorem pt_cmp {op : CmpOp} {t : TE} (h : PC X op a b t) (h1 : behindInMarks op b = false := by first | exact nobehind _ (by decide) (by decide) | rfl) : PT X (.Compare a [op] [b] pos) (tB t) := by
  intro pins s σ H Q I hw
  refine wpAny_isTrue_Compare1 (thn (h pins s σ H _ I hw) fun v s1 h1 => thn h1 fun u s2 h2 => thn h2 fun c s3 ⟨x, H1, I1, r1, q1⟩ => ?_) h1
  obtain ⟨d, rfl, q⟩ := q1
  cases r1
  exact wpAny_truthy_bool ⟨H1, I1, q⟩
/-- an expression whose value is a bool, as a test -/
theorem pt_val {e : Expr} {t : TE} (h : PE X e t) (he : ∀ whole, isTrue e X.env whole = (do let v ← whole; standAt e.pos; holding [v] (truthy v)) := by intro _; rfl) : PT X e (tB t) := by
  intro pins s σ H Q I hw
  refine isTrue_plain (thn (h pins s σ H _ I hw) fun v s1 ⟨x, H1, I1, r1, q1⟩ => ?_) (he _)
  obtain ⟨d, rfl, q⟩ := q1
  cases r1
  exact wpAny_truthy_bool ⟨H1, I1, q⟩

/-! ### and, or, not -/
variable {tA tB' : TT} {rest : List Expr}
def tAnd (t u : TT) : TT := fun σ H Q => t σ H fun c H1 => if c = true then u σ H1 Q else Q false H1
def tOr (t u : TT) : TT := fun σ H Q => t σ H fun c H1 => if c = true then Q true H1 else u σ H1 Q
def tNot (t : TT) : TT := fun σ H Q => t σ H fun c H1 => Q (!c) H1
theorem pw_and1 (ha : PT X a tA) : PW X (.BoolOp .And [a] pos) tA := by
  intro wh pins s σ H Q I h
  refine isTrue_and (thn (ha pins s σ H Q I h) fun c s1 e => ?_)
  cases c with
  | true => exact isTrue_and_nil e
  | false => exact e
theorem pw_or1 (ha : PT X a tA) : PW X (.BoolOp .Or [a] pos) tA := by
  intro wh pins s σ H Q I h
  refine isTrue_or (thn (ha pins s σ H Q I h) fun c s1 e => ?_)
  cases c with
  | false => exact isTrue_or_nil e
  | true => exact e
theorem pw_and (ha : PT X a tA) (hb : PW X (.BoolOp .And (b :: rest) pos) tB') : PW X (.BoolOp .And (a :: b :: rest) pos) (tAnd tA tB') := by
  intro wh pins s σ H Q I h
  refine isTrue_and (thn (ha pins s σ H _ I h) fun c s1 ⟨H1, I1, q1⟩ => ?_)
  cases c with
  | true => exact hb wh pins s1 σ H1 Q I1 q1
  | false => exact ⟨H1, I1, q1⟩
theorem pw_or (ha : PT X a tA) (hb : PW X (.BoolOp .Or (b :: rest) pos) tB') : PW X (.BoolOp .Or (a :: b :: rest) pos) (tOr tA tB') := by
  intro wh pins s σ H Q I h
  refine isTrue_or (thn (ha pins s σ H _ I h) fun c s1 ⟨H1, I1, q1⟩ => ?_)
  cases c with
  | true => exact ⟨H1, I1, q1⟩
  | false => exact hb wh pins s1 σ H1 Q I1 q1
theorem pt_not (ha : PT X a tA) : PT X (.UnaryOp .Not a pos) (tNot tA) := by
  intro pins s σ H Q I h
  exact isTrue_not (ha pins s σ H (fun c H1 => Q (!c) H1) I h)
/-- .. as values (bools) -/
def tAndV (ta tb : TE) : TE := fun σ H Q => ta σ H fun x H1 => ∃ c, x = .bl c ∧ if c = true then tb σ H1 Q else Q (.bl false) H1
def tOrV (ta tb : TE) : TE := fun σ H Q => ta σ H fun x H1 => ∃ c, x = .bl c ∧ if c = true then Q (.bl true) H1 else tb σ H1 Q
def tNotV (ta : TE) : TE := fun σ H Q => ta σ H fun x H1 => ∃ c, x = .bl c ∧ Q (.bl (!c)) H1
theorem pe_one {op} {t : TE} (h : PE X a t) : PE X (.BoolOp op [a] pos) t := fun pins s σ H Q I hw => BoolOp_one (h pins s σ H Q I hw)
theorem pe_and (ha : PE X a ta) (hb : PE X (.BoolOp .And (b :: rest) pos) tb) : PE X (.BoolOp .And (a :: b :: rest) pos) (tAndV ta tb) := by
  intro pins s σ H Q I h
  refine BoolOp_and (thn (ha pins s σ H _ I h) fun v s1 ⟨x, H1, I1, r1, q1⟩ => ?_)
  obtain ⟨c, rfl, q1⟩ := q1
  cases r1
  refine wpAny_truthy_bool ?_
  cases c with
  | true => exact hb pins s1 σ H1 Q I1 q1
  | false => exact ⟨.bl false, H1, I1, rfl, q1⟩
theorem pe_or (ha : PE X a ta) (hb : PE X (.BoolOp .Or (b :: rest) pos) tb) : PE X (.BoolOp .Or (a :: b :: rest) pos) (tOrV ta tb) := by
  intro pins s σ H Q I h
  refine BoolOp_or (thn (ha pins s σ H _ I h) fun v s1 ⟨x, H1, I1, r1, q1⟩ => ?_)
  obtain ⟨c, rfl, q1⟩ := q1
  cases r1
  refine wpAny_truthy_bool ?_
  cases c with
  | false => exact hb pins s1 σ H1 Q I1 q1
  | true => exact ⟨.bl true, H1, I1, rfl, q1⟩
theorem pe_not (ha : PE X a ta) : PE X (.UnaryOp .Not a pos) (tNotV ta) := by
  intro pins s σ H Q I h
  refine UnaryOp_ (thn (ha pins s σ H _ I h) fun v s1 ⟨x, H1, I1, r1, q1⟩ => ?_)
  obtain ⟨c, rfl, q1⟩ := q1
  cases r1
  exact not_of (wpAny_truthy_bool ⟨.bl (!c), H1, I1, rfl, q1⟩)
/-- a if t else b -/
def tIf (t : TT) (ta tb : TE) : TE := fun σ H Q => t σ H fun c H1 => if c = true then ta σ H1 Q else tb σ H1 Q
theorem pe_ifExp {c : Expr} (hc : PT X c tA) (ha : PE X a ta) (hb : PE X b tb) : PE X (.IfExp c a b pos) (tIf tA ta tb) := by
  intro pins s σ H Q I h
  refine wpAny_IfExp (thn (hc pins s σ H _ I h) fun d s1 ⟨H1, I1, q1⟩ => ?_)
  cases d with
  | true => exact ha pins s1 σ H1 Q I1 q1
  | false => exact hb pins s1 σ H1 Q I1 q1
end
end L2

namespace L2
open PySem PySem.Spec PyProof.Rows

/-! ### a list, a tuple that is read: tracked, frozen, or an object of the module -/
def SqL (K : PySem.W.Frag) (H : Hp) (a : Addr) (xs : List V) : Prop :=
  Rd H a (.lst xs) ∨
    ∃ (o : Obj) (its : Array Value) (n : Nat), K.lookup a = some o ∧ o.cls = .type "list" ∧ o.dict = none ∧ o.data = .seq its n ∧ its.size ≤ sizeLine ∧ Vals xs its.toList
def SqT (K : PySem.W.Frag) (H : Hp) (a : Addr) (xs : List V) : Prop :=
  Rd H a (.tup xs) ∨
    ∃ (o : Obj) (its : Array Value) (n : Nat), K.lookup a = some o ∧ o.cls = .type "tuple" ∧ o.data = .seq its n ∧ its.size ≤ sizeLine ∧ Vals xs its.toList
def absV : Value → Option V
  | .none => some .non
  | .bool b => some (.bl b)
  | .int i _ => some (.int i)
  | .str x _ => some (.str x)
  | .bytes b _ => some (.byt b)
  | .float b _ => some (.flt b)
  | .ref a => some (.ref a)
  | .type n => some (.ty n)
  | _ => none
theorem RelV.abs {x : V} {u : Value} (r : RelV x u) : absV u = some x := by
  cases x with
  | non => cases r; rfl
  | bl _ => cases r; rfl
  | int _ => obtain ⟨t, rfl⟩ := r; rfl
  | str _ => obtain ⟨t, rfl⟩ := r; rfl
  | byt _ => obtain ⟨t, rfl⟩ := r; rfl
  | flt _ => obtain ⟨t, rfl⟩ := r; rfl
  | ref _ => cases r; rfl
  | ty _ => cases r; rfl
theorem RelV.inj {x y : V} {u : Value} (r : RelV x u) (q : RelV y u) : x = y := Option.some.inj (r.abs.symm.trans q.abs)
theorem Vals.inj : ∀ {xs ys : List V} {us : List Value}, Vals xs us → Vals ys us → xs = ys
  | _, _, _, .nil, .nil => rfl
  | _, _, _, .cons r t, .cons r' t' => by rw [r.inj r', Vals.inj t t']
section
variable {X : Cx} {pins : List (Addr × Obj)} {σ : St} {H : Hp} {s : Shared} {a : Addr} {xs ys : List V}
theorem SqL.of {K : PySem.W.Frag} (h : H a = some (.lst xs)) : SqL K H a xs := .inl (.inl h)
theorem SqT.of {K : PySem.W.Frag} (h : H a = some (.tup xs)) : SqT K H a xs := .inl (.inl h)
theorem Inv.list (I : Inv X pins σ H s) (h : SqL X.K H a xs) : ∃ its : List Value, Vals xs its ∧ PlainL s.heap a its.toArray ∧ xs.length ≤ sizeLine := by
  rcases h with h | ⟨o, its, n, hk, hc, hd, hs, hz, r⟩
  · obtain ⟨z, its, n, r, e⟩ := h.ok I.hok
    exact ⟨its, r, ⟨_, n, e, rfl, rfl, rfl⟩, z⟩
  · refine ⟨its.toList, r, ⟨o, n, I.kIn a o hk, hc, hd, by simpa using hs⟩, ?_⟩
    have e := r.length
    simp only [Array.length_toList] at e
    omega
theorem Inv.tuple (I : Inv X pins σ H s) (h : SqT X.K H a xs) : ∃ its : List Value, Vals xs its ∧ IsTup s.heap a its.toArray ∧ xs.length ≤ sizeLine := by
  rcases h with h | ⟨o, its, n, hk, hc, hs, hz, r⟩
  · obtain ⟨z, its, r, p⟩ := h.ok I.hok
    exact ⟨its, r, p, z⟩
  · refine ⟨its.toList, r, ⟨o, I.kIn a o hk, hc, n, by simpa using hs⟩, ?_⟩
    have e := r.length
    simp only [Array.length_toList] at e
    omega
theorem Inv.list_inj (I : Inv X pins σ H s) (h : SqL X.K H a xs) (h' : SqL X.K H a ys) : xs = ys := by
  obtain ⟨its, r, ⟨o, n, e, _, _, d⟩, _⟩ := I.list h
  obtain ⟨its', r', ⟨o', n', e', _, _, d'⟩, _⟩ := I.list h'
  rw [e] at e'; cases e'
  rw [d] at d'
  injection d' with d1 _
  have : its = its' := by simpa using congrArg Array.toList d1
  subst this
  exact r.inj r'
theorem Inv.tuple_inj (I : Inv X pins σ H s) (h : SqT X.K H a xs) (h' : SqT X.K H a ys) : xs = ys := by
  obtain ⟨its, r, ⟨o, e, _, n, d⟩, _⟩ := I.tuple h
  obtain ⟨its', r', ⟨o', e', _, n', d'⟩, _⟩ := I.tuple h'
  rw [e] at e'; cases e'
  rw [d] at d'
  injection d' with d1 _
  have : its = its' := by simpa using congrArg Array.toList d1
  subst this
  exact r.inj r'
end

/-! ### another wish about exceptions -/
abbrev Cx.wish (X : Cx) (E : Value → Shared → Prop) : Cx := { X with xe := E }
/-- no exception leaves -/
abbrev Cx.nox (X : Cx) : Cx := X.wish fun _ _ => False
theorem Cx.Ok.wish {X : Cx} (ok : X.Ok) (E : Value → Shared → Prop) : (X.wish E).Ok :=
  ⟨ok.mod, ok.kind, ok.glob, ok.blt, ok.above, ok.inj, ok.has, ok.cab, ok.hd, ok.frames, ok.stk, ok.exf, ok.bs, ok.bsz, ok.noex, ok.exfs, ok.funs, ok.frf⟩
theorem Cx.Ok.unwish {X : Cx} {E : Value → Shared → Prop} (ok : (X.wish E).Ok) : X.Ok :=
  ⟨ok.mod, ok.kind, ok.glob, ok.blt, ok.above, ok.inj, ok.has, ok.cab, ok.hd, ok.frames, ok.stk, ok.exf, ok.bs, ok.bsz, ok.noex, ok.exfs, ok.funs, ok.frf⟩
section
variable {X : Cx} {pins : List (Addr × Obj)} {σ : St} {H : Hp} {s : Shared} {E : Value → Shared → Prop}
theorem Inv.wish (I : Inv X pins σ H s) (E : Value → Shared → Prop) : Inv (X.wish E) pins σ H s := ⟨I.ok.wish E, I.os, I.bare, I.base, I.loc, I.cell, I.free, I.freeC, I.pin, I.hok, I.len⟩
theorem Inv.unwish (I : Inv (X.wish E) pins σ H s) : Inv X pins σ H s := ⟨I.ok.unwish, I.os, I.bare, I.base, I.loc, I.cell, I.free, I.freeC, I.pin, I.hok, I.len⟩
theorem SP.unwish {D : Ends} {f : Flow} {s' : Shared} (h : SP (X.wish E) pins D f s') : SP X pins D f s' := by
  cases f with
  | next => obtain ⟨σ', H', I, q⟩ := h; exact ⟨σ', H', I.unwish, q⟩
  | brk => obtain ⟨σ', H', I, q⟩ := h; exact ⟨σ', H', I.unwish, q⟩
  | cont => obtain ⟨σ', H', I, q⟩ := h; exact ⟨σ', H', I.unwish, q⟩
  | ret u => obtain ⟨v, σ', H', I, r, q⟩ := h; exact ⟨v, σ', H', I.unwish, r, q⟩
theorem PE.nox {e : Expr} {t : TE} (h : PE X.nox e t) : PE X e t := fun pins s σ H Q I hw =>
  wpAny_mono (h pins s σ H Q (I.wish _) hw) (fun _ _ ⟨v, H', I', r, q⟩ => ⟨v, H', I'.unwish, r, q⟩) fun _ _ z => False.elim z
theorem PT.nox {e : Expr} {t : TT} (h : PT X.nox e t) : PT X e t := fun pins s σ H Q I hw =>
  wpAny_mono (h pins s σ H Q (I.wish _) hw) (fun _ _ ⟨H', I', q⟩ => ⟨H', I'.unwish, q⟩) fun _ _ z => False.elim z
theorem PSs.nox {st : List Stmt} {t : TS} (h : PSs X.nox st t) : PSs X st t := fun pins s σ H D I hw =>
  wpAny_mono (h pins s σ H D (I.wish _) hw) (fun _ _ q => q.unwish) fun _ _ z => False.elim z
end

/-! ### blocks and small statements -/
section
variable {X : Cx} {st : Stmt} {rest : List Stmt} {t u : TS} {e : Expr} {te : TE} {pos : Pos}
def tNext : TS := fun D σ H => D.nx σ H
def tSeq (t u : TS) : TS := fun D σ H => t { D with nx := u D } σ H
theorem pss_nil : PSs X [] tNext := fun _ _ σ H _ I h => wpAny_execs_nil ⟨σ, H, I, h⟩
theorem pss_cons (h1 : PS X st t) (h2 : PSs X rest u) : PSs X (st :: rest) (tSeq t u) := by
  intro pins s σ H D I h
  refine wpAny_execs_cons (thn (h1 pins s σ H { D with nx := u D } I h) fun f s1 q => ?_)
  cases f with
  | next =>
    obtain ⟨σ', H', I', q⟩ := q
    exact h2 pins s1 σ' H' D I' q
  | ret v => exact q
  | brk => exact q
  | cont => exact q
theorem pss_one (h1 : PS X st t) : PSs X [st] t := by
  intro pins s σ H D I h
  refine wpAny_execs_cons (thn (h1 pins s σ H D I h) fun f s1 q => ?_)
  cases f with
  | next => exact wpAny_execs_nil q
  | ret v => exact q
  | brk => exact q
  | cont => exact q
def tBreak : TS := fun D σ H => D.bk σ H
def tCont : TS := fun D σ H => D.ct σ H
theorem ps_pass : PS X (.Pass pos) tNext := fun _ _ σ H _ I h => wpAny_Pass ⟨σ, H, I, h⟩
theorem ps_break : PS X (.Break pos) tBreak := fun _ _ σ H _ I h => wpAny_Break ⟨σ, H, I, h⟩
theorem ps_continue : PS X (.Continue pos) tCont := fun _ _ σ H _ I h => wpAny_Continue ⟨σ, H, I, h⟩
/-- in a def's body nothing is shown -/
theorem Inv.quiet {pins : List (Addr × Obj)} {σ : St} {H : Hp} {s : Shared} (I : Inv X pins σ H s) : interactive X.env = false := by simp [interactive, I.ok.kind]
/-- a docstring -/
theorem ps_doc {x j pos pos'} : PS X (.Expr (.Constant (.str x) j pos) pos') tNext := fun _ s σ H _ I h => wpAny_Expr (Calls.Constant_str (show SP X _ _ .next { s with toks := s.toks + 1 } from ⟨σ, H, I.tok _, h⟩)) I.quiet
/-- an expression whose value is dropped -/
def tDrop (te : TE) : TS := fun D σ H => te σ H fun _ H1 => D.nx σ H1
theorem ps_expr (he : PE X e te) (hs : swapsWith e none pos.line X.env = pure false := by rfl) : PS X (.Expr e pos) (tDrop te) := by
  intro pins s σ H D I h
  exact wpAny_Expr_any (thn (he pins s σ H _ I h) fun v s1 ⟨x, H1, I1, r1, q1⟩ => ⟨σ, H1, I1, q1⟩) I.quiet hs
def tRet (te : TE) : TS := fun D σ H => te σ H D.rt
theorem ps_ret (he : PE X e te) : PS X (.Return (some e) pos) (tRet te) := by
  intro pins s σ H D I h
  exact wpAny_Return_some (thn (he pins s σ H _ I h) fun v s1 ⟨x, H1, I1, r1, q1⟩ => ⟨x, σ, H1, I1, r1, q1⟩)
def tRetN : TS := fun D _ H => D.rt .non H
theorem ps_retN : PS X (.Return none pos) tRetN := fun _ _ σ H _ I h => wpAny_Return_none ⟨.non, σ, H, I, rfl, h⟩
def tIfS (c : TT) (t u : TS) : TS := fun D σ H => c σ H fun b H1 => if b = true then t D σ H1 else u D σ H1
theorem ps_if {c : Expr} {a b : List Stmt} {tc : TT} (hc : PT X c tc) (ha : PSs X a t) (hb : PSs X b u) : PS X (.If c a b pos) (tIfS tc t u) := by
  intro pins s σ H D I h
  refine wpAny_If (thn (hc pins s σ H _ I h) fun d s1 ⟨H1, I1, q1⟩ => ?_)
  cases d with
  | true => exact ha pins s1 σ H1 D I1 q1
  | false => exact hb pins s1 σ H1 D I1 q1
/-- code that the proof never comes to -/
def tNever : TS := fun _ _ _ => False
theorem ps_never : PS X st tNever := fun _ _ _ _ _ _ h => h.elim
theorem pss_never {sts : List Stmt} : PSs X sts tNever := fun _ _ _ _ _ _ h => h.elim
end

/-! ### targets -/
abbrev TG := V → St → Hp → (St → Hp → Prop) → Prop
abbrev TGs := List V → St → Hp → (St → Hp → Prop) → Prop
def PG (X : Cx) (target : Expr) (t : TG) : Prop :=
  ∀ (pins : List (Addr × Obj)) (s : Shared) (σ : St) (H : Hp) (v : V) (u : Value) (Q : St → Hp → Prop), Inv X pins σ H s → RelV v u → t v σ H Q →
    wpAny (model X.prog X.w) X.A (assign target X.env u) (fun _ s' => ∃ σ' H', Inv X pins σ' H' s' ∧ Q σ' H') X.xe s
/-- several targets, one after another -/
def PGs (X : Cx) (ts : List Expr) (t : TGs) : Prop :=
  ∀ (pins : List (Addr × Obj)) (s : Shared) (σ : St) (H : Hp) (vs : List V) (us : List Value) (Q : St → Hp → Prop), Inv X pins σ H s → Vals vs us → t vs σ H Q →
    wpAny (model X.prog X.w) X.A (assignInOrder ((assignEach ts X.env).map (·.2)) us) (fun _ s' => ∃ σ' H', Inv X pins σ' H' s' ∧ Q σ' H') X.xe s
/-- o[i] = v, by values -/
abbrev TSet := V → V → V → Hp → (Hp → Prop) → Prop
def PSet (X : Cx) (t : TSet) : Prop :=
  ∀ (pins : List (Addr × Obj)) (s : Shared) (σ : St) (H : Hp) (o i v : V) (ov iv u : Value) (Q : Hp → Prop), Inv X pins σ H s → RelV o ov → RelV i iv → RelV v u → t o i v H Q →
    wpAny (model X.prog X.w) X.A (setItem ov iv u) (fun _ s' => ∃ H', Inv X pins σ H' s' ∧ Q H') X.xe s
/-- a op= b, by values -/
abbrev TIp := V → V → Hp → VK → Prop
def PIp (X : Cx) (op : Operator) (t : TIp) : Prop :=
  ∀ (pins : List (Addr × Obj)) (s : Shared) (σ : St) (H : Hp) (x y : V) (v u : Value) (Q : VK), Inv X pins σ H s → RelV x v → RelV y u → t x y H Q →
    wpAny (model X.prog X.w) X.A (inplaceOp op v u) (EP X pins σ Q) X.xe s
section
variable {X : Cx} {pos : Pos}
def gName (i : Nat) : TG := fun v σ H Q => Q (σ.set i (some v)) H
theorem pg_name {i : Nat} {x : Str} (hN : X.N.Nodup) (hi : X.N[i]? = some x) (hx : Loc X.env.scope x) (hf : X.fn x = true ∨ X.env.scope.names.lookup x = some .local := by first | exact .inl rfl | exact .inr rfl | assumption) : PG X (.Name x pos) (gName i) := by
  intro pins s σ H v u Q I r h
  exact wpAny_assign_Name (store_ok I hN hi hx r (fun s' I' => ⟨_, H, I', h⟩) hf)
def gNil : TGs := fun vs σ H Q => vs = [] ∧ Q σ H
def gCons (t : TG) (u : TGs) : TGs := fun vs σ H Q => ∃ v r, vs = v :: r ∧ t v σ H fun σ' H' => u r σ' H' Q
theorem pgs_nil : PGs X [] gNil := by
  intro pins s σ H vs us Q I r h
  obtain ⟨e, h⟩ := h
  subst e
  cases r
  exact assignInOrder_nil ⟨σ, H, I, h⟩
theorem pgs_cons {e : Expr} {es : List Expr} {t : TG} {u : TGs} (h1 : PG X e t) (h2 : PGs X es u)
    (hs : (assignEach (e :: es) X.env).map (·.2) = assign e X.env :: (assignEach es X.env).map (·.2) := by rfl) : PGs X (e :: es) (gCons t u) := by
  intro pins s σ H vs us Q I r h
  obtain ⟨v, vr, e1, h⟩ := h
  subst e1
  cases r with
  | cons r rr =>
    rw [hs]
    refine assignInOrder_cons (thn (h1 pins s σ H _ _ _ I r h) fun _ s1 ⟨σ1, H1, I1, q1⟩ => ?_)
    exact h2 pins s1 σ1 H1 _ _ Q I1 rr q1
/-- (a, b, ..) = a tuple of that length -/
def gTup (K : PySem.W.Frag) (n : Nat) (t : TGs) : TG := fun v σ H Q => ∃ a xs, v = .ref a ∧ SqT K H a xs ∧ xs.length = n ∧ t xs σ H Q
theorem pg_tup {es : List Expr} {k : Nat} {t : TGs} {n : Nat} (hc : X.calm = true) (h : PGs X es t)
    (hn : (assignEach es X.env).length = n := by rfl) (hst : (assignEach es X.env).findIdx? (·.1) = none := by rfl) : PG X (.Tuple es k pos) (gTup X.K n t) := by
  intro pins s σ H v u Q I r hw
  obtain ⟨a, xs, e1, hq, hl, hw⟩ := hw
  subst e1
  cases r
  obtain ⟨its, rv, ht, hz⟩ := I.tuple hq
  refine assign_Tuple_tuple (I.ok.hd hc) ht (by simp [hn, ← hl, rv.length]) hst fun h' hx => ?_
  have I1 : Inv X pins σ H { s with heap := h' } := I.kept (t' := s.toks) fun b o e => hx b o (Nat.ne_of_lt (Heap.lt_size e)) e
  exact h pins _ σ H xs _ Q I1 (by simpa using rv) hw
/-- o[i] = .. -/
def gSub (to ti : TE) (t : TSet) : TG := fun v σ H Q => to σ H fun o H1 => ti σ H1 fun i H2 => t o i v H2 fun H3 => Q σ H3
theorem pg_sub {o i : Expr} {to ti : TE} {t : TSet} (ho : PE X o to) (hi : PE X i ti) (hs : PSet X t)
    (ha : ∀ v, assign (.Subscript o i pos) X.env v = (do
      let ov ← holding [v] (eval o X.env)
      let iv ← holding [v, ov] (eval i X.env)
      standAt pos
      holding [v, ov, iv] (setItem ov iv v)
      release [v, ov, iv] []) := by intro _; rfl) : PG X (.Subscript o i pos) (gSub to ti t) := by
  intro pins s σ H v u Q I r h
  rw [ha]
  refine wpAny_bind (wpAny_holding (thn (ho pins s σ H _ I h) fun ov s1 ⟨x, H1, I1, r1, q1⟩ => ?_))
  refine wpAny_bind (wpAny_holding (thn (hi pins s1 σ H1 _ I1 q1) fun iv s2 ⟨y, H2, I2, r2, q2⟩ => ?_))
  refine wpAny_bind (wpAny_standAt (wpAny_bind (wpAny_holding (thn (hs pins s2 σ H2 x y v ov iv u _ I2 r1 r2 r q2) fun _ s3 ⟨H3, I3, q3⟩ => ?_))))
  exact wpAny_release ⟨σ, H3, I3, q3⟩
/-- target = value -/
def tAsg (te : TE) (g : TG) : TS := fun D σ H => te σ H fun x H1 => g x σ H1 D.nx
theorem ps_asg {tg e : Expr} {te : TE} {g : TG} (he : PE X e te) (hg : PG X tg g) (hs : swapsWithSole [tg] e pos.line X.env = pure false := by rfl) (hw : swappedStores [tg] e X.env = pure none := by rfl)
    (h1 : (assignEach [tg] X.env).map (·.2) = [assign tg X.env] := by rfl) : PS X (.Assign [tg] e pos) (tAsg te g) := by
  intro pins s σ H D I h
  refine wpAny_Assign_stores (thn (he pins s σ H _ I h) fun v s1 ⟨x, H1, I1, r1, q1⟩ => ?_) hs hw
  rw [h1]
  exact thn (hg pins s1 σ H1 x v _ I1 r1 q1) fun _ s2 q => q
/-- name = value -/
theorem ps_set {i : Nat} {x : Str} {e : Expr} {te : TE} {pos' : Pos} (hN : X.N.Nodup) (hi : X.N[i]? = some x) (hx : Loc X.env.scope x) (he : PE X e te) (hs : swapsWith e (some (.Name x pos')) pos.line X.env = pure false := by rfl) (hf : X.fn x = true ∨ X.env.scope.names.lookup x = some .local := by first | exact .inl rfl | exact .inr rfl | assumption) :
    PS X (.Assign [.Name x pos'] e pos) (tAsg te (gName i)) := by
  intro pins s σ H D I h
  refine wpAny_Assign_Name (thn (he pins s σ H _ I h) fun v s1 ⟨y, H1, I1, r1, q1⟩ => ?_) hs
  exact store_ok I1 hN hi hx r1 (fun s2 I2 => ⟨_, H1, I2, q1⟩) hf
/-- a, b = x, y with plain local names: stored from the right; the pair itself is not tracked (the opening rows as in PyProof/Rows/TupAssign.lean:23) -/
def tPar (i j : Nat) (ta : TA) : TS := fun D σ H => ta σ H fun vs H1 => ∃ v w, vs = [v, w] ∧ D.nx ((σ.set i (some v)).set j (some w)) H1
theorem ps_par {i j : Nat} {x y : Str} {a b : Expr} {ta : TA} {px py pt : Pos} {kt k2 pt2} (hc : X.calm = true) (hN : X.N.Nodup) (hi : X.N[i]? = some x) (hj : X.N[j]? = some y) (hij : i ≠ j)
    (hx : X.env.scope.names.lookup x = some .local) (hy : X.env.scope.names.lookup y = some .local) (ha : PA X [a, b] ta)
    (hw : swappedStores [.Tuple [.Name x px, .Name y py] kt pt] (.Tuple [a, b] k2 pt2) X.env = pure (some [x, y]))
    (hs : swapsWithSole [.Tuple [.Name x px, .Name y py] kt pt] (.Tuple [a, b] k2 pt2) pos.line X.env = pure false := by rfl) :
    PS X (.Assign [.Tuple [.Name x px, .Name y py] kt pt] (.Tuple [a, b] k2 pt2) pos) (tPar i j ta) := by
  intro pins s σ H D I h
  rw [exec_Assign_arm]
  refine wpAny_bind (wpAny_standAt ?_)
  rw [hs]
  refine wpAny_bind (wpAny_pure ?_)
  rw [if_neg (by decide)]
  refine wpAny_bind (Tuple_ (thn (ha _ pins s σ H _ I h) fun us s1 ⟨vs, H1, I1, r1, q1⟩ => ?_))
  obtain ⟨v, w, e1, q1⟩ := q1
  subst e1
  obtain ⟨u1, u2, rfl, rv, rw'⟩ : ∃ u1 u2, us = [u1, u2] ∧ RelV v u1 ∧ RelV w u2 := by
    cases r1 with
    | cons p q =>
      cases q with
      | cons p' q' =>
        cases q'
        exact ⟨_, _, rfl, p, p'⟩
  refine wpAny_newObj_type ?_ (by show 2 ≤ sizeLine; decide)
  have I2 : Inv X pins σ H1 { s1 with heap := s1.heap.push { cls := .type "tuple", data := .seq [u1, u2].toArray } } := I1.kept (t' := s1.toks) fun b o e => Heap.get?_push_of_some _ e
  rw [hw]
  refine wpAny_bind (wpAny_pure ?_)
  show wpAny (model X.prog X.w) X.A (do rule "assign.swapped-stores"; let items ← unpackItems (.ref s1.heap.objs.size) 2 none; assignInOrder [fun v => bindName X.env y v, fun v => bindName X.env x v] items.reverse; pure Flow.next) _ _ _
  refine wpAny_bind (wpAny_rule (wpAny_bind (unpackItems_tuple (items := #[u1, u2]) (I.ok.hd hc) (IsTup.new s1.heap _) fun h' hx' => ?_)))
  have I3 := I2.kept (h' := h') (t' := s1.toks) fun b o e => hx' b o (Nat.ne_of_lt (Heap.lt_size e)) e
  show wpAny _ _ (assignInOrder [fun v => bindName X.env y v, fun v => bindName X.env x v] [u2, u1] >>= fun _ => pure Flow.next) _ _ _
  refine wpAny_bind (assignInOrder_cons (wpAny_bindName (store_ok I3 hN hj (.inl hy) rw' (fun s2 I4 => ?_) (.inr hy))))
  refine assignInOrder_cons (wpAny_bindName (store_ok I4 hN hi (.inl hx) rv (fun s3 I5 => assignInOrder_nil (wpAny_pure ?_)) (.inr hx)))
  rw [List.set_comm _ _ (Ne.symm hij)] at I5
  exact ⟨_, H1, I5, q1⟩
/-- name op= e -/
def tAug (i : Nat) (te : TE) (ti : TIp) : TS := fun D σ H => ∃ x, σ[i]? = some (some x) ∧ te σ H fun y H1 => ti x y H1 fun z H2 => D.nx (σ.set i (some z)) H2
theorem ps_aug {i : Nat} {x : Str} {e : Expr} {te : TE} {op : Operator} {ti : TIp} {pos' : Pos} (hN : X.N.Nodup) (hi : X.N[i]? = some x) (hx : Loc X.env.scope x) (he : PE X e te) (ho : PIp X op ti) (hf : X.fn x = true ∨ X.env.scope.names.lookup x = some .local := by first | exact .inl rfl | exact .inr rfl | assumption) :
    PS X (.AugAssign (.Name x pos') op e pos) (tAug i te ti) := by
  intro pins s σ H D I h
  obtain ⟨v, e1, h⟩ := h
  obtain ⟨m, hn, hl⟩ := I.loc
  have vis : Vis X.env.scope x := by rcases hx with k | k; exact .inl k; exact .inr (.inl k)
  obtain ⟨u, r, l⟩ := hl i x v hi e1 vis
  refine wpAny_AugAssign_Name ?_
  have go : wpAny (model X.prog X.w) X.A (eval e X.env) (fun w s₂ => wpAny (model X.prog X.w) X.A (inplaceOp op u w) (fun r s₃ => wpAny (model X.prog X.w) X.A (storeName X.env x r) (fun _ => SP X pins D .next) X.xe s₃) X.xe s₂) X.xe s := by
    refine thn (he pins s σ H _ I h) fun w s1 ⟨y, H1, I1, r1, q1⟩ => ?_
    refine thn (ho pins s1 σ H1 v y u w _ I1 r r1 q1) fun z s2 ⟨zv, H2, I2, r2, q2⟩ => ?_
    exact store_ok I2 hN hi hx r2 (fun s3 I3 => ⟨_, H2, I3, q2⟩) hf
  rcases l with ⟨hk, hm⟩ | ⟨hk, c, hc, hcell⟩
  · exact wpAny_loadName_local I.ok.kind hk hn hm go
  · rcases hk with hk | hk
    · exact wpAny_loadName_cell I.ok.kind hk hc hcell go
    · rcases hx with k | k
      · have : X.env.scope.names.lookup x = some .free := hk
        rw [k] at this; cases this
      · have : X.env.scope.names.lookup x = some .free := hk
        rw [k] at this; cases this
/-- o[i] op= e -/
def tAugS (to ti te : TE) (tget : V → V → Hp → VK → Prop) (tip : TIp) (tset : TSet) : TS := fun D σ H => to σ H fun o H1 => ti σ H1 fun i H2 => tget o i H2 fun x H3 => te σ H3 fun y H4 => tip x y H4 fun z H5 => tset o i z H5 fun H6 => D.nx σ H6
/-- o[i], by values -/
def PGet (X : Cx) (t : V → V → Hp → VK → Prop) : Prop :=
  ∀ (pins : List (Addr × Obj)) (s : Shared) (σ : St) (H : Hp) (o i : V) (ov iv : Value) (Q : VK), Inv X pins σ H s → RelV o ov → RelV i iv → t o i H Q →
    wpAny (model X.prog X.w) X.A (getItem ov iv) (EP X pins σ Q) X.xe s
theorem ps_augS {o i e : Expr} {to ti te : TE} {tget : V → V → Hp → VK → Prop} {tip : TIp} {tset : TSet} {op : Operator} {tpos : Pos} (ho : PE X o to) (hi : PE X i ti) (hg : PGet X tget) (he : PE X e te) (hp : PIp X op tip) (hs : PSet X tset)
    (ha : ∀ ov iv new, augStore i ov iv new = (do holding [new, ov, iv] (setItem ov iv new); release [new, ov, iv] []; pure .next) := by intros; rfl) : PS X (.AugAssign (.Subscript o i tpos) op e pos) (tAugS to ti te tget tip tset) := by
  intro pins s σ H D I h
  refine wpAny_AugAssign_SubscriptAny (thn (ho pins s σ H _ I h) fun ov s1 ⟨x1, H1, I1, r1, q1⟩ => ?_) ha
  refine thn (hi pins s1 σ H1 _ I1 q1) fun iv s2 ⟨x2, H2, I2, r2, q2⟩ => ?_
  refine thn (hg pins s2 σ H2 x1 x2 ov iv _ I2 r1 r2 q2) fun old s3 ⟨x3, H3, I3, r3, q3⟩ => ?_
  refine thn (he pins s3 σ H3 _ I3 q3) fun v s4 ⟨x4, H4, I4, r4, q4⟩ => ?_
  refine thn (hp pins s4 σ H4 x3 x4 old v _ I4 r3 r4 q4) fun new s5 ⟨x5, H5, I5, r5, q5⟩ => ?_
  exact thn (hs pins s5 σ H5 x1 x2 x5 ov iv new _ I5 r1 r2 r5 q5) fun _ s6 ⟨H6, I6, q6⟩ => ⟨σ, H6, I6, q6⟩
/-- ints -/
def ipI (f : Int → Int → Int) : TIp := fun x y H Q => ∃ i j, x = .int i ∧ y = .int j ∧ Q (.int (f i j)) H
theorem ip_add : PIp X .Add (ipI fun i j => i + j) := by
  intro pins s σ H x y v u Q I r1 r2 h
  obtain ⟨i, j, e1, e2, q⟩ := h
  subst e1; subst e2
  obtain ⟨t, rfl⟩ := r1
  obtain ⟨t', rfl⟩ := r2
  exact iadd_int ⟨.int _, H, I.tok _, ⟨_, rfl⟩, q⟩
theorem ip_sub : PIp X .Sub (ipI fun i j => i - j) := by
  intro pins s σ H x y v u Q I r1 r2 h
  obtain ⟨i, j, e1, e2, q⟩ := h
  subst e1; subst e2
  obtain ⟨t, rfl⟩ := r1
  obtain ⟨t', rfl⟩ := r2
  exact isub_int ⟨.int _, H, I.tok _, ⟨_, rfl⟩, q⟩
end

/-! ### while -/
section
variable {X : Cx} {pos : Pos}
/-- the invariant W with its measure -/
def tWhile (c : TT) (tb : TS) : TS := fun D σ H => ∃ W : Nat → St → Hp → Prop, (∃ m, W m σ H) ∧ ∀ m σ H, W m σ H →
  c σ H fun b H1 => if b = true then ∃ N : St → Hp → Prop, (∀ σ' H', N σ' H' → ∃ m', m' < m ∧ W m' σ' H') ∧ tb { D with nx := N, ct := N, bk := D.nx } σ H1 else D.nx σ H1
theorem ps_while {c : Expr} {body : List Stmt} {tc : TT} {tb : TS} (hp : PassesOwn (model X.prog X.w) X.A X.env X.xe) (hc : PT X c tc) (hb : PSs X body tb) : PS X (.While c body [] pos) (tWhile tc tb) := by
  intro pins s σ H D I h
  obtain ⟨W, ⟨m0, w0⟩, turn⟩ := h
  refine wpAny_While (codeAny_whileLoop (fun n s' => ∃ σ' H', Inv X pins σ' H' s' ∧ W n σ' H') ?_ m0 ⟨σ, H, I, w0⟩)
  rintro n s1 ⟨σ1, H1, I1, w1⟩
  refine wpAny_passesOwn hp (thn (hc pins s1 σ1 H1 _ I1 (turn n σ1 H1 w1)) fun b s2 ⟨H2, I2, q2⟩ => ?_)
  cases b with
  | true =>
    obtain ⟨N, hN, q2⟩ := q2
    rw [if_pos rfl]
    refine wpAny_passesOwn hp (thn (hb pins s2 σ1 H2 _ I2 q2) fun f s3 q3 => ?_)
    cases f with
    | next =>
      obtain ⟨σ3, H3, I3, n3⟩ := q3
      obtain ⟨m', hm, w3⟩ := hN σ3 H3 n3
      exact ⟨m', hm, σ3, H3, I3, w3⟩
    | cont =>
      obtain ⟨σ3, H3, I3, n3⟩ := q3
      obtain ⟨m', hm, w3⟩ := hN σ3 H3 n3
      exact ⟨m', hm, σ3, H3, I3, w3⟩
    | brk => exact q3
    | ret v => exact q3
  | false =>
    rw [if_neg Bool.false_ne_true]
    exact wpAny_execs_nil ⟨σ1, H2, I2, q2⟩
end

/-! ### what a loop or a comprehension walks -/
/-- at turn i: it yields x (the heap may grow), or it stops -/
structure It where
  go : Nat → Hp → Prop
  yld : Nat → Hp → V → Hp → Prop
  stop : Nat → Hp → Prop
/-- the iterator's own objects may turn: they are not the frame's, not pinned, younger than the entry (or a comprehension's own) -/
def FpOk (X : Cx) (pins : List (Addr × Obj)) (H : Hp) (b : Addr) : Prop :=
  H b = none ∧ b ≠ X.env.locals ∧ b ∉ X.fs ∧ (b ∈ X.ex ∨ X.s₀.heap.objs.size ≤ b) ∧ (∀ x c, X.env.cells.lookup x = some c → c ≠ b) ∧ ∀ p ∈ X.pn ++ pins, p.1 ≠ b
theorem Inv.fpOk {X : Cx} {pins : List (Addr × Obj)} {σ : St} {H H' : Hp} {s : Shared} {b : Addr} (I : Inv X pins σ H s) (hb : s.heap.objs.size ≤ b) (hn : H' b = none) : FpOk X pins H' b := by
  refine ⟨hn, Nat.ne_of_gt (Nat.lt_of_lt_of_le I.lt hb), I.nofs hb, .inr (Nat.le_trans I.sz hb), fun x c e z => ?_, fun p hp z => ?_⟩
  · obtain ⟨v, q⟩ := I.cell x c e
    exact absurd (Nat.lt_of_lt_of_le q.lt (by rw [z]; exact hb)) (Nat.lt_irrefl _)
  · exact absurd (Nat.lt_of_lt_of_le (Heap.lt_size (I.pin p hp).1) (by rw [z]; exact hb)) (Nat.lt_irrefl _)
structure Turn (P : Program) (w : World) (K : PySem.W.Frag) (tg : Expr) (J : It) (fp : List Addr) (it : Addr) (tn : Nat → Heap → Prop) : Prop where
  mem : it ∈ fp
  obj : ∀ i h, tn i h → ∀ b ∈ fp, ∃ o, h.get? b = some o ∧ ∀ v, o.data ≠ .cell v
  keep : ∀ i h h', tn i h → (∀ b ∈ fp, ∀ o, h.get? b = some o → h'.get? b = some o) → tn i h'
  item : ∀ (X : Cx), X.prog = P → X.w = w → X.K = K → X.calm = true → ∀ (i : Nat) (pins : List (Addr × Obj)) (s : Shared) (σ : St) (H : Hp) (E : Value → Shared → Prop), Inv X pins σ H s → (∀ b ∈ fp, FpOk X pins H b) → tn i s.heap → J.go i H →
    wpAny (model P w) X.A (pyNext (.ref it)) (fun r s1 => ∃ u, r = some u ∧
      wpAny (model P w) X.A (letOwnedTupleGo tg (.ref it) u) (fun _ s2 => ∃ x H', Inv X pins σ H' s2 ∧ RelV x u ∧ J.yld i H x H' ∧ tn (i + 1) s2.heap ∧ ∀ b ∈ fp, H' b = none) E s1) E s
  done : ∀ (X : Cx), X.prog = P → X.w = w → X.K = K → X.calm = true → ∀ (i : Nat) (pins : List (Addr × Obj)) (s : Shared) (σ : St) (H : Hp) (E : Value → Shared → Prop), Inv X pins σ H s → (∀ b ∈ fp, FpOk X pins H b) → tn i s.heap → J.stop i H →
    wpAny (model P w) X.A (pyNext (.ref it)) (fun r s1 => r = none ∧ Inv X pins σ H s1) E s
  self : ∀ (A : Around) (i : Nat) (s : Shared) (Q : Value → Shared → Prop) (E : Value → Shared → Prop), tn i s.heap → Q (.ref it) s → wpAny (model P w) A (pyIter (.ref it)) Q E s
abbrev TI := St → Hp → (It → Hp → Prop) → Prop
/-- an iterator has come -/
def PIE (X : Cx) (pins : List (Addr × Obj)) (σ : St) (tg : Expr) (R : It → Hp → Prop) (itv : Value) (s2 : Shared) : Prop :=
  ∃ (it : Addr) (fp : List Addr) (tn : Nat → Heap → Prop) (J : It) (H' : Hp), itv = .ref it ∧ Inv X pins σ H' s2 ∧ Turn X.prog X.w X.K tg J fp it tn ∧ tn 0 s2.heap ∧ (∀ b ∈ fp, FpOk X pins H' b) ∧ R J H'
def PI (X : Cx) (tg iter : Expr) (wi : TI) : Prop :=
  ∀ (pins : List (Addr × Obj)) (s : Shared) (σ : St) (H : Hp) (R : It → Hp → Prop), Inv X pins σ H s → wi σ H R →
    wpAny (model X.prog X.w) X.A (eval iter X.env) (fun v s1 => wpAny (model X.prog X.w) X.A (pyIter v) (PIE X pins σ tg R) X.xe s1) X.xe s

/-- the step ahead of the store is nothing for an iterator that keeps no tuple -/
theorem go_of {M : Model} {A : Around} {E : Value → Shared → Prop} {s : Shared} {tg : Expr} {it : Addr} {u : Value} {o : Obj} {n : String} {vs : Array Value} {Q : Unit → Shared → Prop} (ho : s.heap.get? it = some o) (hc : o.cls = .type n) (hd : o.data = .fields vs)
    (hn : ["enumerate", "zip", "dict_itemiterator", "dict_reverseitemiterator", "odict_iterator", "itertools.zip_longest", "itertools.pairwise"].contains n = false) (hQ : Q () s) : wpAny M A (letOwnedTupleGo tg (.ref it) u) Q E s := by
  unfold letOwnedTupleGo
  cases tg <;> first
    | exact wpAny_pure hQ
    | (cases u <;> first
        | exact wpAny_pure hQ
        | (refine wpAny_bind (wpAny_load ho ?_)
           rw [hc, hd]
           show wpAny M A (if (["enumerate", "zip", "dict_itemiterator", "dict_reverseitemiterator", "odict_iterator", "itertools.zip_longest", "itertools.pairwise"].contains n && vs[0]? == some (rawInt _)) = true then _ else _) Q E s
           rw [if_neg (by intro h; rw [hn, Bool.false_and] at h; cases h)]
           exact wpAny_pure hQ))

/-- the list at a, as it stands at each turn (a loop may append to it) -/
def Itl (K : PySem.W.Frag) (a : Addr) : It :=
  ⟨fun i H => ∃ xs x, SqL K H a xs ∧ xs[i]? = some x, fun i H x H' => H' = H ∧ ∀ xs, SqL K H a xs → xs[i]? = some x, fun i H => ∃ xs, SqL K H a xs ∧ xs.length ≤ i⟩
def Itt (K : PySem.W.Frag) (a : Addr) : It :=
  ⟨fun i H => ∃ xs x, SqT K H a xs ∧ xs[i]? = some x, fun i H x H' => H' = H ∧ ∀ xs, SqT K H a xs → xs[i]? = some x, fun i H => ∃ xs, SqT K H a xs ∧ xs.length ≤ i⟩
/-- lo, lo + 1, .. (n of them) -/
def Itr (lo : Int) (n : Nat) : It := ⟨fun i _ => i < n, fun i H x H' => H' = H ∧ x = .int (lo + i), fun i _ => n ≤ i⟩
theorem turn_list {P : Program} {w : World} {K : PySem.W.Frag} {tg : Expr} (a it : Addr) : Turn P w K tg (Itl K a) [it] it (fun i h => h.IsListIter it a i) where
  mem := by simp
  obj := fun i h st b hb => by
    have e : b = it := by simpa using hb
    subst e
    obtain ⟨o, e, c, d⟩ := st
    exact ⟨o, e, fun v z => by rw [d] at z; cases z⟩
  keep := fun i h h' st k => st.at fun o e => k it (by simp) o e
  item := by
    intro X hP hw hK hc i pins s σ H E I hf st hg
    subst hP hw hK
    obtain ⟨xs, x, hq, hx⟩ := hg
    obtain ⟨its, rv, p, hz⟩ := I.list hq
    obtain ⟨u, hu, ru⟩ := rv.get hx
    obtain ⟨f0, f1, f2, f3, f4, f5⟩ := hf it (by simp)
    refine wpAny_pyNext_list_item st p.isList (x := u) (by simpa using hu) fun h' st' sb => ?_
    have I1 : Inv X pins σ H { s with heap := h' } := I.turned (t' := s.toks) (fun b o hb e => (sb.2 b hb).trans e) f0 f1 f3 f4 f5
    obtain ⟨o, e, c, d⟩ := id st'
    exact ⟨u, rfl, go_of (s := { s with heap := h' }) e c d (by decide) ⟨x, H, I1, ru, ⟨rfl, fun ys hy => by rw [I.list_inj hy hq]; exact hx⟩, st', fun b hb => (hf b hb).1⟩⟩
  done := by
    intro X hP hw hK hc i pins s σ H E I hf st hg
    subst hP hw hK
    obtain ⟨xs, hq, hx⟩ := hg
    obtain ⟨its, rv, p, hz⟩ := I.list hq
    obtain ⟨f0, f1, f2, f3, f4, f5⟩ := hf it (by simp)
    have hl := rv.length
    exact wpAny_pyNext_list_end (I.ok.hd hc) st p.isList (by simp; omega) fun h' eb => ⟨rfl, I.turned (t' := s.toks) (fun b o hb e => eb b o hb e) f0 f1 f3 f4 f5⟩
  self := fun _ _ _ _ _ st h => wpAny_pyIter_listiter st h
theorem turn_tuple {P : Program} {w : World} {K : PySem.W.Frag} {tg : Expr} (a it : Addr) : Turn P w K tg (Itt K a) [it] it (fun i h => h.IsTupleIter it a i) where
  mem := by simp
  obj := fun i h st b hb => by
    have e : b = it := by simpa using hb
    subst e
    obtain ⟨o, e, c, d⟩ := st
    exact ⟨o, e, fun v z => by rw [d] at z; cases z⟩
  keep := fun i h h' st k => st.at fun o e => k it (by simp) o e
  item := by
    intro X hP hw hK hc i pins s σ H E I hf st hg
    subst hP hw hK
    obtain ⟨xs, x, hq, hx⟩ := hg
    obtain ⟨its, rv, p, hz⟩ := I.tuple hq
    obtain ⟨u, hu, ru⟩ := rv.get hx
    obtain ⟨f0, f1, f2, f3, f4, f5⟩ := hf it (by simp)
    refine wpAny_pyNext_tuple_item st (show s.heap.IsTuple a its.toArray from p) (x := u) (by simpa using hu) fun h' st' sb => ?_
    have I1 : Inv X pins σ H { s with heap := h' } := I.turned (t' := s.toks) (fun b o hb e => (sb.2 b hb).trans e) f0 f1 f3 f4 f5
    obtain ⟨o, e, c, d⟩ := id st'
    exact ⟨u, rfl, go_of (s := { s with heap := h' }) e c d (by decide) ⟨x, H, I1, ru, ⟨rfl, fun ys hy => by rw [I.tuple_inj hy hq]; exact hx⟩, st', fun b hb => (hf b hb).1⟩⟩
  done := by
    intro X hP hw hK hc i pins s σ H E I hf st hg
    subst hP hw hK
    obtain ⟨xs, hq, hx⟩ := hg
    obtain ⟨its, rv, p, hz⟩ := I.tuple hq
    obtain ⟨f0, f1, f2, f3, f4, f5⟩ := hf it (by simp)
    have hl := rv.length
    exact wpAny_pyNext_tuple_end (I.ok.hd hc) st (show s.heap.IsTuple a its.toArray from p) (by simp; omega) fun h' eb => ⟨rfl, I.turned (t' := s.toks) (fun b o hb e => eb b o hb e) f0 f1 f3 f4 f5⟩
  self := fun _ _ _ _ _ st h => wpAny_pyIter_tupleiter st h
theorem turn_range {P : Program} {w : World} {K : PySem.W.Frag} {tg : Expr} (it : Addr) (lo : Int) (n : Nat) : Turn P w K tg (Itr lo n) [it] it (fun i h => IsRangeIter h it (lo + (i : Nat) * 1) ((n : Int) - (i : Nat)) 1) where
  mem := by simp
  obj := fun i h st b hb => by
    have e : b = it := by simpa using hb
    subst e
    exact ⟨_, st, fun v z => by
      have z' : Data.fields _ = Data.cell v := z
      cases z'⟩
  keep := fun i h h' st k => k it (by simp) _ st
  item := by
    intro X hP hw hK hc i pins s σ H E I hf st hg
    subst hP hw hK
    obtain ⟨f0, f1, f2, f3, f4, f5⟩ := hf it (by simp)
    have W := Walks.range (prog := X.prog) (w := X.w) (I.ok.hd hc) it lo 1 n
    refine W.item i s _ _ hg st fun v h' tk hv st' kk => ?_
    obtain ⟨t, rfl⟩ := hv
    have I1 : Inv X pins σ H { s with heap := h', toks := tk } := I.turned (fun b o hb e => kk b o (by simpa using hb) e) f0 f1 f3 f4 f5
    refine ⟨_, rfl, go_of (s := { s with heap := h', toks := tk }) (n := "range_iterator") st' rfl rfl (by decide) ⟨.int (lo + i), H, I1, ⟨t, ?_⟩, ⟨rfl, rfl⟩, st', fun b hb => (hf b hb).1⟩⟩
    rw [Int.mul_one]
  done := by
    intro X hP hw hK hc i pins s σ H E I hf st hg
    subst hP hw hK
    obtain ⟨f0, f1, f2, f3, f4, f5⟩ := hf it (by simp)
    exact wpAny_pyNext_range_end (I.ok.hd hc) st (by have : n ≤ i := hg; omega) fun h' eb => ⟨rfl, I.turned (t' := s.toks) (fun b o hb e => eb b o hb e) f0 f1 f3 f4 f5⟩
  self := fun _ _ _ _ _ st h => wpAny_pyIter_rangeiter st h
end L2

namespace L2
open PySem PySem.Spec PyProof.Rows
section
variable {X : Cx} {tg : Expr}
def iList (K : PySem.W.Frag) (tl : TE) : TI := fun σ H R => tl σ H fun x H1 => ∃ a, x = .ref a ∧ (∃ xs, SqL K H1 a xs) ∧ R (Itl K a) H1
def iTup (K : PySem.W.Frag) (tl : TE) : TI := fun σ H R => tl σ H fun x H1 => ∃ a, x = .ref a ∧ (∃ xs, SqT K H1 a xs) ∧ R (Itt K a) H1
theorem pi_list {l : Expr} {tl : TE} (hl : PE X l tl) : PI X tg l (iList X.K tl) := by
  intro pins s σ H R I h
  refine thn (hl pins s σ H _ I h) fun v s1 ⟨x, H1, I1, r1, q1⟩ => ?_
  obtain ⟨a, e, ⟨xs, hq⟩, q⟩ := q1
  subst e
  cases r1
  obtain ⟨its, rv, p, hz⟩ := I1.list hq
  refine wpAny_pyIter_list p.isList ?_
  refine ⟨s1.heap.objs.size, [s1.heap.objs.size], _, _, H1, rfl, I1.kept (t' := s1.toks) fun b o e => Heap.get?_push_of_some _ e, turn_list a _, ⟨_, Heap.get?_push_size _ rfl, rfl, rfl⟩, fun b hb => ?_, q⟩
  have e : b = s1.heap.objs.size := by simpa using hb
  subst e
  exact I1.fpOk (Nat.le_refl _) (I1.hok.fresh (Nat.le_refl _))
theorem pi_tup {l : Expr} {tl : TE} (hl : PE X l tl) : PI X tg l (iTup X.K tl) := by
  intro pins s σ H R I h
  refine thn (hl pins s σ H _ I h) fun v s1 ⟨x, H1, I1, r1, q1⟩ => ?_
  obtain ⟨a, e, ⟨xs, hq⟩, q⟩ := q1
  subst e
  cases r1
  obtain ⟨its, rv, p, hz⟩ := I1.tuple hq
  refine wpAny_pyIter_tuple (show s1.heap.IsTuple a its.toArray from p) ?_
  refine ⟨s1.heap.objs.size, [s1.heap.objs.size], _, _, H1, rfl, I1.kept (t' := s1.toks) fun b o e => Heap.get?_push_of_some _ e, turn_tuple a _, ⟨_, Heap.get?_push_size _ rfl, rfl, rfl⟩, fun b hb => ?_, q⟩
  have e : b = s1.heap.objs.size := by simpa using hb
  subst e
  exact I1.fpOk (Nat.le_refl _) (I1.hok.fresh (Nat.le_refl _))
/-- a range object just made, walked -/
theorem range_it {pins : List (Addr × Obj)} {σ : St} {H : Hp} {s : Shared} {R : It → Hp → Prop} {E : Value → Shared → Prop} {lo hi : Int} {t u v : Tok} {tk : Nat} (I : Inv X pins σ H s) (h1 : -(2 ^ 62) ≤ lo) (h2 : lo < 2 ^ 62) (h3 : -(2 ^ 62) ≤ hi) (h4 : hi < 2 ^ 62)
    (q : R (Itr lo (hi - lo).toNat) H) : wpAny (model X.prog X.w) X.A (pyIter (.ref s.heap.objs.size)) (PIE X pins σ tg R) E { s with heap := s.heap.push { cls := .type "range", data := .fields #[.int lo t, .int hi u, .int 1 v] }, toks := tk } := by
  refine wpAny_pyIter_range (IsRange.new ..) (small_one h1 h2 h3 h4) ?_
  have I1 : Inv X pins σ H { s with heap := s.heap.push { cls := .type "range", data := .fields #[.int lo t, .int hi u, .int 1 v] }, toks := tk } := I.kept fun b o e => Heap.get?_push_of_some _ e
  refine ⟨(s.heap.push { cls := .type "range", data := .fields #[.int lo t, .int hi u, .int 1 v] }).objs.size, [(s.heap.push { cls := .type "range", data := .fields #[.int lo t, .int hi u, .int 1 v] }).objs.size], _, _, H, rfl,
    I1.kept (t' := tk) fun b o e => Heap.get?_push_of_some _ e, turn_range _ lo (hi - lo).toNat, ?_, fun b hb => ?_, q⟩
  · have e1 : lo + ((0 : Nat) : Int) * 1 = lo := by simp
    have e2 : (((hi - lo).toNat : Nat) : Int) - ((0 : Nat) : Int) = Builtin.Range.rangeSize lo hi 1 := by rw [rangeSize_one]; split <;> omega
    show IsRangeIter _ _ (lo + ((0 : Nat) : Int) * 1) ((((hi - lo).toNat : Nat) : Int) - ((0 : Nat) : Int)) 1
    rw [e1, e2]
    exact Heap.get?_push_size _ rfl
  · have e : b = (s.heap.push { cls := .type "range", data := .fields #[.int lo t, .int hi u, .int 1 v] }).objs.size := by simpa using hb
    subst e
    exact I1.fpOk (Nat.le_refl _) (I1.hok.fresh (Nat.le_refl _))
def iRng1 (ta : TA) : TI := fun σ H R => ta σ H fun vs H1 => ∃ j : Int, vs = [.int j] ∧ -(2 ^ 62) ≤ j ∧ j < 2 ^ 62 ∧ R (Itr 0 j.toNat) H1
def iRng2 (ta : TA) : TI := fun σ H R => ta σ H fun vs H1 => ∃ i j : Int, vs = [.int i, .int j] ∧ (-(2 ^ 62) ≤ i ∧ i < 2 ^ 62 ∧ -(2 ^ 62) ≤ j ∧ j < 2 ^ 62) ∧ R (Itr i (j - i).toNat) H1
theorem pi_range1 {a : Expr} {ta : TA} {p pos : Pos} (hg : Gl X "range") (hm : X.mg "range" = none) (ha : PA X [a] ta) (hs : starEach [a] X.env = [(false, eval a X.env)] := by rfl) : PI X tg (.Call (.Name "range" p) [a] [] pos) (iRng1 ta) := by
  intro pins s σ H R I h
  refine Call_ (ld_blt I hg hm boot_range (PyProof.Rows.callWith_type1 (thn (ha pos pins s σ H _ I h) fun us s1 ⟨vs, H1, I1, r1, q1⟩ => ?_) hs rfl))
  obtain ⟨j, e, q1, q2, q⟩ := q1
  subst e
  cases r1 with
  | cons r rr =>
    cases rr
    obtain ⟨t, rfl⟩ := r
    exact call_range_1 (range_it I1 (by omega) (by omega) q1 q2 (by simpa using q))
theorem pi_range2 {a b : Expr} {ta : TA} {p pos : Pos} (hg : Gl X "range") (hm : X.mg "range" = none) (ha : PA X [a, b] ta) (hs : starEach [a, b] X.env = [(false, eval a X.env), (false, eval b X.env)] := by rfl) (hs2 : starEach [b] X.env = [(false, eval b X.env)] := by rfl) :
    PI X tg (.Call (.Name "range" p) [a, b] [] pos) (iRng2 ta) := by
  intro pins s σ H R I h
  refine Call_ (ld_blt I hg hm boot_range (PyProof.Rows.callWith_type1 (thn (ha pos pins s σ H _ I h) fun us s1 ⟨vs, H1, I1, r1, q1⟩ => ?_) (by rw [hs, hs2]) (by rw [hs2]; rfl)))
  obtain ⟨i, j, e, ⟨q1, q2, q3, q4⟩, q⟩ := q1
  subst e
  cases r1 with
  | cons r rr =>
    cases rr with
    | cons r' rr =>
      cases rr
      obtain ⟨t, rfl⟩ := r
      obtain ⟨t', rfl⟩ := r'
      exact call_range_2 (range_it I1 q1 q2 q3 q4 q)

/-! ### for -/
/-- W: the invariant by the turn and a measure; N: what the body is to reach -/
def tFor (wi : TI) (g : TG) (tb : TS) : TS := fun D σ H => wi σ H fun J H1 => ∃ W : Nat → Nat → St → Hp → Prop, (∃ m, W 0 m σ H1) ∧ ∀ i m σ H, W i m σ H →
  (J.stop i H ∧ D.nx σ H) ∨ (J.go i H ∧ ∃ N : St → Hp → Prop, (∀ σ' H', N σ' H' → ∃ m', m' < m ∧ W (i + 1) m' σ' H') ∧ ∀ x H', J.yld i H x H' → g x σ H' fun σ2 H2 => tb { D with nx := N, ct := N, bk := D.nx } σ2 H2)
/-- the records at fp as they stand -/
def pinsAt (fp : List Addr) (h : Heap) : List (Addr × Obj) := fp.filterMap fun b => (h.get? b).map fun o => (b, o)
theorem mem_pinsAt {fp : List Addr} {h : Heap} {b : Addr} {o : Obj} (hb : b ∈ fp) (e : h.get? b = some o) : (b, o) ∈ pinsAt fp h := List.mem_filterMap.mpr ⟨b, hb, by rw [e]; rfl⟩
theorem of_pinsAt {fp : List Addr} {h : Heap} {p : Addr × Obj} (hp : p ∈ pinsAt fp h) : p.1 ∈ fp ∧ h.get? p.1 = some p.2 := by
  obtain ⟨b, hb, e⟩ := List.mem_filterMap.mp hp
  cases q : h.get? b with
  | none => rw [q] at e; cases e
  | some o =>
    rw [q] at e
    have e' : (b, o) = p := Option.some.inj e
    subst e'
    exact ⟨hb, q⟩
theorem Inv.pinned {pins : List (Addr × Obj)} {σ : St} {H : Hp} {s : Shared} {fp : List Addr} (I : Inv X pins σ H s) (hf : ∀ b ∈ fp, FpOk X pins H b) (ho : ∀ b ∈ fp, ∃ o, s.heap.get? b = some o ∧ ∀ v, o.data ≠ .cell v) : Inv X (pins ++ pinsAt fp s.heap) σ H s :=
  I.pins_of fun p hp => (List.mem_append.mp hp).elim (fun z => I.pin p (List.mem_append_right _ z)) fun z => by
    obtain ⟨hb, e⟩ := of_pinsAt z
    obtain ⟨f0, f1, f2, _⟩ := hf p.1 hb
    obtain ⟨o, e', d⟩ := ho p.1 hb
    rw [e] at e'; cases e'
    exact ⟨e, f0, f1, f2, d⟩
theorem Inv.unpinned {pins pl : List (Addr × Obj)} {σ : St} {H : Hp} {s : Shared} (I : Inv X (pins ++ pl) σ H s) : Inv X pins σ H s := I.pins_of fun p hp => I.pin p (List.mem_append_right _ (List.mem_append_left _ hp))
theorem ps_for {iter : Expr} {body : List Stmt} {wi : TI} {g : TG} {tb : TS} {pos : Pos} (hp : PassesOwn (model X.prog X.w) X.A X.env X.xe) (hc : X.calm = true) (hi : PI X tg iter wi) (hg : PG X tg g) (hb : PSs X body tb)
    (hs : ∀ x, foldedSetIterable iter X.env x = pure x := by intro _; rfl) : PS X (.For tg iter body [] pos) (tFor wi g tb) := by
  intro pins s σ H D I h
  refine wpAny_For (thn (hi pins s σ H _ I h) fun v s1 h1 => thn h1 fun itv s2 h2 => ?_) hs
  obtain ⟨it, fp, tn, J, H2, e, I2, T, st2, f2, W, ⟨m0, w0⟩, turn⟩ := h2
  subst e
  -- what stays true of the iterator's objects through the loop
  have stat : ∀ {H' : Hp}, (∀ b ∈ fp, H' b = none) → ∀ b ∈ fp, FpOk X pins H' b := fun hn b hb => ⟨hn b hb, (f2 b hb).2⟩
  refine codeAny_forLoop_any (fun n s' => ∃ i σ' H', Inv X pins σ' H' s' ∧ tn i s'.heap ∧ (∀ b ∈ fp, H' b = none) ∧ W i n σ' H') ?_ m0 ⟨0, σ, H2, I2, st2, fun b hb => (f2 b hb).1, w0⟩
  rintro n s3 ⟨i, σ3, H3, I3, st3, fr3, w3⟩
  rcases turn i n σ3 H3 w3 with ⟨stop, qn⟩ | ⟨go, N, hN, step⟩
  · refine wpAny_passesOwn hp (thn (T.done X rfl rfl rfl hc i pins s3 σ3 H3 X.xe I3 (stat fr3) st3 stop) fun r s4 ⟨hr, I4⟩ => ?_)
    subst hr
    exact wpAny_execs_nil ⟨σ3, H3, I4, qn⟩
  · refine wpAny_passesOwn hp (thn (T.item X rfl rfl rfl hc i pins s3 σ3 H3 X.xe I3 (stat fr3) st3 go) fun r s4 ⟨u, hr, h4⟩ => ?_)
    subst hr
    refine wpAny_passesOwn hp (thn h4 fun _ s5 ⟨x, H5, I5, r5, y5, st5, fr5⟩ => ?_)
    have I5' := I5.pinned (stat fr5) (T.obj _ _ st5)
    refine wpAny_passesOwn hp (thn (hg _ s5 σ3 H5 x u _ I5' r5 (step x H5 y5)) fun _ s6 ⟨σ6, H6, I6, q6⟩ => ?_)
    refine wpAny_passesOwn hp (thn (hb _ s6 σ6 H6 _ I6 q6) fun f s7 q7 => ?_)
    have again : ∀ {σ7 : St} {H7 : Hp}, Inv X (pins ++ pinsAt fp s5.heap) σ7 H7 s7 → N σ7 H7 → ∃ m, m < n ∧ ∃ i σ' H', Inv X pins σ' H' s7 ∧ tn i s7.heap ∧ (∀ b ∈ fp, H' b = none) ∧ W i m σ' H' := fun {σ7 H7} I7 n7 => by
      obtain ⟨m', hm, w7⟩ := hN σ7 H7 n7
      refine ⟨m', hm, i + 1, σ7, H7, I7.unpinned, T.keep _ _ _ st5 fun b hb o e => (I7.pin (b, o) (List.mem_append_right _ (List.mem_append_right _ (mem_pinsAt hb e)))).1, fun b hb => ?_, w7⟩
      obtain ⟨o, e, d⟩ := T.obj _ _ st5 b hb
      exact (I7.pin (b, o) (List.mem_append_right _ (List.mem_append_right _ (mem_pinsAt hb e)))).2.1
    cases f with
    | next => obtain ⟨σ7, H7, I7, n7⟩ := q7; exact again I7 n7
    | cont => obtain ⟨σ7, H7, I7, n7⟩ := q7; exact again I7 n7
    | brk => obtain ⟨σ7, H7, I7, q7⟩ := q7; exact ⟨σ7, H7, I7.unpinned, q7⟩
    | ret v => obtain ⟨x7, σ7, H7, I7, r7, q7⟩ := q7; exact ⟨x7, σ7, H7, I7.unpinned, r7, q7⟩
end

/-! ### the forms one uses -/
/-- over a list that the body leaves as it is -/
theorem for_list {K : PySem.W.Frag} {a : Addr} {xs : List V} {g : TG} {tb : TS} {D : Ends} {σ : St} {H : Hp} (Pv : Nat → St → Hp → Prop) (h0 : Pv 0 σ H) (hl : ∀ i σ H, i ≤ xs.length → Pv i σ H → SqL K H a xs)
    (hs : ∀ i x σ H, xs[i]? = some x → Pv i σ H → g x σ H fun σ2 H2 => tb { D with nx := Pv (i + 1), ct := Pv (i + 1), bk := D.nx } σ2 H2) (hd : ∀ σ H, Pv xs.length σ H → D.nx σ H) :
    ∃ W : Nat → Nat → St → Hp → Prop, (∃ m, W 0 m σ H) ∧ ∀ i m σ H, W i m σ H →
      ((Itl K a).stop i H ∧ D.nx σ H) ∨ ((Itl K a).go i H ∧ ∃ N : St → Hp → Prop, (∀ σ' H', N σ' H' → ∃ m', m' < m ∧ W (i + 1) m' σ' H') ∧ ∀ x H', (Itl K a).yld i H x H' → g x σ H' fun σ2 H2 => tb { D with nx := N, ct := N, bk := D.nx } σ2 H2) := by
  refine ⟨fun i m σ H => m = xs.length - i ∧ i ≤ xs.length ∧ Pv i σ H, ⟨xs.length, by simp, Nat.zero_le _, h0⟩, ?_⟩
  rintro i m σ H ⟨rfl, hi, p⟩
  have q := hl i σ H hi p
  by_cases hlt : i < xs.length
  · refine .inr ⟨⟨xs, xs[i], q, by simp [hlt]⟩, Pv (i + 1), fun σ' H' p' => ⟨xs.length - (i + 1), by omega, rfl, hlt, p'⟩, fun x H' y => ?_⟩
    obtain ⟨e, y⟩ := y
    subst e
    exact hs i x σ _ (y xs q) p
  · have e : i = xs.length := by omega
    subst e
    exact .inl ⟨⟨xs, q, Nat.le_refl _⟩, hd σ H p⟩
theorem for_tup {K : PySem.W.Frag} {a : Addr} {xs : List V} {g : TG} {tb : TS} {D : Ends} {σ : St} {H : Hp} (Pv : Nat → St → Hp → Prop) (h0 : Pv 0 σ H) (hl : ∀ i σ H, i ≤ xs.length → Pv i σ H → SqT K H a xs)
    (hs : ∀ i x σ H, xs[i]? = some x → Pv i σ H → g x σ H fun σ2 H2 => tb { D with nx := Pv (i + 1), ct := Pv (i + 1), bk := D.nx } σ2 H2) (hd : ∀ σ H, Pv xs.length σ H → D.nx σ H) :
    ∃ W : Nat → Nat → St → Hp → Prop, (∃ m, W 0 m σ H) ∧ ∀ i m σ H, W i m σ H →
      ((Itt K a).stop i H ∧ D.nx σ H) ∨ ((Itt K a).go i H ∧ ∃ N : St → Hp → Prop, (∀ σ' H', N σ' H' → ∃ m', m' < m ∧ W (i + 1) m' σ' H') ∧ ∀ x H', (Itt K a).yld i H x H' → g x σ H' fun σ2 H2 => tb { D with nx := N, ct := N, bk := D.nx } σ2 H2) := by
  refine ⟨fun i m σ H => m = xs.length - i ∧ i ≤ xs.length ∧ Pv i σ H, ⟨xs.length, by simp, Nat.zero_le _, h0⟩, ?_⟩
  rintro i m σ H ⟨rfl, hi, p⟩
  have q := hl i σ H hi p
  by_cases hlt : i < xs.length
  · refine .inr ⟨⟨xs, xs[i], q, by simp [hlt]⟩, Pv (i + 1), fun σ' H' p' => ⟨xs.length - (i + 1), by omega, rfl, hlt, p'⟩, fun x H' y => ?_⟩
    obtain ⟨e, y⟩ := y
    subst e
    exact hs i x σ _ (y xs q) p
  · have e : i = xs.length := by omega
    subst e
    exact .inl ⟨⟨xs, q, Nat.le_refl _⟩, hd σ H p⟩
theorem for_range {lo : Int} {n : Nat} {g : TG} {tb : TS} {D : Ends} {σ : St} {H : Hp} (Pv : Nat → St → Hp → Prop) (h0 : Pv 0 σ H)
    (hs : ∀ i σ H, i < n → Pv i σ H → g (.int (lo + i)) σ H fun σ2 H2 => tb { D with nx := Pv (i + 1), ct := Pv (i + 1), bk := D.nx } σ2 H2) (hd : ∀ σ H, Pv n σ H → D.nx σ H) :
    ∃ W : Nat → Nat → St → Hp → Prop, (∃ m, W 0 m σ H) ∧ ∀ i m σ H, W i m σ H →
      ((Itr lo n).stop i H ∧ D.nx σ H) ∨ ((Itr lo n).go i H ∧ ∃ N : St → Hp → Prop, (∀ σ' H', N σ' H' → ∃ m', m' < m ∧ W (i + 1) m' σ' H') ∧ ∀ x H', (Itr lo n).yld i H x H' → g x σ H' fun σ2 H2 => tb { D with nx := N, ct := N, bk := D.nx } σ2 H2) := by
  refine ⟨fun i m σ H => m = n - i ∧ i ≤ n ∧ Pv i σ H, ⟨n, by simp, Nat.zero_le _, h0⟩, ?_⟩
  rintro i m σ H ⟨rfl, hi, p⟩
  by_cases hlt : i < n
  · refine .inr ⟨hlt, Pv (i + 1), fun σ' H' p' => ⟨n - (i + 1), by omega, rfl, hlt, p'⟩, fun x H' y => ?_⟩
    obtain ⟨e, y⟩ := y
    subst e y
    exact hs i σ _ hlt p
  · have e : i = n := by omega
    subst e
    exact .inl ⟨Nat.le_refl _, hd σ H p⟩
/-- while, by a word and a measure of the state -/
theorem while_by {c : TT} {tb : TS} {D : Ends} {σ : St} {H : Hp} (Pv : St → Hp → Prop) (μ : St → Hp → Nat) (h0 : Pv σ H)
    (hs : ∀ σ H, Pv σ H → c σ H fun b H1 => if b = true then tb { D with nx := fun σ' H' => Pv σ' H' ∧ μ σ' H' < μ σ H, ct := fun σ' H' => Pv σ' H' ∧ μ σ' H' < μ σ H, bk := D.nx } σ H1 else D.nx σ H1)
    (mono : ∀ σ H Q Q', (∀ b H1, Q b H1 → Q' b H1) → c σ H Q → c σ H Q') : tWhile c tb D σ H := by
  refine ⟨fun m σ H => m = μ σ H ∧ Pv σ H, ⟨_, rfl, h0⟩, ?_⟩
  rintro m σ H ⟨rfl, p⟩
  refine mono σ H _ _ (fun b H1 q => ?_) (hs σ H p)
  cases b with
  | true => exact ⟨_, fun σ' H' ⟨p', l⟩ => ⟨_, l, rfl, p'⟩, q⟩
  | false => exact q
end L2

namespace L2
open PySem PySem.Spec PyProof.Rows

abbrev R2 := V → V → Hp → VK → Prop
/-- a two-place operation on values: f is binaryOp op, inplaceOp op or compareOp op -/
def OpR (X : Cx) (f : Value → Value → Sem Value) (r : R2) : Prop :=
  ∀ (pins : List (Addr × Obj)) (s : Shared) (σ : St) (H : Hp) (x y : V) (v u : Value) (Q : VK), Inv X pins σ H s → RelV x v → RelV y u → r x y H Q →
    wpAny (model X.prog X.w) X.A (f v u) (EP X pins σ Q) X.xe s
/-- a one-place operation -/
def UnR (X : Cx) (f : Value → Sem Value) (r : V → Hp → VK → Prop) : Prop :=
  ∀ (pins : List (Addr × Obj)) (s : Shared) (σ : St) (H : Hp) (x : V) (v : Value) (Q : VK), Inv X pins σ H s → RelV x v → r x H Q →
    wpAny (model X.prog X.w) X.A (f v) (EP X pins σ Q) X.xe s
/-- a call of a value that is known (a builtin, a type) with values -/
def CallR (X : Cx) (f : Value) (r : List V → Hp → VK → Prop) : Prop :=
  ∀ (pins : List (Addr × Obj)) (s : Shared) (σ : St) (H : Hp) (xs : List V) (us : List Value) (Q : VK), Inv X pins σ H s → Vals xs us → r xs H Q →
    wpAny (model X.prog X.w) X.A (call f us) (EP X pins σ Q) X.xe s
/-- a value's truth -/
def TruR (X : Cx) (r : V → Hp → (Bool → Hp → Prop) → Prop) : Prop :=
  ∀ (pins : List (Addr × Obj)) (s : Shared) (σ : St) (H : Hp) (x : V) (v : Value) (Q : Bool → Hp → Prop), Inv X pins σ H s → RelV x v → r x H Q →
    wpAny (model X.prog X.w) X.A (truthy v) (TP X pins σ Q) X.xe s

def tOp (r : R2) (ta tb : TE) : TE := fun σ H Q => ta σ H fun x H1 => tb σ H1 fun y H2 => r x y H2 Q
def tUn (r : V → Hp → VK → Prop) (ta : TE) : TE := fun σ H Q => ta σ H fun x H1 => r x H1 Q
/-- ints in, under C, and a value out -/
def rI (C : Int → Int → Prop) (g : Int → Int → V) : R2 := fun x y H Q => ∃ i j, x = .int i ∧ y = .int j ∧ C i j ∧ Q (g i j) H
def rI0 (g : Int → Int → V) : R2 := fun x y H Q => ∃ i j, x = .int i ∧ y = .int j ∧ Q (g i j) H
def rU (g : Int → V) : V → Hp → VK → Prop := fun x H Q => ∃ i, x = .int i ∧ Q (g i) H

section
variable {X : Cx} {a b c : Expr} {ta tb tc : TE} {pos : Pos}

theorem binT (ha : PE X a ta) (hb : PE X b tb) {pins : List (Addr × Obj)} {s : Shared} {σ : St} {H : Hp} {R : V → V → Hp → Prop} (I : Inv X pins σ H s)
    (h : ta σ H fun x H1 => tb σ H1 fun y H2 => R x y H2) {Q : Value → Shared → Prop} {f : Value → Value → Sem Value}
    (hf : ∀ v u s2 x y H2, Inv X pins σ H2 s2 → RelV x v → RelV y u → R x y H2 → wpAny (model X.prog X.w) X.A (f v u) Q X.xe s2) :
    wpAny (model X.prog X.w) X.A (eval a X.env) (fun v s₁ => wpAny (model X.prog X.w) X.A (eval b X.env) (fun u s₂ => wpAny (model X.prog X.w) X.A (f v u) Q X.xe s₂) X.xe s₁) X.xe s := by
  refine thn (ha pins s σ H _ I h) fun v s1 ⟨x, H1, I1, r1, q1⟩ => ?_
  refine thn (hb pins s1 σ H1 _ I1 q1) fun u s2 ⟨y, H2, I2, r2, q2⟩ => ?_
  exact hf v u s2 x y H2 I2 r1 r2 q2

theorem pe_op {op : Operator} {r : R2} (ho : OpR X (binaryOp op) r) (ha : PE X a ta) (hb : PE X b tb) : PE X (.BinOp a op b pos) (tOp r ta tb) := by
  intro pins s σ H Q I h
  exact wpAny_BinOp (binT ha hb I h fun v u s2 x y H2 I2 rx ry q => ho pins s2 σ H2 x y v u Q I2 rx ry q)
theorem pe_un {op : UnaryOp} {r : V → Hp → VK → Prop} (ho : UnR X (unaryOp op) r) (ha : PE X a ta) : PE X (.UnaryOp op a pos) (tUn r ta) := by
  intro pins s σ H Q I h
  exact UnaryOp_ (thn (ha pins s σ H _ I h) fun v s1 ⟨x, H1, I1, r1, q1⟩ => ho pins s1 σ H1 x v Q I1 r1 q1)
/-- a op= e at a name: the name's slot i -/
theorem augR {op : Operator} {r : R2} (ho : OpR X (inplaceOp op) r) {pins : List (Addr × Obj)} {s : Shared} {σ : St} {H : Hp} {x y : V} {v u : Value} {Q : VK} (I : Inv X pins σ H s)
    (rx : RelV x v) (ry : RelV y u) (q : r x y H Q) : wpAny (model X.prog X.w) X.A (inplaceOp op v u) (EP X pins σ Q) X.xe s := ho pins s σ H x y v u Q I rx ry q

/-! ### ints -/
theorem opI {f : Value → Value → Sem Value} {C : Int → Int → Prop} {g : Int → Int → Int}
    (rule : ∀ (i j : Int) (t u : Tok) (s : Shared) (Q : Value → Shared → Prop) (E : Value → Shared → Prop), C i j → Q (.int (g i j) s.toks) { s with toks := s.toks + 1 } → wpAny (model X.prog X.w) X.A (f (.int i t) (.int j u)) Q E s) :
    OpR X f (rI C fun i j => .int (g i j)) := by
  intro pins s σ H x y v u Q I rx ry h
  obtain ⟨i, j, rfl, rfl, hc, q⟩ := h
  obtain ⟨t, rfl⟩ := rx
  obtain ⟨t', rfl⟩ := ry
  exact rule i j t t' s _ _ hc ⟨.int (g i j), H, I.tok _, ⟨_, rfl⟩, q⟩
theorem opI0 {f : Value → Value → Sem Value} {g : Int → Int → Int}
    (rule : ∀ (i j : Int) (t u : Tok) (s : Shared) (Q : Value → Shared → Prop) (E : Value → Shared → Prop), Q (.int (g i j) s.toks) { s with toks := s.toks + 1 } → wpAny (model X.prog X.w) X.A (f (.int i t) (.int j u)) Q E s) :
    OpR X f (rI0 fun i j => .int (g i j)) := by
  intro pins s σ H x y v u Q I rx ry h
  obtain ⟨i, j, rfl, rfl, q⟩ := h
  obtain ⟨t, rfl⟩ := rx
  obtain ⟨t', rfl⟩ := ry
  exact rule i j t t' s _ _ ⟨.int (g i j), H, I.tok _, ⟨_, rfl⟩, q⟩
theorem opB0 {f : Value → Value → Sem Value} {g : Int → Int → Bool}
    (rule : ∀ (i j : Int) (t u : Tok) (s : Shared) (Q : Value → Shared → Prop) (E : Value → Shared → Prop), Q (.bool (g i j)) s → wpAny (model X.prog X.w) X.A (f (.int i t) (.int j u)) Q E s) :
    OpR X f (rI0 fun i j => .bl (g i j)) := by
  intro pins s σ H x y v u Q I rx ry h
  obtain ⟨i, j, rfl, rfl, q⟩ := h
  obtain ⟨t, rfl⟩ := rx
  obtain ⟨t', rfl⟩ := ry
  exact rule i j t t' s _ _ ⟨.bl (g i j), H, I, rfl, q⟩

def CDiv (i j : Int) : Prop := 0 < j ∧ j < 1073741824
def CDivN (i j : Int) : Prop := j ≠ 0 ∧ j.natAbs < 1073741824
def CPow (i j : Int) : Prop := 0 ≤ j ∧ j ≤ 1000000 ∧ i.natAbs < 2 ^ 64
def CMul (i j : Int) : Prop := (-(2 ^ 64) < i ∧ i < 2 ^ 64) ∨ (-(2 ^ 64) < j ∧ j < 2 ^ 64)
theorem CMul.ok {i j : Int} (h : CMul i j) : IntMulOk i j := by
  rcases h with ⟨h1, h2⟩ | ⟨h1, h2⟩
  · exact .of_left (intBits_le_64 h1 h2)
  · exact .of_right (intBits_le_64 h1 h2)
theorem two_pow_nn (k : Nat) : (0 : Int) ≤ 2 ^ k := by
  rw [two_pow_cast]
  exact Int.natCast_nonneg _

theorem op_add : OpR X (binaryOp .Add) (rI0 fun i j => .int (i + j)) := opI0 fun _ _ _ _ _ _ _ q => add_int q
theorem op_sub : OpR X (binaryOp .Sub) (rI0 fun i j => .int (i - j)) := opI0 fun _ _ _ _ _ _ _ q => sub_int q
theorem op_mul : OpR X (binaryOp .Mult) (rI CMul fun i j => .int (i * j)) := opI fun _ _ _ _ _ _ _ hc q => mul_int q hc.ok
/-- // by a positive divisor -/
theorem op_fdiv : OpR X (binaryOp .FloorDiv) (rI CDiv fun i j => .int (i / j)) := opI fun i j _ _ _ _ _ hc q => by
  have h1 : (0 : Int) < j := hc.1
  have h2 : j < 1073741824 := hc.2
  exact floordiv_int (by omega) (by rw [Int.fdiv_eq_ediv_of_nonneg i (by omega)]; exact q) (.inl (PyProof.noPylong_small (by omega)))
theorem op_fdivN : OpR X (binaryOp .FloorDiv) (rI CDivN fun i j => .int (i.fdiv j)) := opI fun _ _ _ _ _ _ _ hc q => floordiv_int hc.1 q (.inl (PyProof.noPylong_small hc.2))
/-- % by a positive divisor of any size -/
theorem op_mod : OpR X (binaryOp .Mod) (rI (fun _ j => 0 < j) fun i j => .int (i % j)) := opI fun i j _ _ _ _ _ hc q => by
  have h1 : (0 : Int) < j := hc
  exact mod_int' (by omega) (by rw [Int.fmod_eq_emod_of_nonneg i (by omega)]; exact q)
theorem op_modN : OpR X (binaryOp .Mod) (rI (fun _ j => j ≠ 0) fun i j => .int (i.fmod j)) := opI fun _ _ _ _ _ _ _ hc q => mod_int' hc q
theorem op_pow : OpR X (binaryOp .Pow) (rI CPow fun i j => .int (i ^ j.toNat)) := opI fun _ _ _ _ _ _ _ hc q => pow_int_small hc.1 hc.2.1 hc.2.2 q
theorem op_shl : OpR X (binaryOp .LShift) (rI CPow fun i j => .int (i * 2 ^ j.toNat)) := opI fun _ _ _ _ _ _ _ hc q => lshift_int_small hc.1 hc.2.1 hc.2.2 q
theorem op_shr : OpR X (binaryOp .RShift) (rI (fun _ j => 0 ≤ j) fun i j => .int (i / 2 ^ j.toNat)) := opI fun i j _ _ _ _ _ hc q =>
  rshift_int hc (by rw [Int.fdiv_eq_ediv_of_nonneg i (two_pow_nn _)]; exact q)
theorem op_and : OpR X (binaryOp .BitAnd) (rI0 fun i j => .int (Builtin.bitAnd i j)) := opI0 fun _ _ _ _ _ _ _ q => and_int q
theorem op_or : OpR X (binaryOp .BitOr) (rI0 fun i j => .int (Builtin.bitOr i j)) := opI0 fun _ _ _ _ _ _ _ q => or_int q
theorem op_xor : OpR X (binaryOp .BitXor) (rI0 fun i j => .int (Builtin.bitXor i j)) := opI0 fun _ _ _ _ _ _ _ q => xor_int q

theorem iop_add : OpR X (inplaceOp .Add) (rI0 fun i j => .int (i + j)) := opI0 fun _ _ _ _ _ _ _ q => iadd_int q
theorem iop_sub : OpR X (inplaceOp .Sub) (rI0 fun i j => .int (i - j)) := opI0 fun _ _ _ _ _ _ _ q => isub_int q
theorem iop_mul : OpR X (inplaceOp .Mult) (rI CMul fun i j => .int (i * j)) := opI fun _ _ _ _ _ _ _ hc q => imul_int q hc.ok
theorem iop_fdiv : OpR X (inplaceOp .FloorDiv) (rI CDiv fun i j => .int (i / j)) := opI fun i j _ _ _ _ _ hc q => by
  have h1 : (0 : Int) < j := hc.1
  have h2 : j < 1073741824 := hc.2
  exact ifloordiv_int (by omega) (by rw [Int.fdiv_eq_ediv_of_nonneg i (by omega)]; exact q) (.inl (PyProof.noPylong_small (by omega)))
theorem iop_mod : OpR X (inplaceOp .Mod) (rI (fun _ j => 0 < j) fun i j => .int (i % j)) := opI fun i j _ _ _ _ _ hc q => by
  have h1 : (0 : Int) < j := hc
  exact imod_int (by omega) (by rw [Int.fmod_eq_emod_of_nonneg i (by omega)]; exact q)
theorem iop_shl : OpR X (inplaceOp .LShift) (rI CPow fun i j => .int (i * 2 ^ j.toNat)) := opI fun _ _ _ _ _ _ _ hc q => ilshift_int_small hc.1 hc.2.1 hc.2.2 q
theorem iop_shr : OpR X (inplaceOp .RShift) (rI (fun _ j => 0 ≤ j) fun i j => .int (i / 2 ^ j.toNat)) := opI fun i j _ _ _ _ _ hc q =>
  irshift_int hc (by rw [Int.fdiv_eq_ediv_of_nonneg i (two_pow_nn _)]; exact q)
theorem iop_and : OpR X (inplaceOp .BitAnd) (rI0 fun i j => .int (Builtin.bitAnd i j)) := opI0 fun _ _ _ _ _ _ _ q => iand_int q
theorem iop_or : OpR X (inplaceOp .BitOr) (rI0 fun i j => .int (Builtin.bitOr i j)) := opI0 fun _ _ _ _ _ _ _ q => ior_int q
theorem iop_xor : OpR X (inplaceOp .BitXor) (rI0 fun i j => .int (Builtin.bitXor i j)) := opI0 fun _ _ _ _ _ _ _ q => ixor_int q

theorem unI {f : Value → Sem Value} {g : Int → Int}
    (rule : ∀ (i : Int) (t : Tok) (s : Shared) (Q : Value → Shared → Prop) (E : Value → Shared → Prop), Q (.int (g i) s.toks) { s with toks := s.toks + 1 } → wpAny (model X.prog X.w) X.A (f (.int i t)) Q E s) :
    UnR X f (rU fun i => .int (g i)) := by
  intro pins s σ H x v Q I rx h
  obtain ⟨i, rfl, q⟩ := h
  obtain ⟨t, rfl⟩ := rx
  exact rule i t s _ _ ⟨.int (g i), H, I.tok _, ⟨_, rfl⟩, q⟩
theorem un_neg : UnR X (unaryOp .USub) (rU fun i => .int (-i)) := unI fun _ _ _ _ _ q => neg_int q
theorem un_inv : UnR X (unaryOp .Invert) (rU fun i => .int (Builtin.bitNot i)) := unI fun _ _ _ _ _ q => invert_int q

/-! ### bools among ints: n += (a < b) -/
theorem op_add_ib : OpR X (binaryOp .Add) (fun x y H Q => ∃ i k, x = .int i ∧ y = .bl k ∧ Q (.int (i + b2i k)) H) := by
  intro pins s σ H x y v u Q I rx ry h
  obtain ⟨i, k, rfl, rfl, q⟩ := h
  obtain ⟨t, rfl⟩ := rx
  cases ry
  exact add_int_bool ⟨.int (i + b2i k), H, I.tok _, ⟨_, rfl⟩, q⟩
end

/-! ### comparisons -/
/-- the scalars that == tells apart as data does -/
def scal : V → V → Bool
  | .non, .non => true | .non, .int _ => true | .int _, .non => true | .non, .bl _ => true | .bl _, .non => true | .non, .str _ => true | .str _, .non => true
  | .int _, .int _ => true | .bl _, .bl _ => true | .str _, .str _ => true | .byt _, .byt _ => true
  | .int _, .str _ => true | .str _, .int _ => true | .bl _, .str _ => true | .str _, .bl _ => true
  | _, _ => false
def rEq : R2 := fun x y H Q => scal x y = true ∧ Q (.bl (decide (x = y))) H
def rNe : R2 := fun x y H Q => scal x y = true ∧ Q (.bl (!decide (x = y))) H

theorem dec_int {i j : Int} : decide (V.int i = V.int j) = (i == j) := by
  rw [Bool.eq_iff_iff]
  simp
theorem dec_bl {i j : Bool} : decide (V.bl i = V.bl j) = (i == j) := by
  rw [Bool.eq_iff_iff]
  simp
theorem dec_str {i j : Str} : decide (V.str i = V.str j) = (i == j) := by
  rw [Bool.eq_iff_iff]
  simp
theorem dec_byt {i j : Array UInt8} : decide (V.byt i = V.byt j) = (i.toList == j.toList) := by
  rw [Bool.eq_iff_iff]
  cases i
  cases j
  simp

section
variable {X : Cx} {a b c : Expr} {ta tb tc : TE} {pos : Pos}
theorem fin_bl {pins : List (Addr × Obj)} {σ : St} {H : Hp} {s : Shared} {Q : VK} {k k' : Bool} (I : Inv X pins σ H s) (q : Q (.bl k) H) (e : k = k') : EP X pins σ Q (.bool k') s := by
  subst e
  exact ⟨.bl k, H, I, rfl, q⟩
theorem op_eq : OpR X (compareOp .Eq) rEq := by
  intro pins s σ H x y v u Q I rx ry h
  obtain ⟨hs, q⟩ := h
  cases x with
  | non =>
    cases rx
    cases y with
    | non => cases ry; exact PySem.EqNone.eq_none_none (fin_bl I q (by simp))
    | bl j => cases ry; exact PySem.EqNone.eq_none_bool (fin_bl I q (by simp))
    | int j => obtain ⟨t', rfl⟩ := ry; exact PySem.EqNone.eq_none_int (fin_bl I q (by simp))
    | str j => obtain ⟨t', rfl⟩ := ry; exact PySem.EqNone.eq_none_str (fin_bl I q (by simp))
    | _ => exact absurd (show false = true from hs) Bool.false_ne_true
  | bl i =>
    cases rx
    cases y with
    | non => cases ry; exact PySem.EqNone.eq_bool_none (fin_bl I q (by simp))
    | bl j => cases ry; exact eq_bool (fin_bl I q dec_bl)
    | str j => obtain ⟨t', rfl⟩ := ry; exact PySem.EqMixed.eq_bool_str (fin_bl I q (by simp))
    | _ => exact absurd (show false = true from hs) Bool.false_ne_true
  | int i =>
    obtain ⟨t, rfl⟩ := rx
    cases y with
    | non => cases ry; exact PySem.EqNone.eq_int_none (fin_bl I q (by simp))
    | int j => obtain ⟨t', rfl⟩ := ry; exact eq_int (fin_bl I q dec_int)
    | str j => obtain ⟨t', rfl⟩ := ry; exact PySem.EqMixed.eq_int_str (fin_bl I q (by simp))
    | _ => exact absurd (show false = true from hs) Bool.false_ne_true
  | str i =>
    obtain ⟨t, rfl⟩ := rx
    cases y with
    | non => cases ry; exact PySem.EqNone.eq_str_none (fin_bl I q (by simp))
    | bl j => cases ry; exact PySem.EqMixed.eq_str_bool (fin_bl I q (by simp))
    | int j => obtain ⟨t', rfl⟩ := ry; exact PySem.EqMixed.eq_str_int (fin_bl I q (by simp))
    | str j => obtain ⟨t', rfl⟩ := ry; exact eq_str (fin_bl I q dec_str)
    | _ => exact absurd (show false = true from hs) Bool.false_ne_true
  | byt i =>
    obtain ⟨t, rfl⟩ := rx
    cases y with
    | byt j => obtain ⟨t', rfl⟩ := ry; exact PySem.W.eq_bytes (fin_bl I q dec_byt)
    | _ => exact absurd (show false = true from hs) Bool.false_ne_true
  | _ => cases y <;> exact absurd (show false = true from hs) Bool.false_ne_true
theorem op_ne : OpR X (compareOp .NotEq) rNe := by
  intro pins s σ H x y v u Q I rx ry h
  obtain ⟨hs, q⟩ := h
  cases x with
  | non =>
    cases rx
    cases y with
    | non => cases ry; exact PySem.EqNone.ne_none_none (fin_bl I q (by simp))
    | bl j => cases ry; exact PySem.EqNone.ne_none_bool (fin_bl I q (by simp))
    | int j => obtain ⟨t', rfl⟩ := ry; exact PySem.EqNone.ne_none_int (fin_bl I q (by simp))
    | str j => obtain ⟨t', rfl⟩ := ry; exact PySem.EqNone.ne_none_str (fin_bl I q (by simp))
    | _ => exact absurd (show false = true from hs) Bool.false_ne_true
  | bl i =>
    cases rx
    cases y with
    | non => cases ry; exact PySem.EqNone.ne_bool_none (fin_bl I q (by simp))
    | bl j => cases ry; exact ne_bool (fin_bl I q (congrArg not dec_bl))
    | str j => obtain ⟨t', rfl⟩ := ry; exact PySem.EqMixed.ne_bool_str (fin_bl I q (by simp))
    | _ => exact absurd (show false = true from hs) Bool.false_ne_true
  | int i =>
    obtain ⟨t, rfl⟩ := rx
    cases y with
    | non => cases ry; exact PySem.EqNone.ne_int_none (fin_bl I q (by simp))
    | int j => obtain ⟨t', rfl⟩ := ry; exact ne_int (fin_bl I q (congrArg not dec_int))
    | str j => obtain ⟨t', rfl⟩ := ry; exact PySem.EqMixed.ne_int_str (fin_bl I q (by simp))
    | _ => exact absurd (show false = true from hs) Bool.false_ne_true
  | str i =>
    obtain ⟨t, rfl⟩ := rx
    cases y with
    | non => cases ry; exact PySem.EqNone.ne_str_none (fin_bl I q (by simp))
    | bl j => cases ry; exact PySem.EqMixed.ne_str_bool (fin_bl I q (by simp))
    | int j => obtain ⟨t', rfl⟩ := ry; exact PySem.EqMixed.ne_str_int (fin_bl I q (by simp))
    | str j => obtain ⟨t', rfl⟩ := ry; exact ne_str (fin_bl I q (congrArg not dec_str))
    | _ => exact absurd (show false = true from hs) Bool.false_ne_true
  | byt i =>
    obtain ⟨t, rfl⟩ := rx
    cases y with
    | byt j => obtain ⟨t', rfl⟩ := ry; exact PySem.W.ne_bytes (fin_bl I q (congrArg not dec_byt))
    | _ => exact absurd (show false = true from hs) Bool.false_ne_true
  | _ => cases y <;> exact absurd (show false = true from hs) Bool.false_ne_true

theorem op_lt : OpR X (compareOp .Lt) (rI0 fun i j => .bl (decide (i < j))) := opB0 fun _ _ _ _ _ _ _ q => lt_int q
theorem op_le : OpR X (compareOp .LtE) (rI0 fun i j => .bl (decide (i ≤ j))) := opB0 fun _ _ _ _ _ _ _ q => le_int q
theorem op_gt : OpR X (compareOp .Gt) (rI0 fun i j => .bl (decide (j < i))) := opB0 fun _ _ _ _ _ _ _ q => gt_int q
theorem op_ge : OpR X (compareOp .GtE) (rI0 fun i j => .bl (decide (j ≤ i))) := opB0 fun _ _ _ _ _ _ _ q => ge_int q
theorem op_lt_str : OpR X (compareOp .Lt) (fun x y H Q => ∃ i j, x = .str i ∧ y = .str j ∧ Q (.bl (decide (i.cps.toList < j.cps.toList))) H) := by
  intro pins s σ H x y v u Q I rx ry h
  obtain ⟨i, j, rfl, rfl, q⟩ := h
  obtain ⟨t, rfl⟩ := rx
  obtain ⟨t', rfl⟩ := ry
  exact lt_str (fin_bl I q rfl)
/-- the one string within the other -/
theorem op_in_str : OpR X (compareOp .In) (fun x y H Q => ∃ i j, x = .str i ∧ y = .str j ∧ Q (.bl (!(Builtin.Str.occurrences j i 0 j.length 1).isEmpty)) H) := by
  intro pins s σ H x y v u Q I rx ry h
  obtain ⟨i, j, rfl, rfl, q⟩ := h
  obtain ⟨t, rfl⟩ := rx
  obtain ⟨t', rfl⟩ := ry
  exact in_str (fin_bl I q rfl)

/-- is None, is not None: the right side a value none -/
theorem op_isN : OpR X (compareOp .Is) (fun x y H Q => y = .non ∧ Q (.bl (decide (x = .non))) H) := by
  intro pins s σ H x y v u Q I rx ry h
  obtain ⟨rfl, q⟩ := h
  cases ry
  refine is_none_gen (fin_bl I q ?_)
  cases x <;> first
    | (cases rx; rfl)
    | (obtain ⟨t, rfl⟩ := rx; rfl)
theorem op_notN : OpR X (compareOp .IsNot) (fun x y H Q => y = .non ∧ Q (.bl (!decide (x = .non))) H) := by
  intro pins s σ H x y v u Q I rx ry h
  obtain ⟨rfl, q⟩ := h
  cases ry
  refine isnot_none_gen (fin_bl I q ?_)
  cases x <;> first
    | (cases rx; rfl)
    | (obtain ⟨t, rfl⟩ := rx; rfl)

theorem op_notin_str : OpR X (compareOp .NotIn) (fun x y H Q => ∃ i j, x = .str i ∧ y = .str j ∧ Q (.bl (!(!(Builtin.Str.occurrences j i 0 j.length 1).isEmpty))) H) := by
  intro pins s σ H x y v u Q I rx ry h
  obtain ⟨i, j, rfl, rfl, q⟩ := h
  obtain ⟨t, rfl⟩ := rx
  obtain ⟨t', rfl⟩ := ry
  exact notIn_str (fin_bl I q rfl)
/-- is, is not of two objects that are tracked lists or instances -/
def isObj : HO → Bool
  | .lst _ => true
  | .ins _ _ _ => true
  | _ => false
theorem obj_there {pins : List (Addr × Obj)} {s : Shared} {σ : St} {H : Hp} {a : Addr} {o : HO} (I : Inv X pins σ H s) (h : H a = some o) (p : isObj o = true) : ∃ ob, s.heap.get? a = some ob ∧ ob.cls ≠ .type "tuple" := by
  cases o with
  | lst xs =>
    obtain ⟨_, its, n, _, e⟩ : xs.length ≤ sizeLine ∧ ∃ (its : List Value) (n : Nat), Vals xs its ∧ s.heap.get? a = some { cls := .type "list", data := .seq its.toArray n } := I.hok a _ h
    exact ⟨_, e, (by show Value.type "list" ≠ .type "tuple"; decide +kernel)⟩
  | ins C dx fs =>
    have x := I.hok a _ h
    obtain ⟨_, _, _, e, _⟩ := x
    exact ⟨_, e, (by show Value.ref C ≠ .type "tuple"; exact fun z => by cases z)⟩
  | _ => exact absurd (show false = true from p) Bool.false_ne_true
theorem op_is_ref : OpR X (compareOp .Is) (fun x y H Q => ∃ a b oa ob, x = .ref a ∧ y = .ref b ∧ H a = some oa ∧ isObj oa = true ∧ H b = some ob ∧ isObj ob = true ∧ Q (.bl (decide (a = b))) H) := by
  intro pins s σ H x y v u Q I rx ry h
  obtain ⟨a, b, oa, ob, rfl, rfl, ha, pa, hb, pb, q⟩ := h
  cases rx
  cases ry
  obtain ⟨o1, e1, n1⟩ := obj_there I ha pa
  obtain ⟨o2, e2, _⟩ := obj_there I hb pb
  by_cases z : a = b
  · subst z
    exact wpAny_is_ref_self (fin_bl I q (by simp))
  · exact wpAny_is_ref_other z e1 e2 n1 (fin_bl I q (by simp [z]))
theorem op_isnot_ref : OpR X (compareOp .IsNot) (fun x y H Q => ∃ a b oa ob, x = .ref a ∧ y = .ref b ∧ H a = some oa ∧ isObj oa = true ∧ H b = some ob ∧ isObj ob = true ∧ Q (.bl (!decide (a = b))) H) := by
  intro pins s σ H x y v u Q I rx ry h
  obtain ⟨a, b, oa, ob, rfl, rfl, ha, pa, hb, pb, q⟩ := h
  cases rx
  cases ry
  obtain ⟨o1, e1, n1⟩ := obj_there I ha pa
  obtain ⟨o2, e2, _⟩ := obj_there I hb pb
  by_cases z : a = b
  · subst z
    exact wpAny_isNot_ref_self (fin_bl I q (by simp))
  · exact wpAny_isNot_ref_other z e1 e2 n1 (fin_bl I q (by simp [z]))

/-- two rules for one operation: by cases -/
theorem OpR.or {f : Value → Value → Sem Value} {r r' : R2} (h : OpR X f r) (h' : OpR X f r') : OpR X f (fun x y H Q => r x y H Q ∨ r' x y H Q) := by
  intro pins s σ H x y v u Q I rx ry q
  rcases q with q | q
  · exact h pins s σ H x y v u Q I rx ry q
  · exact h' pins s σ H x y v u Q I rx ry q

theorem nomark (b : Expr) {op : CmpOp} (h : op ≠ .In := by decide) (h2 : op ≠ .NotIn := by decide) : behindInMarks op b = false := by
  have e1 : (op == CmpOp.In) = false := by cases op <;> first | rfl | exact absurd rfl h
  have e2 : (op == CmpOp.NotIn) = false := by cases op <;> first | rfl | exact absurd rfl h2
  cases b <;> simp [behindInMarks, e1, e2]
/-- a comparison as a value; hm: nomark b, or (for in, not in) by with_unfolding_all rfl -/
theorem pe_cmpR {op : CmpOp} {r : R2} (ho : OpR X (compareOp op) r) (ha : PE X a ta) (hb : PE X b tb) (hm : behindInMarks op b = false) : PE X (.Compare a [op] [b] pos) (tOp r ta tb) := by
  intro pins s σ H Q I h
  exact wpAny_Compare1 (binT ha hb I h fun v u s2 x y H2 I2 rx ry q => ho pins s2 σ H2 x y v u Q I2 rx ry q) hm
/-- a reading of a value as a test -/
def tTest (t : TE) : TT := fun σ H Q => t σ H fun x H' => ∃ k, x = .bl k ∧ Q k H'
theorem pt_cmpR {op : CmpOp} {r : R2} (ho : OpR X (compareOp op) r) (ha : PE X a ta) (hb : PE X b tb) (hm : behindInMarks op b = false) : PT X (.Compare a [op] [b] pos) (tTest (tOp r ta tb)) := by
  intro pins s σ H Q I h
  refine wpAny_isTrue_Compare1 (thn (ha pins s σ H _ I h) fun v s1 ⟨x, H1, I1, r1, q1⟩ => thn (hb pins s1 σ H1 _ I1 q1) fun u s2 ⟨y, H2, I2, r2, q2⟩ =>
    thn (ho pins s2 σ H2 x y v u _ I2 r1 r2 q2) fun c s3 ⟨z, H3, I3, r3, k, e, q3⟩ => ?_) hm
  subst e
  cases r3
  exact wpAny_truthy_bool ⟨H3, I3, q3⟩
/-- a op1 b op2 c -/
def tChain (r r' : R2) (ta tb tc : TE) : TE := fun σ H Q => ta σ H fun x H1 => tb σ H1 fun y H2 => r x y H2 fun z H3 => ∃ k, z = .bl k ∧
  (if k = true then tc σ H3 fun w' H4 => r' y w' H4 Q else Q (.bl false) H3)
theorem pe_chain {op op' : CmpOp} {r r' : R2} (ho : OpR X (compareOp op) r) (ho' : OpR X (compareOp op') r') (ha : PE X a ta) (hb : PE X b tb) (hc : PE X c tc)
    (hm : lastMarks [op, op'] [b, c] = false := by with_unfolding_all rfl) : PE X (.Compare a [op, op'] [b, c] pos) (tChain r r' ta tb tc) := by
  intro pins s σ H Q I h
  refine Compare_chain (thn (ha pins s σ H _ I h) fun v s1 ⟨x, H1, I1, r1, q1⟩ => chain_link (thn (hb pins s1 σ H1 _ I1 q1) fun u s2 ⟨y, H2, I2, r2, q2⟩ =>
    thn (ho pins s2 σ H2 x y v u _ I2 r1 r2 q2) fun d s3 ⟨z, H3, I3, r3, k, e, q3⟩ => ?_)) hm
  subst e
  cases r3
  refine wpAny_truthy_bool ?_
  cases k with
  | false => exact ite_ff ⟨.bl false, H3, I3, rfl, q3⟩
  | true => exact ite_tt (chain_last (thn (hc pins s3 σ H3 _ I3 q3) fun w' s4 ⟨z', H4, I4, r4, q4⟩ => ho' pins s4 σ H4 y z' u w' Q I4 r2 r4 q4))
theorem pt_chain {op op' : CmpOp} {r r' : R2} (ho : OpR X (compareOp op) r) (ho' : OpR X (compareOp op') r') (ha : PE X a ta) (hb : PE X b tb) (hc : PE X c tc)
    (hm : lastMarks [op, op'] [b, c] = false := by with_unfolding_all rfl) : PT X (.Compare a [op, op'] [b, c] pos) (tTest (tChain r r' ta tb tc)) := by
  intro pins s σ H Q I h
  refine isTrue_chain (thn (ha pins s σ H _ I h) fun v s1 ⟨x, H1, I1, r1, q1⟩ => test_link (thn (hb pins s1 σ H1 _ I1 q1) fun u s2 ⟨y, H2, I2, r2, q2⟩ =>
    thn (ho pins s2 σ H2 x y v u _ I2 r1 r2 q2) fun d s3 ⟨z, H3, I3, r3, k, e, q3⟩ => ?_)) hm
  subst e
  cases r3
  refine wpAny_truthy_bool ?_
  cases k with
  | false =>
    obtain ⟨k', e', q'⟩ := q3
    cases e'
    exact ite_ff ⟨H3, I3, q'⟩
  | true =>
    refine ite_tt (test_last (thn (hc pins s3 σ H3 _ I3 q3) fun w' s4 ⟨z', H4, I4, r4, q4⟩ => thn (ho' pins s4 σ H4 y z' u w' _ I4 r2 r4 q4) fun d' s5 ⟨z2, H5, I5, r5, k2, e2, q5⟩ => ?_))
    subst e2
    cases r5
    exact wpAny_truthy_bool ⟨H5, I5, q5⟩

/-! ### truth -/
/-- a value's truth by the abstract heap -/
def TruV (K : PySem.W.Frag) (x : V) (H : Hp) (k : Bool) : Prop :=
  match x with
  | .non => k = false
  | .bl b => k = b
  | .int i => k = (i != 0)
  | .str y => y.length ≤ sizeLine ∧ k = ((y.length : Int) != 0)
  | .byt y => y.size ≤ sizeLine ∧ k = ((y.size : Int) != 0)
  | .ref p => (∃ xs, SqL K H p xs ∧ k = !xs.isEmpty) ∨ (∃ xs, SqT K H p xs ∧ k = !xs.isEmpty) ∨ ∃ kvs, H p = some (.dK kvs) ∧ k = !kvs.isEmpty
  | _ => False
theorem isEmpty_kv {κ : Type} {kvs : List (κ × V)} {vs : List (κ × Value)} (r : KV kvs vs) : (!vs.isEmpty) = !kvs.isEmpty := by
  cases r <;> rfl
theorem isEmpty_of {xs : List V} {its : List Value} (r : Vals xs its) : (!its.toArray.isEmpty) = !xs.isEmpty := by
  cases r <;> simp
theorem line63 : (sizeLine : Nat) < 2 ^ 63 := by rw [sizeLine_eq]; decide
theorem tru_ok : TruR X (fun x H Q => ∃ k, TruV X.K x H k ∧ Q k H) := by
  intro pins s σ H x v Q I rx h
  obtain ⟨k, e, q⟩ := h
  have hl := line63
  have hs : sizeLine = 16777216 := sizeLine_eq
  cases x with
  | non =>
    cases rx
    have e' : k = false := e
    subst e'
    exact truthy_none ⟨H, I, q⟩
  | bl b =>
    cases rx
    have e' : k = b := e
    subst e'
    exact wpAny_truthy_bool ⟨H, I, q⟩
  | int i =>
    obtain ⟨t, rfl⟩ := rx
    have e' : k = (i != 0) := e
    subst e'
    exact PySem.P.truthy_int ⟨H, I, q⟩
  | str y =>
    obtain ⟨t, rfl⟩ := rx
    obtain ⟨hy, e'⟩ : y.length ≤ sizeLine ∧ k = ((y.length : Int) != 0) := e
    subst e'
    exact PySem.P.truthy_str (by omega) ⟨H, I.tok _, q⟩
  | byt y =>
    obtain ⟨t, rfl⟩ := rx
    obtain ⟨hy, e'⟩ : y.size ≤ sizeLine ∧ k = ((y.size : Int) != 0) := e
    subst e'
    exact PySem.W.truthy_bytes (by omega) ⟨H, I.tok _, q⟩
  | ref p =>
    cases rx
    have e' : (∃ xs, SqL X.K H p xs ∧ k = !xs.isEmpty) ∨ (∃ xs, SqT X.K H p xs ∧ k = !xs.isEmpty) ∨ ∃ kvs, H p = some (.dK kvs) ∧ k = !kvs.isEmpty := e
    rcases e' with ⟨xs, hx, e'⟩ | ⟨xs, hx, e'⟩ | ⟨kvs, hx, e'⟩
    · subst e'
      obtain ⟨its, r, pl, hz⟩ := I.list hx
      have hlen := r.length
      exact wpAny_truthy_list pl.isList (by simp only [List.size_toArray]; omega) ⟨H, I.tok _, by rw [isEmpty_of r]; exact q⟩
    · subst e'
      obtain ⟨its, r, pl, hz⟩ := I.tuple hx
      have hlen := r.length
      exact truthy_tuple pl (by simp only [List.size_toArray]; omega) ⟨H, I.tok _, by rw [isEmpty_of r]; exact q⟩
    · subst e'
      obtain ⟨hz, hS, vs, r, m⟩ : kvs.length ≤ sizeLine ∧ (p == sysModules) = false ∧ ∃ vs, KV kvs vs ∧ s.heap.DictOf (mixKind X.prog X.w) p vs := I.hok p _ hx
      have hlen : kvs.length = vs.length := Paired.length r
      exact wpAny_truthy_dict hS m (by omega) ⟨H, I.tok _, by rw [isEmpty_kv r]; exact q⟩
  | _ => exact (show False from e).elim
/-- any expression whose test is its value's truth (a name, a call, a subscript, a field ..: he by fun _ => rfl) -/
theorem pt_truth (ha : PE X a ta) (he : ∀ whole, isTrue a X.env whole = (do let v ← whole; standAt a.pos; holding [v] (truthy v))) :
    PT X a (fun σ H Q => ta σ H fun x H' => ∃ k, TruV X.K x H' k ∧ Q k H') := by
  intro pins s σ H Q I h
  exact isTrue_plain (thn (ha pins s σ H _ I h) fun v s1 ⟨x, H1, I1, r1, q1⟩ => tru_ok pins s1 σ H1 x v Q I1 r1 q1) (he _)

/-! ### strs and bytes -/
theorem pe_byt {x : List UInt8} {k : Nat} : PE X (.Constant (.bytes x) k pos) (fun _ H Q => Q (.byt x.toArray) H) := fun _ _ _ H _ I h => PySem.W.Constant_bytes ⟨.byt x.toArray, H, I.tok _, ⟨_, rfl⟩, h⟩
theorem op_add_str : OpR X (binaryOp .Add) (fun x y H Q => ∃ i j, x = .str i ∧ y = .str j ∧ i.length + j.length ≤ sizeLine ∧ Q (.str (i ++ j)) H) := by
  intro pins s σ H x y v u Q I rx ry h
  obtain ⟨i, j, rfl, rfl, hz, q⟩ := h
  obtain ⟨t, rfl⟩ := rx
  obtain ⟨t', rfl⟩ := ry
  exact add_str (fun t' tk => ⟨.str (i ++ j), H, I.tok _, ⟨_, rfl⟩, q⟩) hz
theorem iop_add_str : OpR X (inplaceOp .Add) (fun x y H Q => ∃ i j, x = .str i ∧ y = .str j ∧ i.length + j.length ≤ sizeLine ∧ Q (.str (i ++ j)) H) := by
  intro pins s σ H x y v u Q I rx ry h
  obtain ⟨i, j, rfl, rfl, hz, q⟩ := h
  obtain ⟨t, rfl⟩ := rx
  obtain ⟨t', rfl⟩ := ry
  exact iadd_str (fun t' tk => ⟨.str (i ++ j), H, I.tok _, ⟨_, rfl⟩, q⟩) hz
theorem op_add_byt : OpR X (binaryOp .Add) (fun x y H Q => ∃ i j, x = .byt i ∧ y = .byt j ∧ i.size + j.size ≤ 16777216 ∧ Q (.byt (i ++ j)) H) := by
  intro pins s σ H x y v u Q I rx ry h
  obtain ⟨i, j, rfl, rfl, hz, q⟩ := h
  obtain ⟨t, rfl⟩ := rx
  obtain ⟨t', rfl⟩ := ry
  exact PySem.W.KBy.add_bytes hz (fun t' tk => ⟨.byt (i ++ j), H, I.tok _, ⟨_, rfl⟩, q⟩)

def PlainIxT (b : Expr) : Prop := ∀ o i, subscripted b false o i = operate [o, i] (getItem o i)
/-- s[i], 0 ≤ i < len -/
theorem pe_item_str (ha : PE X a ta) (hb : PE X b tb) (hs : PlainIxT b) :
    PE X (.Subscript a b pos) (tOp (fun x y H Q => ∃ z i c, x = .str z ∧ y = .int i ∧ 0 ≤ i ∧ i < 2 ^ 63 ∧ i < z.length ∧ z.cps[i.toNat]? = some c ∧ Q (.str ⟨#[c]⟩) H) ta tb) := by
  intro pins s σ H Q I h
  refine Subscript_ (binT ha hb I h fun v u s2 x y H2 I2 rx ry q => ?_)
  obtain ⟨z, i, c, rfl, rfl, h0, h63, h1, hc, q⟩ := q
  obtain ⟨t, rfl⟩ := rx
  obtain ⟨t', rfl⟩ := ry
  have e : seqIndex? i z.length = some i.toNat := PySem.StrLaws.seqIndex_nonneg h0 h1
  exact tail_any (typeIs_str s2 z t) slot_str_getitem.lookup (getItem_str (c := c) (by
    have e1 : decide (i < -(2 ^ 63 : Int)) = false := decide_eq_false (by omega)
    have e2 : decide (i ≥ 2 ^ 63) = false := decide_eq_false (by omega)
    rw [e1, e2] <;> rfl) (by rw [e]; exact hc) ⟨.str ⟨#[c]⟩, H2, I2.tok _, ⟨_, rfl⟩, q⟩) (hs _ _)
/-- b[i], 0 ≤ i < len -/
theorem pe_item_byt (ha : PE X a ta) (hb : PE X b tb) (hs : PlainIxT b) :
    PE X (.Subscript a b pos) (tOp (fun x y H Q => ∃ (z : List UInt8) (i : Int), x = .byt z.toArray ∧ y = .int i ∧ z.length ≤ sizeLine ∧ 0 ≤ i ∧ i < z.length ∧ Q (.int ((z.getD i.toNat 0).toNat : Nat)) H) ta tb) := by
  intro pins s σ H Q I h
  refine Subscript_ (binT ha hb I h fun v u s2 x y H2 I2 rx ry q => ?_)
  obtain ⟨z, i, rfl, rfl, hz, h0, h1, q⟩ := q
  obtain ⟨t, rfl⟩ := rx
  obtain ⟨t', rfl⟩ := ry
  have hl : sizeLine = 16777216 := sizeLine_eq
  exact tail_any (PySem.W.typeIs_bytes s2 z.toArray t) PySem.W.FB.slot_bytes_getitem.lookup (PySem.W.getItem_bytes (by omega) h0 h1 ⟨.int ((z.getD i.toNat 0).toNat : Nat), H2, I2.tok _, ⟨_, rfl⟩, q⟩) (hs _ _)

/-! ### scalar builtins, by CallR -/
theorem vals1 {x : V} {us : List Value} (r : Vals [x] us) : ∃ u, us = [u] ∧ RelV x u := by
  cases r with
  | cons r1 r2 => cases r2; exact ⟨_, rfl, r1⟩
theorem vals2 {x y : V} {us : List Value} (r : Vals [x, y] us) : ∃ u w', us = [u, w'] ∧ RelV x u ∧ RelV y w' := by
  cases r with
  | cons r1 r2 =>
    cases r2 with
    | cons r3 r4 => cases r4; exact ⟨_, _, rfl, r1, r3⟩
theorem call_abs : CallR X (.builtin "abs") (fun xs H Q => ∃ i, xs = [.int i] ∧ Q (.int (if i < 0 then -i else i)) H) := by
  intro pins s σ H xs us Q I r h
  obtain ⟨i, rfl, q⟩ := h
  obtain ⟨u, rfl, t, rfl⟩ := vals1 r
  exact call_abs_int fun u tk => ⟨.int (if i < 0 then -i else i), H, I.tok _, ⟨_, rfl⟩, q⟩
theorem call_max2 (hc : X.calm = true) : CallR X (.builtin "max") (fun xs H Q => ∃ i j, xs = [.int i, .int j] ∧ Q (.int (if j > i then j else i)) H) := by
  intro pins s σ H xs us Q I r h
  obtain ⟨i, j, rfl, q⟩ := h
  obtain ⟨u, w', rfl, ⟨t, rfl⟩, ⟨t', rfl⟩⟩ := vals2 r
  refine max_two_ints (I.ok.hd hc) fun h' tk k => ⟨_, H, I.kept k, ?_, q⟩
  by_cases hj : j > i
  · rw [if_pos hj, if_pos hj]; exact ⟨_, rfl⟩
  · rw [if_neg hj, if_neg hj]; exact ⟨_, rfl⟩
theorem call_min2 (hc : X.calm = true) : CallR X (.builtin "min") (fun xs H Q => ∃ i j, xs = [.int i, .int j] ∧ Q (.int (if j < i then j else i)) H) := by
  intro pins s σ H xs us Q I r h
  obtain ⟨i, j, rfl, q⟩ := h
  obtain ⟨u, w', rfl, ⟨t, rfl⟩, ⟨t', rfl⟩⟩ := vals2 r
  refine min_two_ints (I.ok.hd hc) fun h' tk k => ⟨_, H, I.kept k, ?_, q⟩
  by_cases hj : j < i
  · rw [if_pos hj, if_pos hj]; exact ⟨_, rfl⟩
  · rw [if_neg hj, if_neg hj]; exact ⟨_, rfl⟩
theorem call_int1 : CallR X (.type "int") (fun xs H Q => (∃ i, xs = [.int i] ∧ Q (.int i) H) ∨ ∃ k, xs = [.bl k] ∧ Q (.int (if k then 1 else 0)) H) := by
  intro pins s σ H xs us Q I r h
  rcases h with ⟨i, rfl, q⟩ | ⟨k, rfl, q⟩
  · obtain ⟨u, rfl, t, rfl⟩ := vals1 r
    exact call_int_int ⟨.int i, H, I, ⟨_, rfl⟩, q⟩
  · obtain ⟨u, rfl, r1⟩ := vals1 r
    cases r1
    exact call_int_bool ⟨.int (if k then 1 else 0), H, I.tok _, ⟨_, rfl⟩, q⟩
theorem call_bool1 : CallR X (.type "bool") (fun xs H Q => (∃ i, xs = [.int i] ∧ Q (.bl (i != 0)) H) ∨ ∃ k, xs = [.bl k] ∧ Q (.bl k) H) := by
  intro pins s σ H xs us Q I r h
  rcases h with ⟨i, rfl, q⟩ | ⟨k, rfl, q⟩
  · obtain ⟨u, rfl, t, rfl⟩ := vals1 r
    exact call_bool_int ⟨.bl (i != 0), H, I, rfl, q⟩
  · obtain ⟨u, rfl, r1⟩ := vals1 r
    cases r1
    exact call_bool_bool ⟨.bl k, H, I, rfl, q⟩
theorem call_str_int : CallR X (.type "str") (fun xs H Q => ∃ i, xs = [.int i] ∧ i.natAbs.log2 < 1920 ∧ Q (.str (toString i)) H) := by
  intro pins s σ H xs us Q I r h
  obtain ⟨i, rfl, hz, q⟩ := h
  obtain ⟨u, rfl, t, rfl⟩ := vals1 r
  exact PySem.P.str_of_int hz ⟨.str _, H, I.tok _, ⟨_, rfl⟩, q⟩
theorem call_ord : CallR X (.builtin "ord") (fun xs H Q => ∃ x, xs = [.str x] ∧ x.length = 1 ∧ Q (.int (x.cps.getD 0 0 : Nat)) H) := by
  intro pins s σ H xs us Q I r h
  obtain ⟨x, rfl, hz, q⟩ := h
  obtain ⟨u, rfl, t, rfl⟩ := vals1 r
  exact ord_of_one hz ⟨.int _, H, I.tok _, ⟨_, rfl⟩, q⟩
theorem call_chr : CallR X (.builtin "chr") (fun xs H Q => ∃ i, xs = [.int i] ∧ 0 ≤ i ∧ i ≤ 1114111 ∧ Q (.str ⟨#[i.toNat]⟩) H) := by
  intro pins s σ H xs us Q I r h
  obtain ⟨i, rfl, h0, h1, q⟩ := h
  obtain ⟨u, rfl, t, rfl⟩ := vals1 r
  exact chr_of_range h0 h1 ⟨.str _, H, I.tok _, ⟨_, rfl⟩, q⟩
/-- len of a str, a bytes, a list, a tuple -/
def LenV (K : PySem.W.Frag) (x : V) (H : Hp) (n : Nat) : Prop :=
  match x with
  | .str y => y.length ≤ sizeLine ∧ n = y.length
  | .byt y => y.size ≤ sizeLine ∧ n = y.size
  | .ref p => (∃ xs, SqL K H p xs ∧ n = xs.length) ∨ ∃ xs, SqT K H p xs ∧ n = xs.length
  | _ => False
theorem call_len : CallR X (.builtin "len") (fun xs H Q => ∃ x n, xs = [x] ∧ LenV X.K x H n ∧ Q (.int n) H) := by
  intro pins s σ H xs us Q I r h
  obtain ⟨x, n, rfl, e, q⟩ := h
  obtain ⟨u, rfl, rx⟩ := vals1 r
  have hl := line63
  have hs : sizeLine = 16777216 := sizeLine_eq
  cases x with
  | str y =>
    obtain ⟨t, rfl⟩ := rx
    obtain ⟨hy, e'⟩ : y.length ≤ sizeLine ∧ n = y.length := e
    subst e'
    exact len_str (by omega) ⟨.int _, H, I.tok _, ⟨_, rfl⟩, q⟩
  | byt y =>
    obtain ⟨t, rfl⟩ := rx
    obtain ⟨hy, e'⟩ : y.size ≤ sizeLine ∧ n = y.size := e
    subst e'
    exact PySem.W.len_bytes (by omega) ⟨.int _, H, I.tok _, ⟨_, rfl⟩, q⟩
  | ref p =>
    cases rx
    have e' : (∃ xs, SqL X.K H p xs ∧ n = xs.length) ∨ ∃ xs, SqT X.K H p xs ∧ n = xs.length := e
    rcases e' with ⟨xs, hx, e'⟩ | ⟨xs, hx, e'⟩
    · subst e'
      obtain ⟨its, r', pl, hz⟩ := I.list hx
      have hlen := r'.length
      exact Calls.call_len_list pl.isList (by simp only [List.size_toArray]; omega) ⟨.int xs.length, H, I.tok _, ⟨_, by simp only [List.size_toArray]; rw [hlen]⟩, q⟩
    · subst e'
      obtain ⟨its, r', pl, hz⟩ := I.tuple hx
      have hlen := r'.length
      exact len_tuple pl (by simp only [List.size_toArray]; omega) ⟨.int xs.length, H, I.tok _, ⟨_, by simp only [List.size_toArray]; rw [hlen]⟩, q⟩
  | _ => exact (show False from e).elim
/-- divmod: a new tuple -/
theorem call_divmod : CallR X (.builtin "divmod") (fun xs H Q => ∃ i j, xs = [.int i, .int j] ∧ CDiv i j ∧ ∀ p, H p = none → Q (.ref p) (upd H p (.tup [.int (i / j), .int (i % j)]))) := by
  intro pins s σ H xs us Q I r h
  obtain ⟨i, j, rfl, ⟨h1, h2⟩, q⟩ := h
  obtain ⟨u, w', rfl, ⟨t, rfl⟩, ⟨t', rfl⟩⟩ := vals2 r
  refine divmod_int (by omega) ?_ (.inl (PyProof.noPylong_small (by omega)))
  rw [Int.fdiv_eq_ediv_of_nonneg i (by omega), Int.fmod_eq_emod_of_nonneg i (by omega)]
  have hn : H s.heap.objs.size = none := I.hok.fresh (Nat.le_refl _)
  refine ⟨.ref s.heap.objs.size, _, ?_, rfl, q _ hn⟩
  refine I.laid (fun b o e => Heap.get?_push_of_some _ e) (Nat.le_refl _) ⟨by simp only [List.length_cons, List.length_nil]; rw [sizeLine_eq]; decide, [.int (i / j) s.toks, .int (i % j) (s.toks + 1)], .cons ⟨_, rfl⟩ (.cons ⟨_, rfl⟩ .nil), ?_⟩
  exact ⟨_, Heap.get?_push_size s.heap rfl, rfl, 0, rfl⟩
end
end L2

namespace L2
open PySem PySem.Spec PyProof.Rows

/-! ### an instance, its attributes a map -/
structure ObjM (h : Heap) (x dx C : Addr) (mA : Str → Option Value) : Prop where
  obj : h.get? x = some (PySem.W.instObj C dx)
  ns : h.Ns1 dx mA
  ne : dx ≠ x

theorem lookIn_ns {h : Heap} {dx : Addr} {mA : Str → Option Value} (n : h.Ns1 dx mA) : ∃ od, h.get? dx = some od ∧ ∀ name, PySem.W.lookIn name od = some (mA name) := by
  obtain ⟨o, es, ep, ho, hd, hk, _, hm⟩ := n
  refine ⟨o, ho, fun name => ?_⟩
  have e := hm name
  unfold nsFind findBy at e
  rw [← Array.find?_toList] at e
  unfold PySem.W.lookIn
  rw [hd]
  dsimp only
  split
  · rename_i y q
    rw [q] at e
    exact congrArg some e
  · rename_i q
    rw [q] at e
    have a : es.toList.any (·.refKey) = false := by
      rw [List.any_eq_false]
      intro y hy
      obtain ⟨z, t, hkey⟩ := hk y (Array.mem_toList_iff.mp hy)
      simp [DictEntry.refKey, hkey]
    have a' : ¬ es.toList.any (·.refKey) = true := by rw [a]; exact Bool.false_ne_true
    rw [if_neg a']
    exact congrArg some e

theorem ObjM.look {h : Heap} {x dx C : Addr} {mA : Str → Option Value} (I : ObjM h x dx C mA) : ∃ od, PySem.W.InstAt h x (PySem.W.instObj C dx) C (some od) ∧ ∀ name, PySem.W.lookIn name od = some (mA name) :=
  let ⟨od, ho, hl⟩ := lookIn_ns I.ns
  ⟨od, ⟨I.obj, rfl, rfl, ho⟩, hl⟩

section
variable {prog : Program} {w : World} {A : Around} {E : Value → Shared → Prop} {s : Shared} {K : PySem.W.Frag} {x dx C f : Addr} {mA : Str → Option Value} {name : Str} {v : Value}

theorem get_map {expr : Bool} {Q : Value → Shared → Prop} (X : K.In s.heap) (I : ObjM s.heap x dx C mA) (hg : PySem.W.plainGet K C name = true) (hh : PySem.W.hasDictIn K C = true)
    (ha : PySem.W.findIn K (.ref C) name = some none) (hv : mA name = some v) (hv' : PySem.W.handedIn v = true) (h : Q v { s with toks := s.toks + 1 }) :
    wpAny (model prog w) A (getAttr (.ref x) name expr) Q E s := by
  obtain ⟨od, J, hl⟩ := I.look
  exact PySem.W.get_value X J (PySem.W.plainGet_of hg).1 (PySem.W.findObj_own hh ha rfl (by rw [hl, hv])) hv' h

theorem get_const {expr : Bool} {a : Value} {Q : Value → Shared → Prop} (X : K.In s.heap) (I : ObjM s.heap x dx C mA) (hg : PySem.W.plainGet K C name = true) (hh : PySem.W.hasDictIn K C = true)
    (ha : PySem.W.findIn K (.ref C) name = some (some a)) (hn : PySem.W.specialIn K a "__get__" = some none) (hc : PySem.W.copiedNames.contains name = false) (hv : mA name = none) (hv' : PySem.W.handedIn a = true)
    (h : Q a { s with toks := s.toks + 1 }) : wpAny (model prog w) A (getAttr (.ref x) name expr) Q E s := by
  obtain ⟨od, J, hl⟩ := I.look
  exact PySem.W.get_value X J (PySem.W.plainGet_of hg).1 (PySem.W.findObj_cls hh ha hn hv' hc (by rw [hl, hv])) hv' h

theorem get_meth {pl : Sem Bool} {Q : Value × List Value → Shared → Prop} (X : K.In s.heap) (I : ObjM s.heap x dx C mA) (hg : PySem.W.plainGet K C name = true)
    (hf : PySem.W.findIn K (.ref C) name = some (some (.ref f))) (ht : PySem.W.isFn K (.ref f) = true) (hv : mA name = none) (h : Q (.ref f, [.ref x]) s) :
    wpAny (model prog w) A (getMethod (.ref x) name pl) Q E s := by
  obtain ⟨od, J, hl⟩ := I.look
  exact PySem.W.method_fn X J (PySem.W.plainGet_of hg).1 (PySem.W.plainGet_of hg).2 hf (beq_iff_eq.mp ht) (by show (PySem.W.lookIn name od).map (·.isSome) = some false; rw [hl, hv]; rfl) h

theorem set_map {ns : List Str} {Q : Unit → Shared → Prop} (X : K.In s.heap) (I : ObjM s.heap x dx C mA)
    (hs : PySem.W.findIn K (.ref C) "__setattr__" = some (some (.builtin "object.__setattr__"))) (hp : PySem.W.plainOver K C = true) (ht : PySem.W.takerIn K C name = some none) (hh : PySem.W.hasDictIn K C = true)
    (hw : PySem.Within mA ns) (hsz : ns.length ≤ sizeLine)
    (h : ∀ h', ObjM h' x dx C (fun y => if y = name then some v else mA y) → Heap.SameBut dx s.heap h' → Q () { s with heap := h', toks := s.toks + 2 }) :
    wpAny (model prog w) A (setAttr (.ref x) name v) Q E s := by
  obtain ⟨od, J, hl⟩ := I.look
  refine PySem.W.set_plain X J hs (PySem.W.osa_open (s := { s with toks := s.toks + 1 }) (r := none) X J hp ht fun b => ?_)
  obtain ⟨cd, hc, hd'⟩ := PySem.W.any_some hh
  have hx : s.heap.get? x = some ⟨.ref C, some dx, .plain, #[]⟩ := I.obj
  refine wpAny_bind (wpAny_pure (wpAny_bind (wpAny_bind (wpAny_loadPart hx (wpAny_bind (PySem.W.Looks.here (s := { s with toks := s.toks + 1 }) (PySem.W.looks_clsIn X hc) ?_))))))
  rw [hd']
  refine wpAny_pure (a := some dx) (wpAny_bind (wpAny_pure (wpAny_bind ?_)))
  refine wpAny_nsSet1 (s := { s with toks := s.toks + 1 }) I.ns fun h' hn2 hs2 => ?_
  obtain ⟨oD, esD, epD, hoD, hdD, hcD⟩ := hn2.count (PySem.Within.cons name v hw)
  refine wpAny_bind (wpAny_lookBehind hoD (by rw [hdD]; exact pastItsLine_dict (Nat.le_trans hcD (by rw [List.length_cons]; omega))) ?_)
  exact wpAny_pure (h _ ⟨(hs2.2 _ (Ne.symm I.ne)).trans I.obj, hn2, I.ne⟩ hs2)

/-- C(..): the dict at the heap's end, the instance behind it; then its __init__ -/
theorem make_map {R : Result → Shared → Prop} {vs : List Value} {kw : List (Str × Value)} (X : K.In s.heap) (hm : PySem.W.makesIn K C = true)
    (hi : PySem.W.findIn K (.ref C) "__init__" = some (some (.ref f))) (hf : PySem.W.typeIn K (.ref f) = some (.type "function"))
    (h : codeAny (model prog w) (A.under (.builtin "type.__call__" ⟨.ref C :: vs, kw⟩)) (.call (.ref f) ⟨.ref (s.heap.objs.size + 1) :: vs, kw⟩) (PySem.W.InitBack (s.heap.objs.size + 1) R)
      { s with heap := (s.heap.push PySem.W.emptyDict).push (PySem.W.instObj C s.heap.objs.size) }) :
    codeAny (model prog w) A (.call (.ref C) ⟨vs, kw⟩) R s := by
  obtain ⟨hh, g, d, t, os⟩ := s
  exact PySem.W.make_core (PySem.W.makes_of X hm) (PySem.W.looks_findIn X hi) (fun self => PySem.W.bind_fn X self hf) (.inl rfl) h
/-- C() where there is no __init__ but object's -/
theorem make_map0 {R : Result → Shared → Prop} (X : K.In s.heap) (hm : PySem.W.makesIn K C = true)
    (hi : PySem.W.findIn K (.ref C) "__init__" = some (some (.builtin "object.__init__")))
    (hb : ∀ self, PySem.W.Looks (model prog w) s.heap (bindSpecial (.builtin "object.__init__") self) (.builtin "object.__init__", [self]))
    (h : codeAny (model prog w) (A.under (.builtin "type.__call__" ⟨[.ref C], []⟩)) (.call (.builtin "object.__init__") ⟨[.ref (s.heap.objs.size + 1)], []⟩) (PySem.W.InitBack (s.heap.objs.size + 1) R)
      { s with heap := (s.heap.push PySem.W.emptyDict).push (PySem.W.instObj C s.heap.objs.size) }) :
    codeAny (model prog w) A (.call (.ref C) ⟨[], []⟩) R s := by
  obtain ⟨hh, g, d, t, os⟩ := s
  exact PySem.W.make_core (PySem.W.makes_of X hm) (PySem.W.looks_findIn X hi) hb (.inr ⟨rfl, rfl⟩) h
end

/-! ### the attributes as a list of pairs -/
def putF (f : Str) (v : V) : List (Str × V) → List (Str × V)
  | [] => [(f, v)]
  | (g, x) :: r => if g = f then (g, v) :: r else (g, x) :: putF f v r
theorem lookup_putF (f g : Str) (v : V) : ∀ fs : List (Str × V), (putF f v fs).lookup g = if g = f then some v else fs.lookup g
  | [] => by
    show List.lookup g [(f, v)] = _
    by_cases h : g = f
    · have hb : (g == f) = true := beq_iff_eq.mpr h
      simp only [List.lookup, hb, if_pos h]
    · have hb : (g == f) = false := beq_eq_false_iff_ne.mpr h
      simp only [List.lookup, hb, if_neg h]
  | (k, x) :: r => by
    have ih := lookup_putF f g v r
    rw [show putF f v ((k, x) :: r) = (if k = f then (k, v) :: r else (k, x) :: putF f v r) from rfl]
    by_cases hk : k = f
    · rw [if_pos hk]
      by_cases h : g = k
      · have hb : (g == k) = true := beq_iff_eq.mpr h
        simp only [List.lookup, hb, if_pos (h.trans hk)]
      · have hb : (g == k) = false := beq_eq_false_iff_ne.mpr h
        simp only [List.lookup, hb, if_neg (fun e : g = f => h (e.trans hk.symm))]
    · rw [if_neg hk]
      by_cases h : g = k
      · have hb : (g == k) = true := beq_iff_eq.mpr h
        simp only [List.lookup, hb, if_neg (fun e : g = f => hk (h.symm.trans e))]
      · have hb : (g == k) = false := beq_eq_false_iff_ne.mpr h
        simp only [List.lookup, hb]
        exact ih
theorem keys_putF (f : Str) (v : V) : ∀ fs : List (Str × V), f ∈ (putF f v fs).map (·.1) ∧ ∀ g, g ∈ fs.map (·.1) → g ∈ (putF f v fs).map (·.1)
  | [] => ⟨by simp [putF], fun g h => by simp at h⟩
  | (k, x) :: r => by
    obtain ⟨i1, i2⟩ := keys_putF f v r
    rw [show putF f v ((k, x) :: r) = (if k = f then (k, v) :: r else (k, x) :: putF f v r) from rfl]
    by_cases hk : k = f
    · rw [if_pos hk]
      subst hk
      exact ⟨by simp, fun g h => by simpa using h⟩
    · rw [if_neg hk]
      refine ⟨?_, fun g h => ?_⟩
      · rw [List.map_cons]
        exact List.mem_cons_of_mem _ i1
      · rw [List.map_cons] at h ⊢
        rcases List.mem_cons.mp h with e | e
        · exact List.mem_cons.mpr (.inl e)
        · exact List.mem_cons_of_mem _ (i2 g e)
theorem length_putF (f : Str) (v : V) : ∀ fs : List (Str × V), (putF f v fs).length ≤ fs.length + 1
  | [] => by simp [putF]
  | (k, x) :: r => by
    have ih := length_putF f v r
    rw [show putF f v ((k, x) :: r) = (if k = f then (k, v) :: r else (k, x) :: putF f v r) from rfl]
    by_cases hk : k = f
    · rw [if_pos hk, List.length_cons, List.length_cons]; omega
    · rw [if_neg hk, List.length_cons, List.length_cons]; omega

theorem RelO.some_of {v : V} {o : Option Value} (r : RelO (some v) o) : ∃ u, o = some u ∧ RelV v u := by
  cases o with
  | none => exact (show False from r).elim
  | some u => exact ⟨u, rfl, r⟩
theorem RelO.none_of {o : Option Value} (r : RelO none o) : o = none := by
  cases o with
  | none => rfl
  | some u => exact (show False from r).elim
theorem handed_of {v : V} {u : Value} (r : RelV v u) : PySem.W.handedIn u = true := by
  cases v with
  | non => cases (show u = Value.none from r); rfl
  | bl b => cases (show u = Value.bool b from r); rfl
  | int i => obtain ⟨t, e⟩ := (show ∃ t, u = Value.int i t from r); cases e; rfl
  | str x => obtain ⟨t, e⟩ := (show ∃ t, u = Value.str x t from r); cases e; rfl
  | byt b => obtain ⟨t, e⟩ := (show ∃ t, u = Value.bytes b t from r); cases e; rfl
  | flt b => obtain ⟨t, e⟩ := (show ∃ t, u = Value.float b t from r); cases e; rfl
  | ref a => cases (show u = Value.ref a from r); rfl
  | ty n => cases (show u = Value.type n from r); rfl

section
variable {P : Program} {w : World} {H H' : Hp} {h h' : Heap} {a C dx : Addr} {fs fs' : List (Str × V)}
theorem ins_get (hok : HOk P w H h) (e : H a = some (.ins C dx fs)) : ∃ mA, ObjM h a dx C mA ∧ (∀ f, RelO (fs.lookup f) (mA f)) ∧ PySem.Within mA (fs.map (·.1)) ∧ fs.length ≤ 1000 ∧ H dx = some (.own a) := by
  obtain ⟨d, z, ne, ob, mA, n, r, q⟩ := (show ObjOk P w H h a (.ins C dx fs) from hok a _ e)
  exact ⟨mA, ⟨ob, n, ne⟩, r, q, z, d⟩
end

/-! ### what of the text a class must have -/
structure Cls (K : PySem.W.Frag) (C : Addr) : Prop where
  pg : PySem.W.plainGet K C Str.empty = true
  hd : PySem.W.hasDictIn K C = true
  po : PySem.W.plainOver K C = true
  sa : PySem.W.findIn K (.ref C) "__setattr__" = some (some (.builtin "object.__setattr__"))
theorem Cls.get {K : PySem.W.Frag} {C : Addr} (c : Cls K C) (f : Str) : PySem.W.plainGet K C f = true := c.pg
/-- no class of it has the name -/
def NoAttr (K : PySem.W.Frag) (C : Addr) (f : Str) : Prop := PySem.W.findIn K (.ref C) f = some none
theorem NoAttr.taker {K : PySem.W.Frag} {C : Addr} {f : Str} (n : NoAttr K C f) : PySem.W.takerIn K C f = some none := by
  unfold PySem.W.takerIn
  rw [show PySem.W.findIn K (.ref C) f = some none from n]
  rfl
/-- a constant of the class -/
structure Con (K : PySem.W.Frag) (C : Addr) (f : Str) (v : V) (u : Value) : Prop where
  at_ : PySem.W.findIn K (.ref C) f = some (some u)
  rel : RelV v u
  get : PySem.W.specialIn K u "__get__" = some none
  cp : PySem.W.copiedNames.contains f = false
/-- a method: a plain def of the class or of one above it -/
structure Meth (K : PySem.W.Frag) (C : Addr) (m : Str) (f : Addr) : Prop where
  at_ : PySem.W.findIn K (.ref C) m = some (some (.ref f))
  fn : PySem.W.isFn K (.ref f) = true
  kp : PySem.W.keepIn K (.ref f) = true

section
variable {X : Cx} {pins : List (Addr × Obj)} {σ : St} {H : Hp} {s : Shared} {a C dx : Addr} {fs : List (Str × V)} {f : Str} {v : V} {A : Around} {E : Value → Shared → Prop}

theorem getattr_ok {b : Bool} {Q : Value → Shared → Prop} (I : Inv X pins σ H s) (e : H a = some (.ins C dx fs)) (c : Cls X.K C) (n : NoAttr X.K C f) (l : fs.lookup f = some v)
    (h : ∀ u s', Inv X pins σ H s' → RelV v u → Q u s') : wpAny (model X.prog X.w) A (getAttr (.ref a) f b) Q E s := by
  obtain ⟨mA, O, r, _, _, _⟩ := ins_get I.hok e
  obtain ⟨u, hu, ru⟩ := RelO.some_of (v := v) (o := mA f) (by rw [← l]; exact r f)
  exact get_map I.kIn O (c.get f) c.hd n hu (handed_of ru) (h u _ (I.tok _) ru)

theorem getcon_ok {b : Bool} {u : Value} {Q : Value → Shared → Prop} (I : Inv X pins σ H s) (e : H a = some (.ins C dx fs)) (c : Cls X.K C) (k : Con X.K C f v u) (l : fs.lookup f = none)
    (h : ∀ s', Inv X pins σ H s' → Q u s') : wpAny (model X.prog X.w) A (getAttr (.ref a) f b) Q E s := by
  obtain ⟨mA, O, r, _, _, _⟩ := ins_get I.hok e
  have hn : mA f = none := RelO.none_of (by rw [← l]; exact r f)
  exact get_const I.kIn O (c.get f) c.hd k.at_ k.get k.cp hn (handed_of k.rel) (h _ (I.tok _))

theorem getmeth_ok {m : Str} {g : Addr} {pl : Sem Bool} {Q : Value × List Value → Shared → Prop} (I : Inv X pins σ H s) (e : H a = some (.ins C dx fs)) (c : Cls X.K C) (k : Meth X.K C m g) (l : fs.lookup m = none)
    (h : Q (.ref g, [.ref a]) s) : wpAny (model X.prog X.w) A (getMethod (.ref a) m pl) Q E s := by
  obtain ⟨mA, O, r, _, _, _⟩ := ins_get I.hok e
  have hn : mA m = none := RelO.none_of (by rw [← l]; exact r m)
  exact get_meth I.kIn O (c.get m) k.at_ k.fn hn h

theorem setattr_ok {y : V} {u : Value} {Q : Unit → Shared → Prop} (I : Inv X pins σ H s) (e : H a = some (.ins C dx fs)) (c : Cls X.K C) (n : NoAttr X.K C f) (hl : fs.length < 1000) (ry : RelV y u)
    (h : ∀ s', Inv X pins σ (upd H a (.ins C dx (putF f y fs))) s' → Q () s') : wpAny (model X.prog X.w) A (setAttr (.ref a) f u) Q E s := by
  obtain ⟨mA, O, r, wi, _, ho⟩ := ins_get I.hok e
  have hz : (fs.map (·.1)).length ≤ sizeLine := by rw [List.length_map, sizeLine_eq]; omega
  refine set_map I.kIn O c.sa c.po n.taker c.hd wi hz fun h' O' sb => h _ ?_
  have hd : ∃ o, h'.get? dx = some o := let ⟨o, _, _, e', _⟩ := O'.ns; ⟨o, e'⟩
  refine I.write (x := a) (e := dx) (by rw [e]; exact True.intro) (.inr ho) (fun b q hb z => (sb.2 b hb).trans z) hd ?_
  refine ⟨by rw [upd_ne O.ne]; exact ho, ?_, O.ne, O'.obj, _, O'.ns, fun g => ?_, fun g hg => ?_⟩
  · have := length_putF f y fs; omega
  · show RelO ((putF f y fs).lookup g) (if g = f then some u else mA g)
    rw [lookup_putF]
    by_cases q : g = f
    · rw [if_pos q, if_pos q]; exact ry
    · rw [if_neg q, if_neg q]; exact r g
  · by_cases q : g = f
    · rw [q]; exact (keys_putF f y fs).1
    · refine (keys_putF f y fs).2 g (wi g fun z => hg ?_)
      show (if g = f then some u else mA g) = none
      rw [if_neg q]; exact z

/-- a new instance, tracked, without attributes -/
theorem Inv.made (I : Inv X pins σ H s) : Inv X pins σ (upd (upd H s.heap.objs.size (.own (s.heap.objs.size + 1))) (s.heap.objs.size + 1) (.ins C s.heap.objs.size []))
    { s with heap := (s.heap.push PySem.W.emptyDict).push (PySem.W.instObj C s.heap.objs.size) } := by
  have e1 : (s.heap.push PySem.W.emptyDict).get? s.heap.objs.size = some PySem.W.emptyDict := Heap.get?_push_size s.heap rfl
  have e2 : ((s.heap.push PySem.W.emptyDict).push (PySem.W.instObj C s.heap.objs.size)).get? (s.heap.objs.size + 1) = some (PySem.W.instObj C s.heap.objs.size) := by
    have := Heap.get?_push_size (s.heap.push PySem.W.emptyDict) (o := PySem.W.instObj C s.heap.objs.size) rfl
    rwa [Heap.size_push] at this
  have e3 : (s.heap.push PySem.W.emptyDict).Ns s.heap.objs.size (fun _ => none) := ⟨PySem.W.emptyDict, #[], _, e1, rfl, (fun e he => absurd he (by simp)), fun _ => rfl⟩
  have I1 := I.laid (a := s.heap.objs.size) (o := .own (s.heap.objs.size + 1)) (h' := s.heap.push PySem.W.emptyDict) (t' := s.toks) (fun b u q => Heap.get?_push_of_some _ q) (Nat.le_refl _) ⟨_, e1⟩
  refine I1.laid (a := s.heap.objs.size + 1) (o := .ins C s.heap.objs.size []) (t' := s.toks) (fun b u q => Heap.get?_push_of_some _ q) (Nat.le_of_eq (Heap.size_push _ _)) ?_
  have ne : s.heap.objs.size ≠ s.heap.objs.size + 1 := Nat.ne_of_lt (Nat.lt_succ_self _)
  refine ⟨by rw [upd_ne ne, upd_same], Nat.zero_le _, ne, e2, fun _ => none, (Heap.Ns1.of_empty e3).at fun o q => Heap.get?_push_of_some _ q, fun _ => True.intro, fun y hy => absurd rfl hy⟩

/-- e.f where nothing but the object is asked: through attributeBase (super) and the last hold -/
theorem attr_of {prog : Program} {w : World} {env : Env} {e : Expr} {f : Str} {pos : Pos} {s : Shared} {Q : Value → Shared → Prop} (hb : attributeBase e f env (eval e env) = eval e env)
    (h : wpAny (model prog w) A (eval e env) (fun o s₁ => wpAny (model prog w) A (getAttr o f true) Q E s₁) E s) : wpAny (model prog w) A (eval (.Attribute e f pos) env) Q E s :=
  Attribute_any_ h (by rw [arm_eval_Attribute, hb])
end

/-! ### readings and rules -/
/-- e.f, an attribute of the instance -/
def tFld (K : PySem.W.Frag) (ta : TE) (f : Str) : TE := fun σ H Q => ta σ H fun x H1 => ∃ a C dx fs v, x = .ref a ∧ H1 a = some (.ins C dx fs) ∧ Cls K C ∧ NoAttr K C f ∧ fs.lookup f = some v ∧ Q v H1
/-- e.f, a constant of the class -/
def tCon (K : PySem.W.Frag) (ta : TE) (f : Str) : TE := fun σ H Q => ta σ H fun x H1 => ∃ a C dx fs v u, x = .ref a ∧ H1 a = some (.ins C dx fs) ∧ Cls K C ∧ Con K C f v u ∧ fs.lookup f = none ∧ Q v H1
/-- e.f = value -/
def sFld (K : PySem.W.Frag) (ta tv : TE) (f : Str) : TS := fun D σ H => tv σ H fun y H1 => ta σ H1 fun x H2 => ∃ a C dx fs, x = .ref a ∧ H2 a = some (.ins C dx fs) ∧ Cls K C ∧ NoAttr K C f ∧ fs.length < 1000 ∧
  D.nx σ (upd H2 a (.ins C dx (putF f y fs)))
/-- an augmented operator on two values -/
def InOp (X : Cx) (op : Operator) (rd : V → V → Hp → VK → Prop) : Prop :=
  ∀ (pins : List (Addr × Obj)) (s : Shared) (σ : St) (H : Hp) (x y : V) (u v : Value) (Q : VK), Inv X pins σ H s → RelV x u → RelV y v → rd x y H Q → wpAny (model X.prog X.w) X.A (inplaceOp op u v) (EP X pins σ Q) X.xe s
/-- e.f op= value -/
def sFldAug (K : PySem.W.Frag) (ta tv : TE) (rd : V → V → Hp → VK → Prop) (f : Str) : TS := fun D σ H => ta σ H fun x H1 => ∃ a C dx fs v, x = .ref a ∧ H1 a = some (.ins C dx fs) ∧ Cls K C ∧ NoAttr K C f ∧ fs.lookup f = some v ∧
  tv σ H1 fun y H2 => rd v y H2 fun z H3 => ∃ dx' fs', H3 a = some (.ins C dx' fs') ∧ fs'.length < 1000 ∧ D.nx σ (upd H3 a (.ins C dx' (putF f z fs')))

section
variable {X : Cx} {o e value : Expr} {f : Str} {pos pos' tpos : Pos} {ta tv : TE}
theorem pe_fld (he : PE X e ta) (hb : attributeBase e f X.env (eval e X.env) = eval e X.env) : PE X (.Attribute e f pos) (tFld X.K ta f) := by
  intro pins s σ H Q I h
  refine attr_of hb (thn (he pins s σ H _ I h) fun u s1 ⟨x, H1, I1, rx, a, C, dx, fs, v, ex, ea, c, n, l, q⟩ => ?_)
  subst ex
  obtain rfl : u = Value.ref a := rx
  exact getattr_ok I1 ea c n l fun u' s2 I2 ru => ⟨v, H1, I2, ru, q⟩
theorem pe_con (he : PE X e ta) (hb : attributeBase e f X.env (eval e X.env) = eval e X.env) : PE X (.Attribute e f pos) (tCon X.K ta f) := by
  intro pins s σ H Q I h
  refine attr_of hb (thn (he pins s σ H _ I h) fun u s1 ⟨x, H1, I1, rx, a, C, dx, fs, v, u0, ex, ea, c, k, l, q⟩ => ?_)
  subst ex
  obtain rfl : u = Value.ref a := rx
  exact getcon_ok I1 ea c k l fun s2 I2 => ⟨v, H1, I2, k.rel, q⟩
theorem ps_fld (ha : PE X o ta) (hv : PE X value tv) (hs : swapsWith value (some (.Attribute o f pos')) pos.line X.env = pure false) : PS X (.Assign [.Attribute o f pos'] value pos) (sFld X.K ta tv f) := by
  intro pins s σ H D I h
  refine plainObj_wpAny_Assign_Attribute (thn (hv pins s σ H _ I h) fun u s1 ⟨y, H1, I1, ry, q⟩ => thn (ha pins s1 σ H1 _ I1 q) fun ov s2 ⟨x, H2, I2, rx, a, C, dx, fs, ex, ea, c, n, l, q2⟩ => ?_) hs
  subst ex
  obtain rfl : ov = Value.ref a := rx
  exact setattr_ok I2 ea c n l ry fun s3 I3 => ⟨σ, _, I3, q2⟩
theorem ps_fldaug {op : Operator} {rd : V → V → Hp → VK → Prop} (ha : PE X o ta) (hv : PE X value tv) (hop : InOp X op rd) : PS X (.AugAssign (.Attribute o f tpos) op value pos) (sFldAug X.K ta tv rd f) := by
  intro pins s σ H D I h
  refine wpAny_AugAssign_AttributeAny (thn (ha pins s σ H _ I h) fun ov s1 ⟨x, H1, I1, rx, a, C, dx, fs, v, ex, ea, c, n, l, q⟩ => ?_)
  subst ex
  obtain rfl : ov = Value.ref a := rx
  refine getattr_ok I1 ea c n l fun u s2 I2 ru => thn (hv pins s2 σ H1 _ I2 q) fun w3 s3 ⟨y, H2, I3, ry, q3⟩ => thn (hop pins s3 σ H2 v y u w3 _ I3 ru ry q3) fun w4 s4 ⟨z, H3, I4, rz, dx', fs', ea', l', q4⟩ => ?_
  exact setattr_ok I4 ea' c n l' rz fun s5 I5 => ⟨σ, _, I5, q4⟩
def rAdd : V → V → Hp → VK → Prop := fun x y H Q => ∃ i j, x = .int i ∧ y = .int j ∧ Q (.int (i + j)) H
def rSub : V → V → Hp → VK → Prop := fun x y H Q => ∃ i j, x = .int i ∧ y = .int j ∧ Q (.int (i - j)) H
theorem in_add : InOp X .Add rAdd := by
  rintro pins s σ H x y u v Q I rx ry ⟨i, j, rfl, rfl, q⟩
  obtain ⟨t, rfl⟩ := (show ∃ t, u = Value.int i t from rx)
  obtain ⟨t', rfl⟩ := (show ∃ t', v = Value.int j t' from ry)
  exact PyProof.Rows.iadd_int ⟨.int (i + j), H, I.tok _, ⟨_, rfl⟩, q⟩
theorem in_sub : InOp X .Sub rSub := by
  rintro pins s σ H x y u v Q I rx ry ⟨i, j, rfl, rfl, q⟩
  obtain ⟨t, rfl⟩ := (show ∃ t, u = Value.int i t from rx)
  obtain ⟨t', rfl⟩ := (show ∃ t', v = Value.int j t' from ry)
  exact PyProof.Rows.isub_int ⟨.int (i - j), H, I.tok _, ⟨_, rfl⟩, q⟩

/-- what is between an instance and its method: the tree of a method call -/
theorem methcall_of {pl : Sem Bool} {m : Str} {apos : Pos} {args : List Expr} {pins : List (Addr × Obj)} {s : Shared} {σ : St} {H : Hp} {Q : Value → Shared → Prop} {te : TE} (he : PE X e te) (I : Inv X pins σ H s)
    (h : te σ H fun x H1 => ∃ a C dx fs g, x = .ref a ∧ H1 a = some (.ins C dx fs) ∧ Cls X.K C ∧ Meth X.K C m g ∧ fs.lookup m = none ∧
      ∀ s1, Inv X pins σ H1 s1 → wpAny (model X.prog X.w) X.A (callWith pos (.ref g) [.ref a] (backTo pos (starEach args X.env)) (backToKw pos (keywordEach [] X.env))) Q X.xe s1)
    (ht : eval (.Call (.Attribute e m apos) args [] pos) X.env = (do
      let ov ← eval e X.env
      standAt apos.atName
      let (f, first) ← holding [ov] (getMethod ov m pl)
      callWith pos f first (backTo pos (starEach args X.env)) (backToKw pos (keywordEach [] X.env)))) :
    wpAny (model X.prog X.w) X.A (eval (.Call (.Attribute e m apos) args [] pos) X.env) Q X.xe s := by
  refine PySem.W.methodCall_KW (pl := pl) (thn (he pins s σ H _ I h) fun u s1 ⟨x, H1, I1, rx, a, C, dx, fs, g, ex, ea, c, k, l, q⟩ => ?_) ht
  subst ex
  obtain rfl : u = Value.ref a := rx
  exact getmeth_ok I1 ea c k l (q s1 I1)
end

/-! ### isinstance -/
section
variable {X : Cx} {pins : List (Addr × Obj)} {σ : St} {H : Hp} {s : Shared} {A : Around} {E : Value → Shared → Prop} {Q : Value → Shared → Prop} {c : Value} {b : Bool}
/-- the type of a value, as the fragment's deciders take it; for an instance its class -/
inductive TyOf (K : PySem.W.Frag) (H : Hp) : V → Value → Prop where
  | non : TyOf K H .non (.type "NoneType")
  | bl (x : Bool) : TyOf K H (.bl x) (.type "bool")
  | int (i : Int) : TyOf K H (.int i) (.type "int")
  | str (x : Str) : TyOf K H (.str x) (.type "str")
  | flt (x : UInt64) : TyOf K H (.flt x) (.type "float")
  | lst {a : Addr} {xs : List V} (e : H a = some (.lst xs)) : TyOf K H (.ref a) (.type "list")
  | frz {a : Addr} {o : Obj} {xs : List V} (e : H a = some (.frz o (.lst xs))) : TyOf K H (.ref a) (.type "list")
  | tup {a : Addr} {xs : List V} (e : H a = some (.tup xs)) : TyOf K H (.ref a) (.type "tuple")
  | dK {a : Addr} {kvs : List (Key × V)} (e : H a = some (.dK kvs)) : TyOf K H (.ref a) (.type "dict")
  | dT {a : Addr} {kvs : List (List Key × V)} (e : H a = some (.dT kvs)) : TyOf K H (.ref a) (.type "dict")
  | ins {a C dx : Addr} {fs : List (Str × V)} (e : H a = some (.ins C dx fs)) (cl : Cls K C) (ha : PySem.W.findIn K (.ref C) "__class__" = some (some (.builtin "object.__class__")))
      (hn : PySem.W.specialIn K (.builtin "object.__class__") "__get__" = some (some (.builtin "getset_descriptor.__get__"))) (htk : PySem.W.takesIn K (.builtin "object.__class__") = some true)
      (hm : PySem.W.mroIn K C (.type "object") = some true) : TyOf K H (.ref a) (.ref C)
/-- isinstance(x, c) for one class c, a built-in or an own one: kitOne's answer -/
theorem isinst_ok {x : V} {u t : Value} (I : Inv X pins σ H s) (rx : RelV x u) (ty : TyOf X.K H x t) (e : PySem.W.kitOne X.K t c = some b) (h : ∀ tk, Q (.bool b) { s with toks := tk }) :
    wpAny (model X.prog X.w) A (call (.builtin "isinstance") [u, c]) Q E s := by
  cases ty with
  | non => cases (show u = Value.none from rx); exact PySem.W.kia_one PySem.W.kitx_none I.kIn True.intro e (fun z => nomatch z) h
  | bl y => cases (show u = Value.bool y from rx); exact PySem.W.kia_one PySem.W.kitx_bool I.kIn True.intro e (fun z => nomatch z) h
  | int i => obtain ⟨t, q⟩ := (show ∃ t, u = Value.int i t from rx); cases q; exact PySem.W.kia_one PySem.W.kitx_int I.kIn True.intro e (fun z => nomatch z) h
  | str y => obtain ⟨t, q⟩ := (show ∃ t, u = Value.str y t from rx); cases q; exact PySem.W.kia_one PySem.W.kitx_str I.kIn True.intro e (fun z => nomatch z) h
  | flt y => obtain ⟨t, q⟩ := (show ∃ t, u = Value.float y t from rx); cases q; exact PySem.W.kia_one PySem.W.kitx_float I.kIn True.intro e (fun z => nomatch z) h
  | @lst a xs ea =>
    cases (show u = Value.ref a from rx)
    obtain ⟨_, _, n, _, h1⟩ := (show ObjOk X.prog X.w H s.heap a (.lst xs) from I.hok a _ ea)
    exact PySem.W.kia_one PySem.W.kitx_list I.kIn ⟨_, h1, rfl⟩ e (fun z => nomatch z) h
  | @frz a ob xs ea =>
    cases (show u = Value.ref a from rx)
    obtain ⟨_, _, _, n, _, h1⟩ := (show ObjOk X.prog X.w H s.heap a (.frz ob (.lst xs)) from I.hok a _ ea)
    exact PySem.W.kia_one PySem.W.kitx_list I.kIn ⟨_, h1, rfl⟩ e (fun z => nomatch z) h
  | @tup a xs ea =>
    cases (show u = Value.ref a from rx)
    obtain ⟨_, _, _, p⟩ := (show ObjOk X.prog X.w H s.heap a (.tup xs) from I.hok a _ ea)
    obtain ⟨o, h1, h2, _⟩ := p
    exact PySem.W.kia_one PySem.W.kitx_tuple I.kIn ⟨o, h1, h2⟩ e (fun z => nomatch z) h
  | @dK a kvs ea =>
    cases (show u = Value.ref a from rx)
    obtain ⟨_, _, vs, _, p⟩ := (show ObjOk X.prog X.w H s.heap a (.dK kvs) from I.hok a _ ea)
    obtain ⟨o, es, ep, h1, h2, _⟩ := p
    exact PySem.W.kia_one PySem.W.kitx_dict I.kIn ⟨o, h1, h2.1⟩ e (fun z => nomatch z) h
  | @dT a kvs ea =>
    cases (show u = Value.ref a from rx)
    obtain ⟨_, _, xs, _, o, es, ep, h1, h2, _⟩ := (show ObjOk X.prog X.w H s.heap a (.dT kvs) from I.hok a _ ea)
    exact PySem.W.kia_one PySem.W.kitx_dict I.kIn ⟨o, h1, h2.1⟩ e (fun z => nomatch z) h
  | @ins a C dx fs ea cl ha hn htk hm =>
    cases (show u = Value.ref a from rx)
    obtain ⟨mA, O, _⟩ := ins_get I.hok ea
    obtain ⟨od, J, _⟩ := O.look
    exact PySem.W.kia_one (PySem.W.kitx_own (cl.get _) cl.hd ha hn htk hm) I.kIn J e (fun z => nomatch z) h
end
end L2

namespace L2
open PySem PySem.Spec PyProof.Rows

/-! ### room -/
structure Room (k : Nat) (A : Around) : Prop where
  hd : A.handled = none
  dp : A.depth + 3 * k + 5 < recursionLimit
  un : A.units + 16 * k + 200 < cLine
theorem Room.mono {j k : Nat} {A : Around} (r : Room k A) (h : j ≤ k) : Room j A := ⟨r.hd, by have := r.dp; omega, by have := r.un; omega⟩
theorem Room.deeper {k : Nat} {A : Around} (r : Room (k + 1) A) (env : Env) : Room k (A.deeper env) :=
  ⟨r.hd, by have := r.dp; show A.depth + 1 + 3 * k + 5 < _; omega, by have := r.un; show A.units + 3 + 16 * k + 200 < _; omega⟩
theorem Room.in1 {k : Nat} {A : Around} (r : Room (k + 1) A) : Room k A.in1 :=
  ⟨r.hd, by have := r.dp; show A.depth + 3 * k + 5 < _; omega, by have := r.un; show A.units + 1 + 16 * k + 200 < _; omega⟩
theorem make_depth {A : Around} {C : Addr} {us : List Value} {kw : List (Str × Value)} : (A.under (.builtin "type.__call__" ⟨.ref C :: us, kw⟩)).depth = A.depth + 1 := by
  first | rfl | simp [Around.under, Code.weight, Code.isCreation, Code.isGuard, Code.isCaller, Code.frames, Code.isFrame, guardIds]
theorem make_units {A : Around} {C : Addr} {us : List Value} {kw : List (Str × Value)} : (A.under (.builtin "type.__call__" ⟨.ref C :: us, kw⟩)).units = A.units + 1 := by
  first | rfl | simp [Around.under, Code.cUnits, Code.frames, Code.isFrame]
theorem Room.make {k : Nat} {A : Around} (r : Room (k + 1) A) (C : Addr) (us : List Value) (kw : List (Str × Value)) : Room k (A.under (.builtin "type.__call__" ⟨.ref C :: us, kw⟩)) :=
  ⟨r.hd, by have := r.dp; rw [make_depth]; omega, by have := r.un; rw [make_units]; omega⟩
theorem Room.depth {k : Nat} {A : Around} (r : Room k A) : A.depth < recursionLimit := by have := r.dp; omega
theorem Room.units {k : Nat} {A : Around} (r : Room k A) : A.units + 64 < cLine := by have := r.un; omega
theorem Room.units0 {k : Nat} {A : Around} (r : Room k A) : A.units < cLine := by have := r.un; omega

/-! ### argument lists and displays -/
def tNil : TA := fun _ H Q => Q [] H
def tCons (ta : TE) (tr : TA) : TA := fun σ H Q => ta σ H fun x H1 => tr σ H1 fun xs H2 => Q (x :: xs) H2
section
variable {X : Cx} {e : Expr} {es : List Expr} {te : TE} {t : TA} {pos : Pos}
theorem pa_nil : PA X [] tNil := fun _ _ _ _ H Q I h => Calls.spliced_nil ⟨[], H, I, .nil, h⟩
theorem pa_cons (ha : PE X e te) (hr : PA X es t) (hs : starEach (e :: es) X.env = (false, eval e X.env) :: starEach es X.env := by rfl) : PA X (e :: es) (tCons te t) := by
  intro pos pins s σ H Q I h
  rw [hs]
  show wpAny _ _ (spliced ((false, eval e X.env) :: backTo pos (starEach es X.env))) _ _ s
  refine Calls.spliced_cons (thn (ha pins s σ H _ I h) fun u s1 ⟨x, H1, I1, r1, q1⟩ => ?_)
  exact thn (hr pos pins s1 σ H1 _ I1 q1) fun us s2 ⟨xs, H2, I2, r2, q2⟩ => ⟨x :: xs, H2, I2, .cons r1 r2, q2⟩

/-- a tuple, a list of written items -/
def tTup (t : TA) : TE := fun σ H Q => t σ H fun xs H1 => xs.length ≤ sizeLine ∧ ∀ p, H1 p = none → Q (.ref p) (upd H1 p (.tup xs))
def tLst (t : TA) : TE := fun σ H Q => t σ H fun xs H1 => xs.length ≤ sizeLine ∧ ∀ p, H1 p = none → Q (.ref p) (upd H1 p (.lst xs))
theorem pe_tup {x1} (h : PA X es t) : PE X (.Tuple es x1 pos) (tTup t) := by
  intro pins s σ H Q I hq
  refine wpAny_Tuple_spliced (thn (h pos pins s σ H _ I hq) fun us s1 ⟨xs, H1, I1, r, z, q⟩ => ⟨by rw [← r.length]; exact z, ?_⟩)
  have hf : H1 s1.heap.objs.size = none := I1.hok.fresh (Nat.le_refl _)
  refine ⟨.ref s1.heap.objs.size, upd H1 s1.heap.objs.size (.tup xs), I1.laid (t' := s1.toks) (fun b u e => Heap.get?_push_of_some _ e) (Nat.le_refl _) ?_, rfl, q _ hf⟩
  exact ⟨z, us, r, ⟨_, Heap.get?_push_size _ rfl, rfl, _, rfl⟩⟩
theorem pe_lst (h : PA X es t) : PE X (.List es pos) (tLst t) := by
  intro pins s σ H Q I hq
  refine wpAny_List_spliced (thn (h pos pins s σ H _ I hq) fun us s1 ⟨xs, H1, I1, r, z, q⟩ => ⟨by rw [← r.length]; exact z, ?_⟩)
  have hf : H1 s1.heap.objs.size = none := I1.hok.fresh (Nat.le_refl _)
  refine ⟨.ref s1.heap.objs.size, upd H1 s1.heap.objs.size (.lst xs), I1.laid (t' := s1.toks) (fun b u e => Heap.get?_push_of_some _ e) (Nat.le_refl _) ?_, rfl, q _ hf⟩
  exact ⟨z, us, 0, r, Heap.get?_push_size _ rfl⟩
end

/-! ### what a def promises -/
/-- a def's promise: the bound arguments in the parameters' order, the heap, the wanted end, the wanted exception -/
abbrev Sp := List V → Hp → VK → XK → Prop
/-- how an exception lies behind a call (file 08 gives it): the callers' frames, abstract heap and state ahead of the call, the wish, the exception, the state -/
abbrev CXT := List Env → Hp → Shared → XK → Value → Shared → Prop

/-- the state at a call -/
structure Env0 (P : Program) (w : World) (K : PySem.W.Frag) (mg : Str → Option Value) (base : Heap) (A : Around) (outer : List Env) (s : Shared) (H : Hp) : Prop where
  frames : A.frames = some outer
  mod : Mod K mg base
  bs : ∀ b o, base.get? b = some o → s.heap.get? b = some o ∧ H b = none
  bsz : base.objs.size ≤ s.heap.objs.size
  funs : s.heap.FunFrames base outer
  frf : ∀ b ∈ frs outer, H b = none
  hok : HOk P w H s.heap
  bare : AllBare s.gens
/-- a call's end -/
def CE (outer : List Env) (P : Program) (w : World) (H : Hp) (s : Shared) (Q : VK) (u : Value) (s' : Shared) : Prop :=
  ∃ v H', s'.os = s.os ∧ AllBare s'.gens ∧ Un (frs outer) [] H H' s.heap s'.heap ∧ HOk P w H' s'.heap ∧ RelV v u ∧ Q v H'
def CR (CX : CXT) (outer : List Env) (P : Program) (w : World) (H : Hp) (s : Shared) (Q : VK) (E : XK) (r : Result) (s' : Shared) : Prop :=
  match r with
  | .ok (.ret u) => CE outer P w H s Q u s'
  | .ok _ => False
  | .error e => CX outer H s E e s'
structure FnOk (P : Program) (w : World) (K : PySem.W.Frag) (mg : Str → Option Value) (base : Heap) (CX : CXT) (k : Nat) (f : Addr) (fd : FuncData) (ps : List Str) (sp : Sp) : Prop where
  len : ∀ vs H Q E, sp vs H Q E → vs.length = ps.length
  run : ∀ (A : Around) (outer : List Env) (s : Shared) (H : Hp) (args : Args) (us : List Value) (vs : List V) (Q : VK) (E : XK), Room k A → Env0 P w K mg base A outer s H → BindsTo s fd args (ps.zip us) → Vals vs us → sp vs H Q E →
    codeAny (model P w) A (.call (.ref f) args) (CR CX outer P w H s Q E) s
theorem FnOk.mono {P : Program} {w : World} {K : PySem.W.Frag} {mg : Str → Option Value} {base : Heap} {CX : CXT} {j k : Nat} {f : Addr} {fd : FuncData} {ps : List Str} {sp : Sp} (F : FnOk P w K mg base CX j f fd ps sp) (h : j ≤ k) :
    FnOk P w K mg base CX k f fd ps sp := ⟨F.len, fun A outer s H args us vs Q E hr => F.run A outer s H args us vs Q E (hr.mono h)⟩
/-- a weaker promise -/
theorem FnOk.imp {P : Program} {w : World} {K : PySem.W.Frag} {mg : Str → Option Value} {base : Heap} {CX : CXT} {k : Nat} {f : Addr} {fd : FuncData} {ps : List Str} {sp sp' : Sp} (F : FnOk P w K mg base CX k f fd ps sp)
    (h : ∀ vs H Q E, sp' vs H Q E → sp vs H Q E) : FnOk P w K mg base CX k f fd ps sp' :=
  ⟨fun vs H Q E q => F.len vs H Q E (h _ _ _ _ q), fun A outer s H args us vs Q E hr he hb hv hs => F.run A outer s H args us vs Q E hr he hb hv (h _ _ _ _ hs)⟩

theorem Env0.make {P : Program} {w : World} {K : PySem.W.Frag} {mg : Str → Option Value} {base : Heap} {A : Around} {outer : List Env} {s : Shared} {H : Hp} (e : Env0 P w K mg base A outer s H) (C : Addr) (us : List Value) (kw : List (Str × Value)) :
    Env0 P w K mg base (A.under (.builtin "type.__call__" ⟨.ref C :: us, kw⟩)) outer s H := ⟨by first | exact e.frames | (simpa [Around.under, Code.envs, Code.isFrame, pushEnvs] using e.frames), e.mod, e.bs, e.bsz, e.funs, e.frf, e.hok, e.bare⟩
theorem Env0.in1 {P : Program} {w : World} {K : PySem.W.Frag} {mg : Str → Option Value} {base : Heap} {A : Around} {outer : List Env} {s : Shared} {H : Hp} (e : Env0 P w K mg base A outer s H) :
    Env0 P w K mg base A.in1 outer s H := ⟨e.frames, e.mod, e.bs, e.bsz, e.funs, e.frf, e.hok, e.bare⟩

section
variable {X : Cx} {pins : List (Addr × Obj)} {σ : St} {H : Hp} {s s' : Shared}
/-- from a body: what a callee wants -/
theorem Inv.env0 (I : Inv X pins σ H s) : Env0 X.prog X.w X.K X.mg X.base X.A X.stack s H :=
  ⟨I.ok.frames, I.ok.mod, I.bs, Nat.le_trans I.ok.bsz I.sz, I.stack, I.stkFree, I.hok, I.bare⟩
/-- behind a call -/
theorem Inv.after {Q : VK} {u : Value} (I : Inv X pins σ H s) (h : CE X.stack X.prog X.w H s Q u s') : EP X pins σ Q u s' := by
  obtain ⟨v, H', os, bare, un, hok, r, q⟩ := h
  obtain ⟨hh, g, d, t, os'⟩ := s'
  obtain rfl : os' = s.os := os
  exact ⟨v, H', I.call (h' := hh) (g' := g) (d' := d) (t' := t) (ch := []) un hok bare (fun b z => absurd z (by simp)), r, q⟩
end

/-! ### calls -/
/-- f(..): the written arguments, then the defaults dvs; E: what is wanted of an exception -/
def tCall (sp : Sp) (dvs : List V) (E : XK) (t : TA) : TE := fun σ H Q => t σ H fun vs H1 => sp (vs ++ dvs) H1 Q E
/-- o.m(..) of an instance of the class at C -/
def tMeth (C : Addr) (m : Str) (sp : Sp) (dvs : List V) (E : XK) (ta : TE) (t : TA) : TE := fun σ H Q => ta σ H fun x H1 => ∃ a dx fs, x = .ref a ∧ H1 a = some (.ins C dx fs) ∧ fs.lookup m = none ∧
  t σ H1 fun vs H2 => sp (x :: (vs ++ dvs)) H2 Q E
/-- C(..): a new instance and its dict, then __init__ -/
def tMake (C : Addr) (sp : Sp) (dvs : List V) (E : XK) (t : TA) : TE := fun σ H Q => t σ H fun vs H1 => ∀ x dx, H1 x = none → H1 dx = none → dx ≠ x →
  sp (.ref x :: (vs ++ dvs)) (upd (upd H1 dx (.own x)) x (.ins C dx [])) (fun v H2 => v = .non ∧ Q (.ref x) H2) E

/-- how the parameters are bound: us the positional arguments, kw the keywords' values by name, ds the defaults that fill up -/
def Binds (K : PySem.W.Frag) (fd : FuncData) (ps : List Str) (ds : List Value) : Prop :=
  ∀ (s : Shared) (us : List Value), K.In s.heap → (us ++ ds).length = ps.length → BindsTo s fd ⟨us, []⟩ (ps.zip (us ++ ds))
/-- every parameter is given -/
theorem Binds.all {K : PySem.W.Frag} {fd : FuncData} {ps : List Str} (h : ∀ us : List Value, us.length = ps.length → bindArgs fd ⟨us, []⟩ = pure (ps.zip us)) : Binds K fd ps [] := fun s us _ hl => by
  rw [List.append_nil] at hl ⊢
  exact .of_eq (h us hl)

/-- an exception of a callee reaches what this body wants of exceptions -/
def Passes (CX : CXT) (X : Cx) (E : XK) : Prop := ∀ (pins : List (Addr × Obj)) (σ : St) (H : Hp) (s : Shared) (e : Value) (s' : Shared), Inv X pins σ H s → CX X.stack H s E e s' → X.xe e s'

section
variable {X : Cx} {CX : CXT} {k : Nat} {f C : Addr} {fd : FuncData} {ps : List Str} {sp : Sp} {dvs : List V} {ds : List Value} {E : XK} {x m : Str} {p pos apos : Pos} {e o : Expr} {es : List Expr} {ta : TE} {t : TA}

/-- the callee runs -/
theorem run_fn {pins : List (Addr × Obj)} {σ : St} {H : Hp} {s : Shared} {Q : VK} {us : List Value} {vs : List V} (F : FnOk X.prog X.w X.K X.mg X.base CX k f fd ps sp) (hr : Room k X.A) (hb : Binds X.K fd ps ds) (hd : Vals dvs ds) (hx : Passes CX X E)
    (I : Inv X pins σ H s) (r : Vals vs us) (h : sp (vs ++ dvs) H Q E) : wpAny (model X.prog X.w) X.A (call (.ref f) us) (EP X pins σ Q) X.xe s := by
  have r2 : Vals (vs ++ dvs) (us ++ ds) := r.append hd
  have hl : (us ++ ds).length = ps.length := by rw [← r2.length]; exact F.len _ _ _ _ h
  refine wpAny_call (codeAny_mono (F.run X.A X.stack s H ⟨us, []⟩ (us ++ ds) (vs ++ dvs) Q E hr I.env0 (hb s us I.kIn hl) r2 h) fun r s' hq => ?_)
  cases r with
  | error e => exact hx pins σ H s e s' I hq
  | ok fl =>
    cases fl with
    | ret u => exact I.after hq
    | next => exact False.elim hq
    | brk => exact False.elim hq
    | cont => exact False.elim hq

theorem pe_call (F : FnOk X.prog X.w X.K X.mg X.base CX k f fd ps sp) (hr : Room k X.A) (hg : Gl X x) (hm : X.mg x = some (.ref f)) (hk : PySem.W.keepIn X.K (.ref f) = true) (hb : Binds X.K fd ps ds) (hd : Vals dvs ds) (hx : Passes CX X E)
    (ha : PA X (e :: es) t) (hdb : (x == ("__debug__" : Str)) = false := by decide) (he : starEach (e :: es) X.env = (false, eval e X.env) :: starEach es X.env := by rfl) (hpl : (backTo pos (starEach es X.env)).any (·.1) = false := by rfl) :
    PE X (.Call (.Name x p) (e :: es) [] pos) (tCall sp dvs E t) := by
  intro pins s σ H Q I h
  refine wpAny_Call_Name_kw (ld_glob I hg hm ?_ hdb)
  refine PySem.W.callWith_K (h₀ := X.base) I.ok.mod.kin hk (thn (ha pos pins s σ H _ I h) fun us s1 ⟨vs, H1, I1, r, q⟩ => ⟨I1.kIn, ?_⟩) he hpl
  exact run_fn F hr hb hd hx I1 r q
theorem pe_call0 (F : FnOk X.prog X.w X.K X.mg X.base CX k f fd ps sp) (hr : Room k X.A) (hg : Gl X x) (hm : X.mg x = some (.ref f)) (hk : PySem.W.keepIn X.K (.ref f) = true) (hb : Binds X.K fd ps ds) (hd : Vals dvs ds) (hx : Passes CX X E)
    (hdb : (x == ("__debug__" : Str)) = false := by decide) : PE X (.Call (.Name x p) [] [] pos) (tCall sp dvs E tNil) := by
  intro pins s σ H Q I h
  refine wpAny_Call_Name_kw (ld_glob I hg hm ?_ hdb)
  exact PySem.W.callWith_K0 I.kIn hk (run_fn (us := []) F hr hb hd hx I .nil h)

/-- o.m(e, ..) -/
theorem pe_meth {pl : Sem Bool} (he : PE X o ta) (c : Cls X.K C) (hm : Meth X.K C m f) (F : FnOk X.prog X.w X.K X.mg X.base CX k f fd ps sp) (hr : Room k X.A) (hb : Binds X.K fd ps ds) (hd : Vals dvs ds) (hx : Passes CX X E) (ha : PA X (e :: es) t)
    (hst : starEach (e :: es) X.env = (false, eval e X.env) :: starEach es X.env := by rfl) (hpl : (backTo pos (starEach es X.env)).any (·.1) = false := by rfl)
    (ht : eval (.Call (.Attribute o m apos) (e :: es) [] pos) X.env = (do
      let ov ← eval o X.env
      standAt apos.atName
      let (f, first) ← holding [ov] (getMethod ov m pl)
      callWith pos f first (backTo pos (starEach (e :: es) X.env)) (backToKw pos (keywordEach [] X.env))) := by rfl) :
    PE X (.Call (.Attribute o m apos) (e :: es) [] pos) (tMeth C m sp dvs E ta t) := by
  intro pins s σ H Q I h
  refine PySem.W.methodCall_KW (pl := pl) (thn (he pins s σ H _ I h) fun u s1 ⟨x, H1, I1, rx, a, dx, fs, ex, ea, l, q⟩ => ?_) ht
  subst ex
  obtain rfl : u = Value.ref a := rx
  refine getmeth_ok I1 ea c hm l ?_
  refine PySem.W.callWith_K (first := [.ref a]) (h₀ := X.base) I.ok.mod.kin hm.kp (thn (ha pos pins s1 σ H1 _ I1 q) fun us s2 ⟨vs, H2, I2, r, q2⟩ => ⟨I2.kIn, ?_⟩) hst hpl
  exact run_fn (us := .ref a :: us) (vs := .ref a :: vs) F hr hb hd hx I2 (.cons rfl r) q2
/-- o.m() -/
theorem pe_meth0 {pl : Sem Bool} (he : PE X o ta) (c : Cls X.K C) (hm : Meth X.K C m f) (F : FnOk X.prog X.w X.K X.mg X.base CX k f fd ps sp) (hr : Room k X.A) (hb : Binds X.K fd ps ds) (hd : Vals dvs ds) (hx : Passes CX X E)
    (ht : eval (.Call (.Attribute o m apos) [] [] pos) X.env = (do
      let ov ← eval o X.env
      standAt apos.atName
      let (f, first) ← holding [ov] (getMethod ov m pl)
      callWith pos f first (backTo pos (starEach [] X.env)) (backToKw pos (keywordEach [] X.env))) := by rfl) :
    PE X (.Call (.Attribute o m apos) [] [] pos) (tMeth C m sp dvs E ta tNil) := by
  intro pins s σ H Q I h
  refine PySem.W.methodCall_KW (pl := pl) (thn (he pins s σ H _ I h) fun u s1 ⟨x, H1, I1, rx, a, dx, fs, ex, ea, l, q⟩ => ?_) ht
  subst ex
  obtain rfl : u = Value.ref a := rx
  refine getmeth_ok I1 ea c hm l ?_
  exact PySem.W.callWith_K0 (first := [.ref a]) I1.kIn hm.kp (run_fn (us := [.ref a]) (vs := [.ref a]) F hr hb hd hx I1 (.cons rfl .nil) q)

/-- what a class must have to be made -/
structure Mk (K : PySem.W.Frag) (C f : Addr) : Prop where
  makes : PySem.W.makesIn K C = true
  init : PySem.W.findIn K (.ref C) "__init__" = some (some (.ref f))
  fn : PySem.W.isFn K (.ref f) = true
  kp : PySem.W.keepIn K (.ref C) = true

theorem run_make {pins : List (Addr × Obj)} {σ : St} {H : Hp} {s : Shared} {Q : VK} {us : List Value} {vs : List V} (M : Mk X.K C f) (F : FnOk X.prog X.w X.K X.mg X.base CX k f fd ps sp) (hr : Room (k + 1) X.A) (hb : Binds X.K fd ps ds) (hd : Vals dvs ds)
    (hx : Passes CX X E) (I : Inv X pins σ H s) (r : Vals vs us)
    (h : ∀ x dx, H x = none → H dx = none → dx ≠ x → sp (.ref x :: (vs ++ dvs)) (upd (upd H dx (.own x)) x (.ins C dx [])) (fun v H2 => v = .non ∧ Q (.ref x) H2) E) :
    wpAny (model X.prog X.w) X.A (call (.ref C) us) (EP X pins σ Q) X.xe s := by
  have hq := h (s.heap.objs.size + 1) s.heap.objs.size (I.hok.fresh (Nat.le_succ _)) (I.hok.fresh (Nat.le_refl _)) (Nat.ne_of_lt (Nat.lt_succ_self _))
  have I2 := Inv.made (C := C) I
  have r2 : Vals (V.ref (s.heap.objs.size + 1) :: (vs ++ dvs)) (Value.ref (s.heap.objs.size + 1) :: (us ++ ds)) := .cons rfl (r.append hd)
  have hl : (Value.ref (s.heap.objs.size + 1) :: us ++ ds).length = ps.length := by
    have e := r2.length
    rw [F.len _ _ _ _ hq] at e
    exact e.symm
  refine wpAny_call (make_map (f := f) I.kIn M.makes M.init (beq_iff_eq.mp M.fn) (codeAny_mono (F.run _ X.stack _ _ ⟨Value.ref (s.heap.objs.size + 1) :: us, []⟩ (Value.ref (s.heap.objs.size + 1) :: (us ++ ds)) _ _ E (hr.make C us [])
    (I2.env0.make C us []) (hb _ (Value.ref (s.heap.objs.size + 1) :: us) I2.kIn hl) r2 hq) fun r s' hq' => ?_))
  cases r with
  | error e => exact hx pins σ _ _ e s' I2 hq'
  | ok fl =>
    cases fl with
    | ret u =>
      obtain ⟨v, H', I3, rv, ev, q3⟩ := I2.after hq'
      subst ev
      exact ⟨rv, ⟨V.ref (s.heap.objs.size + 1), H', I3, rfl, q3⟩⟩
    | next => exact False.elim hq'
    | brk => exact False.elim hq'
    | cont => exact False.elim hq'
theorem pe_make (M : Mk X.K C f) (F : FnOk X.prog X.w X.K X.mg X.base CX k f fd ps sp) (hr : Room (k + 1) X.A) (hg : Gl X x) (hm : X.mg x = some (.ref C)) (hb : Binds X.K fd ps ds) (hd : Vals dvs ds) (hx : Passes CX X E)
    (ha : PA X (e :: es) t) (hdb : (x == ("__debug__" : Str)) = false := by decide) (he : starEach (e :: es) X.env = (false, eval e X.env) :: starEach es X.env := by rfl) (hpl : (backTo pos (starEach es X.env)).any (·.1) = false := by rfl) :
    PE X (.Call (.Name x p) (e :: es) [] pos) (tMake C sp dvs E t) := by
  intro pins s σ H Q I h
  refine wpAny_Call_Name_kw (ld_glob I hg hm ?_ hdb)
  refine PySem.W.callWith_K (h₀ := X.base) I.ok.mod.kin M.kp (thn (ha pos pins s σ H _ I h) fun us s1 ⟨vs, H1, I1, r, q⟩ => ⟨I1.kIn, ?_⟩) he hpl
  exact run_make M F hr hb hd hx I1 r q
theorem pe_make0 (M : Mk X.K C f) (F : FnOk X.prog X.w X.K X.mg X.base CX k f fd ps sp) (hr : Room (k + 1) X.A) (hg : Gl X x) (hm : X.mg x = some (.ref C)) (hb : Binds X.K fd ps ds) (hd : Vals dvs ds) (hx : Passes CX X E)
    (hdb : (x == ("__debug__" : Str)) = false := by decide) : PE X (.Call (.Name x p) [] [] pos) (tMake C sp dvs E tNil) := by
  intro pins s σ H Q I h
  refine wpAny_Call_Name_kw (ld_glob I hg hm ?_ hdb)
  exact PySem.W.callWith_K0 I.kIn M.kp (run_make (us := []) M F hr hb hd hx I .nil h)
end

/-! ### keywords -/
/-- the values of the keywords, from the left -/
def PK (X : Cx) (kws : List Keyword) (t : TA) : Prop :=
  ∀ (pos : Pos) (pins : List (Addr × Obj)) (s : Shared) (σ : St) (H : Hp) (Q : List V → Hp → Prop), Inv X pins σ H s → t σ H Q → wpAny (model X.prog X.w) X.A (evalAll ((backToKw pos (keywordEach kws X.env)).map (·.2))) (AP X pins σ Q) X.xe s
section
variable {X : Cx} {CX : CXT} {k : Nat} {f C : Addr} {fd : FuncData} {ps ks : List Str} {sp : Sp} {E : XK} {x m : Str} {p pos apos kpos : Pos} {e o : Expr} {es : List Expr} {kws : List Keyword} {te ta : TE} {t tk : TA} {nm : Option Str}
theorem pk_nil : PK X [] tNil := fun _ _ _ _ H Q I h => wpAny_evalAll_nil ⟨[], H, I, .nil, h⟩
theorem pk_cons (ha : PE X e te) (hr : PK X kws t) : PK X (⟨nm, e, kpos⟩ :: kws) (tCons te t) := by
  intro pos pins s σ H Q I h
  show wpAny _ _ (evalAll ((do let v ← eval e X.env; standAt pos; pure v) :: (backToKw pos (keywordEach kws X.env)).map (·.2))) _ _ s
  refine wpAny_evalAll_cons (wpAny_bind (thn (ha pins s σ H _ I h) fun u s1 ⟨x, H1, I1, r1, q1⟩ => wpAny_bind (wpAny_standAt (wpAny_pure ?_))))
  exact thn (hr pos pins s1 σ H1 _ I1 q1) fun us s2 ⟨xs, H2, I2, r2, q2⟩ => ⟨x :: xs, H2, I2, .cons r1 r2, q2⟩

/-- how a call with keywords binds: g puts the positional values us and the keywords' values ws (names ks) in the parameters' order, defaults among them -/
structure KBinds (K : PySem.W.Frag) (fd : FuncData) (ps ks : List Str) (g : List Value → List Value → List Value) (gV : List V → List V → List V) : Prop where
  to : ∀ (s : Shared) (us ws : List Value), K.In s.heap → (g us ws).length = ps.length → BindsTo s fd ⟨us, ks.zip ws⟩ (ps.zip (g us ws))
  rel : ∀ {vs : List V} {us : List Value} {zs : List V} {ws : List Value}, Vals vs us → Vals zs ws → Vals (gV vs zs) (g us ws)
def tCallK (sp : Sp) (gV : List V → List V → List V) (E : XK) (t tk : TA) : TE := fun σ H Q => t σ H fun vs H1 => tk σ H1 fun zs H2 => sp (gV vs zs) H2 Q E
variable {g : List Value → List Value → List Value} {gV : List V → List V → List V}
theorem run_fnk {pins : List (Addr × Obj)} {σ : St} {H : Hp} {s : Shared} {Q : VK} {us ws : List Value} {vs zs : List V} (F : FnOk X.prog X.w X.K X.mg X.base CX k f fd ps sp) (hr : Room k X.A) (hb : KBinds X.K fd ps ks g gV) (hx : Passes CX X E)
    (I : Inv X pins σ H s) (r : Vals vs us) (rz : Vals zs ws) (h : sp (gV vs zs) H Q E) : wpAny (model X.prog X.w) X.A (call (.ref f) us (ks.zip ws)) (EP X pins σ Q) X.xe s := by
  have r2 := hb.rel r rz
  have hl : (g us ws).length = ps.length := by rw [← r2.length]; exact F.len _ _ _ _ h
  refine wpAny_call (codeAny_mono (F.run X.A X.stack s H ⟨us, ks.zip ws⟩ (g us ws) (gV vs zs) Q E hr I.env0 (hb.to s us ws I.kIn hl) r2 h) fun r s' hq => ?_)
  cases r with
  | error e => exact hx pins σ H s e s' I hq
  | ok fl =>
    cases fl with
    | ret u => exact I.after hq
    | next => exact False.elim hq
    | brk => exact False.elim hq
    | cont => exact False.elim hq
/-- f(e, .., k = v, ..) -/
theorem pe_callK (F : FnOk X.prog X.w X.K X.mg X.base CX k f fd ps sp) (hr : Room k X.A) (hg : Gl X x) (hm : X.mg x = some (.ref f)) (hk : PySem.W.keepIn X.K (.ref f) = true) (hb : KBinds X.K fd ps ks g gV) (hx : Passes CX X E)
    (ha : PA X (e :: es) t) (hkw : PK X kws tk) (hall : (backToKw pos (keywordEach kws X.env)).all (·.1.isSome) = true := by rfl) (hks : (backToKw pos (keywordEach kws X.env)).filterMap (·.1) = ks := by rfl)
    (hdb : (x == ("__debug__" : Str)) = false := by decide) (he : starEach (e :: es) X.env = (false, eval e X.env) :: starEach es X.env := by rfl)
    (hpl : ((backTo pos (starEach (e :: es) X.env)).any (·.1) || (backToKw pos (keywordEach kws X.env)).any (·.1.isNone)) = false := by rfl) :
    PE X (.Call (.Name x p) (e :: es) kws pos) (tCallK sp gV E t tk) := by
  intro pins s σ H Q I h
  refine wpAny_Call_Name_kw (ld_glob I hg hm ?_ hdb)
  refine PySem.W.callWith_KW (h₀ := X.base) I.ok.mod.kin hk hall (thn (ha pos pins s σ H _ I h) fun us s1 ⟨vs, H1, I1, r, q⟩ => ?_) hpl he
  refine thn (hkw pos pins s1 σ H1 _ I1 q) fun ws s2 ⟨zs, H2, I2, rz, q2⟩ => ⟨I2.kIn, ?_⟩
  rw [hks]
  exact run_fnk F hr hb hx I2 r rz q2
end

/-! ### a def's body keeps its promise -/
/-- names: the parameters first -/
structure FnScope (N P : List Str) (sc : Scope) : Prop where
  kind : sc.kind = .function
  co : sc.isCoroutine = false
  gen : sc.isGenerator = false
  nd : N.Nodup
  pre : N.take P.length = P
  par : ∀ x ∈ P, sc.names.lookup x = some .local ∨ sc.names.lookup x = some .cell
  nofree : ∀ y ∈ sc.names, y.2 ≠ .free

theorem bindL_out {kindOf : Str → Option NameKind} {x : Str} : ∀ {binds : List (Str × Value)} {m : Str → Option Value}, (∀ v, (x, v) ∉ binds) → bindL kindOf binds m x = m x
  | [], _, _ => rfl
  | (n, v) :: r, m, h => by
    unfold bindL
    rw [bindL_out fun w hw => h w (List.mem_cons_of_mem _ hw)]
    split
    · have : x ≠ n := by rintro rfl; exact h v List.mem_cons_self
      simp [this]
    · rfl
theorem bindC_out {kindOf : Str → Option NameKind} {x : Str} : ∀ {binds : List (Str × Value)} {m : Str → Option Value}, (∀ v, (x, v) ∉ binds) → bindC kindOf binds m x = m x
  | [], _, _ => rfl
  | (n, v) :: r, m, h => by
    unfold bindC
    rw [bindC_out fun w hw => h w (List.mem_cons_of_mem _ hw)]
    split
    · rfl
    · have : x ≠ n := by rintro rfl; exact h v List.mem_cons_self
      simp [this]
theorem bindL_get {kindOf : Str → Option NameKind} {x : Str} {v : Value} : ∀ {P : List Str} {vs : List Value} {i : Nat} {m : Str → Option Value}, P.Nodup → P[i]? = some x → vs[i]? = some v → kindOf x = some .local →
    bindL kindOf (P.zip vs) m x = some v
  | [], _, _, _, _, h, _, _ => by simp at h
  | _ :: _, [], _, _, _, _, h, _ => by simp at h
  | p :: P, w :: vs, 0, m, nd, h1, h2, hk => by
    simp at h1 h2; subst h1; subst h2
    show bindL kindOf ((p, w) :: P.zip vs) m p = _
    unfold bindL
    rw [bindL_out fun v hv => (List.nodup_cons.mp nd).1 (List.of_mem_zip hv).1, if_pos hk]
    simp
  | p :: P, w :: vs, i + 1, m, nd, h1, h2, hk => by
    show bindL kindOf ((p, w) :: P.zip vs) m x = _
    unfold bindL
    exact bindL_get (i := i) (List.nodup_cons.mp nd).2 (by simpa using h1) (by simpa using h2) hk
theorem bindC_get {kindOf : Str → Option NameKind} {x : Str} {v : Value} : ∀ {P : List Str} {vs : List Value} {i : Nat} {m : Str → Option Value}, P.Nodup → P[i]? = some x → vs[i]? = some v → kindOf x ≠ some .local →
    bindC kindOf (P.zip vs) m x = some v
  | [], _, _, _, _, h, _, _ => by simp at h
  | _ :: _, [], _, _, _, _, h, _ => by simp at h
  | p :: P, w :: vs, 0, m, nd, h1, h2, hk => by
    simp at h1 h2; subst h1; subst h2
    show bindC kindOf ((p, w) :: P.zip vs) m p = _
    unfold bindC
    rw [bindC_out fun v hv => (List.nodup_cons.mp nd).1 (List.of_mem_zip hv).1, if_neg hk]
    simp
  | p :: P, w :: vs, i + 1, m, nd, h1, h2, hk => by
    show bindC kindOf ((p, w) :: P.zip vs) m x = _
    unfold bindC
    exact bindC_get (i := i) (List.nodup_cons.mp nd).2 (by simpa using h1) (by simpa using h2) hk

/-- the names' values at the entry -/
def start (N : List Str) (vs : List V) : St := vs.map some ++ List.replicate (N.length - vs.length) none

/-- the context of a def's body, at its entry; an exception leaves the frame, then lies as CX says -/
def cxOf (CX : CXT) (P : Program) (w : World) (K : PySem.W.Frag) (mg : Str → Option Value) (base : Heap) (N : List Str) (qual : Str) (scope : Scope) (f : Addr) (cd : Value) (A : Around) (outer : List Env) (s : Shared) (H : Hp) (E : XK) : Cx where
  prog := P
  w := w
  K := K
  mg := mg
  base := base
  A := A.deeper (envOfC qual scope s.heap.objs.size f cd)
  N := N
  s₀ := s
  H₀ := H
  env := envOfC qual scope s.heap.objs.size f cd
  outer := outer
  stack := envOfC qual scope s.heap.objs.size f cd :: outer
  ex := []
  calm := true
  fn := fun _ => true
  pn := []
  xe := fun e s' => wpAny (model P w) (A.deeper (envOfC qual scope s.heap.objs.size f cd)) (leaving (envOfC qual scope s.heap.objs.size f cd) e) (fun _ s'' => CX outer H s E e s'') (fun e' s'' => CX outer H s E e' s'') s'

theorem cell_has {sc : Scope} {n : Nat} {x : Str} (h : sc.names.lookup x = some .cell) : ∃ c, (cellsFrom n sc.names []).lookup x = some c := by
  have q := PySem.W.cellsFrom_some sc.names n [] (.inl h)
  exact Option.isSome_iff_exists.mp q

theorem inv_start {CX : CXT} {P : Program} {w : World} {K : PySem.W.Frag} {mg : Str → Option Value} {base : Heap} {N ps : List Str} {qual : Str} {scope : Scope} {f : Addr} {cd : Value} {A : Around} {outer : List Env} {s s1 : Shared} {H : Hp} {E : XK} {us : List Value} {vs : List V}
    (S : FnScope N ps scope) (hd : A.handled = none) (e0 : Env0 P w K mg base A outer s H) (hl : vs.length = ps.length) (r : Vals vs us)
    (x : InCallC s s.heap.objs.size (bindL (envOfC qual scope s.heap.objs.size f cd).kindOf (ps.zip us) fun _ => none) (cellsFrom (s.heap.objs.size + 1) scope.names []) (bindC (envOfC qual scope s.heap.objs.size f cd).kindOf (ps.zip us) fun _ => none) s1) :
    Inv (cxOf CX P w K mg base N qual scope f cd A outer s H E) [] (start N vs) H s1 := by
  have hpl : ps.length ≤ N.length := by have := congrArg List.length S.pre; rw [List.length_take] at this; omega
  obtain ⟨h1, tk, rfl, hk⟩ := x.done
  have noA : ∀ b : Addr, b ∉ (cxOf CX P w K mg base N qual scope f cd A outer s H E).ex := fun b z => absurd (show b ∈ ([] : List Addr) from z) (by simp)
  refine ⟨⟨e0.mod, S.kind, rfl, rfl, Nat.le_refl _, fun y z c h1 h2 => ?_, fun y hy => ?_, fun y c _ h => ?_, fun _ => hd, Around.frames_deeper e0.frames, .inr ⟨rfl, rfl⟩, fun b z => absurd z (noA b), e0.bs, e0.bsz, fun b _ _ => noA b, fun b z => absurd z (noA b), e0.funs, e0.frf⟩,
    rfl, e0.bare, Un.kept hk, ⟨_, x.toInCall.ns, fun i y v h1 h2 h3 => ?_⟩, fun y c h => ⟨_, x.cell y c h⟩, e0.hok.fresh (Nat.le_refl _), fun y c h => ?_, fun p hp => absurd (show p ∈ ([] : List (Addr × Obj)) from hp) (by simp), e0.hok.kept hk, ?_⟩
  · exact name_of_addr x.apart (PySem.mem_of_lookup h1) (PySem.mem_of_lookup h2)
  · have hy : scope.names.lookup y = some .cell ∨ scope.names.lookup y = some .free := hy
    rcases hy with hy | hy
    · exact cell_has hy
    · exact absurd rfl (S.nofree _ (PySem.mem_of_lookup hy))
  · exact Nat.le_of_lt (x.above y c (PySem.mem_of_lookup h))
  · have hi : i < vs.length := by
      unfold start at h2
      by_cases hi : i < vs.length
      · exact hi
      · rw [List.getElem?_append_right (by simpa using hi)] at h2
        rw [List.getElem?_replicate] at h2
        split at h2 <;> cases h2
    have ha : vs[i]? = some v := by
      unfold start at h2
      rw [List.getElem?_append_left (by simpa using hi), List.getElem?_map] at h2
      cases e : vs[i]? with
      | none => rw [e] at h2; cases h2
      | some a => rw [e] at h2; cases h2; rfl
    obtain ⟨u, hu, rv⟩ := r.get ha
    have hp : ps[i]? = some y := by
      rw [← S.pre, List.getElem?_take_of_lt (by omega)]; exact h1
    have ndP : ps.Nodup := by rw [← S.pre]; exact S.nd.sublist (List.take_sublist _ _)
    refine ⟨u, rv, ?_⟩
    rcases S.par y (List.mem_of_getElem? hp) with k | k
    · exact .inl ⟨k, bindL_get ndP hp hu k⟩
    · obtain ⟨c, e⟩ := cell_has (n := s.heap.objs.size + 1) k
      refine .inr ⟨.inl k, c, e, ?_⟩
      have q := x.cell y c e
      rw [bindC_get ndP hp hu (by show scope.names.lookup y ≠ _; rw [k]; decide)] at q
      exact q
  · exact e0.hok.fresh (Nat.le_of_lt (x.above y c (PySem.mem_of_lookup h)))
  · unfold start
    show _ = N.length
    rw [List.length_append, List.length_map, List.length_replicate]
    omega

/-- THE RULE: a def (or a method) of the text, by its body. The body's reading t is chosen for each entry; it is run at the parameters' values -/
theorem fn_of {CX : CXT} {P : Program} {w : World} {K : PySem.W.Frag} {mg : Str → Option Value} {base : Heap} {k : Nat} {f : Addr} {name qual : Str} {params : Arguments} {body : List Stmt} {scope : Scope} {dV kV doc pm cdv ct oc : Value} {an od : Option Addr}
    {osl : Array (Option Value)} {N ps : List Str} {sp : Sp} (lk : K.lookup f = some ⟨oc, od, .func (PySem.W.fnOf name qual params body scope dV kV doc pm an cdv ct), osl⟩) (hcd : PySem.W.codeIn K cdv qual = true) (S : FnScope N ps scope)
    (len : ∀ vs H Q E, sp vs H Q E → vs.length = ps.length)
    (hbody : ∀ (A : Around) (outer : List Env) (s : Shared) (H : Hp) (vs : List V) (Q : VK) (E : XK), Room k (A.deeper (envOfC qual scope s.heap.objs.size f cdv)) → sp vs H Q E →
      ∃ t, PSs (cxOf CX P w K mg base N qual scope f cdv A outer s H E) body t ∧ t { nx := fun _ H' => Q .non H', rt := Q } (start N vs) H) :
    FnOk P w K mg base CX (k + 1) f (PySem.W.fnOf name qual params body scope dV kV doc pm an cdv ct) ps sp := by
  refine ⟨len, fun A outer s H args us vs Q E hr e0 hb r hsp => ?_⟩
  have hl := len _ _ _ _ hsp
  have KX : K.In s.heap := e0.mod.kin.keeps fun b o e => (e0.bs b o e).1
  have lim : s.heap.NoLimit := e0.mod.nolimit.keeps fun b o e => (e0.bs b o e).1
  have hkind : ∀ y ∈ ps.zip us, scope.names.lookup y.1 = some .local ∨ (scope.names.lookup y.1 = some .cell ∧ ((cellsFrom (s.heap.objs.size + 1) scope.names []).lookup y.1).isSome = true) := fun ⟨n, v⟩ hy => by
    rcases S.par n (List.of_mem_zip hy).1 with q | q
    · exact .inl q
    · exact .inr ⟨q, PySem.W.cellsFrom_some _ _ _ (.inl q)⟩
  refine codeAny_call_function hr.depth (KX _ _ lk) rfl S.co S.gen rfl (PySem.W.codeRec_of KX hcd) (hb _ _ _ _ ?_)
  refine wpAny_newFunctionEnv_cells S.kind hkind fun env he s1 x => ?_
  subst he
  refine ⟨lim.keeps x.toInCall.keep, codeAny_func ?_⟩
  obtain ⟨t, ht, hq⟩ := hbody A outer s H vs Q E (hr.deeper _) hsp
  have I : Inv (cxOf CX P w K mg base N qual scope f cdv A outer s H E) [] (start N vs) H s1 := inv_start S hr.hd e0 hl r x
  refine wpAny_mono (ht [] s1 (start N vs) H _ I hq) (fun fl s' hs => ?_) fun e s' hs => hs
  have fin : ∀ {σ' : St} {H' : Hp} {v : V} {u : Value}, Inv (cxOf CX P w K mg base N qual scope f cdv A outer s H E) [] σ' H' s' → RelV v u → Q v H' → CE outer P w H s Q u s' :=
    fun {σ' H' v u} J rv q => ⟨v, H', J.os, J.bare, J.base, J.hok, rv, q⟩
  cases fl with
  | ret u =>
    obtain ⟨v, σ', H', J, rv, q⟩ := hs
    exact fin J rv q
  | next =>
    obtain ⟨σ', H', J, q⟩ := hs
    exact fin (v := V.non) (u := Value.none) J rfl q
  | brk =>
    obtain ⟨_, _, _, q⟩ := hs
    exact False.elim q
  | cont =>
    obtain ⟨_, _, _, q⟩ := hs
    exact False.elim q
end L2

namespace L2
open PySem PySem.Spec PyProof.Rows
section
variable {X : Cx} {x : Str} {p pos : Pos} {e : Expr} {es : List Expr} {t : TA} {id T : String} {r : List V → Hp → VK → Prop}

def tCB (r : List V → Hp → VK → Prop) (t : TA) : TE := fun σ H Q => t σ H fun vs H1 => r vs H1 Q
/-- f(e, ..), f a built-in function -/
theorem pe_callB (hc : CallR X (.builtin id) r) (hg : Gl X x) (hm : X.mg x = none) (hv : bootBuiltins x = some (.builtin id)) (ha : PA X (e :: es) t) (hn : x ≠ "__name__" := by decide) (hdb : (x == ("__debug__" : Str)) = false := by decide)
    (he : starEach (e :: es) X.env = (false, eval e X.env) :: starEach es X.env := by rfl) (hpl : (backTo pos (starEach es X.env)).any (·.1) = false := by rfl) : PE X (.Call (.Name x p) (e :: es) [] pos) (tCB r t) := by
  intro pins s σ H Q I h
  refine wpAny_Call_Name_kw (ld_blt I hg hm hv ?_ hn hdb)
  exact PyProof.Rows.callWith_builtin1 (thn (ha pos pins s σ H _ I h) fun us s1 ⟨vs, H1, I1, r1, q1⟩ => hc pins s1 σ H1 vs us Q I1 r1 q1) he hpl
/-- T(e, ..), T a built-in type -/
theorem pe_callTy (hc : CallR X (.type T) r) (hg : Gl X x) (hm : X.mg x = none) (hv : bootBuiltins x = some (.type T)) (ha : PA X (e :: es) t) (hn : x ≠ "__name__" := by decide) (hdb : (x == ("__debug__" : Str)) = false := by decide)
    (he : starEach (e :: es) X.env = (false, eval e X.env) :: starEach es X.env := by rfl) (hpl : (backTo pos (starEach es X.env)).any (·.1) = false := by rfl) : PE X (.Call (.Name x p) (e :: es) [] pos) (tCB r t) := by
  intro pins s σ H Q I h
  refine wpAny_Call_Name_kw (ld_blt I hg hm hv ?_ hn hdb)
  exact PyProof.Rows.callWith_type1 (thn (ha pos pins s σ H _ I h) fun us s1 ⟨vs, H1, I1, r1, q1⟩ => hc pins s1 σ H1 vs us Q I1 r1 q1) he hpl
/-- T() -/
theorem pe_callTy0 (hc : CallR X (.type T) r) (hg : Gl X x) (hm : X.mg x = none) (hv : bootBuiltins x = some (.type T)) (hn : x ≠ "__name__" := by decide) (hdb : (x == ("__debug__" : Str)) = false := by decide) :
    PE X (.Call (.Name x p) [] [] pos) (tCB r tNil) := by
  intro pins s σ H Q I h
  refine wpAny_Call_Name_kw (ld_blt I hg hm hv ?_ hn hdb)
  exact PyProof.Rows.callWith_type0 (hc pins s σ H [] [] Q I .nil h)
end
end L2

namespace HT
open PySem PyProof.Rows

/-- t < u of tuples of ints -/
def lexLt : List Int → List Int → Bool
  | [], [] => false
  | [], _ :: _ => true
  | _ :: _, [] => false
  | x :: xs, y :: ys => if x = y then lexLt xs ys else decide (x < y)
theorem lexLt_cons (x y : Int) (xs ys : List Int) : lexLt (x :: xs) (y :: ys) = if x = y then lexLt xs ys else decide (x < y) := rfl
theorem lexLt_nil_nil : lexLt [] [] = false := rfl
theorem lexLt_nil_cons (y : Int) (ys : List Int) : lexLt [] (y :: ys) = true := rfl
theorem lexLt_cons_nil (x : Int) (xs : List Int) : lexLt (x :: xs) [] = false := rfl

theorem eqAt_int (A : Around) (s : Shared) (a : Int) (t : Tok) (c : Int) (u : Tok) : ∃ e, SeqAt.EqAt A s (.int a t) (.int c u) e ∧ (e = true ↔ a = c) :=
  ⟨(a == c), SeqAt.EqAt.int_int a t c u, by simp⟩
theorem rcLt_int (A : Around) (s : Shared) (a : Int) (t : Tok) (c : Int) (u : Tok) (prog : Program) (w : World) (E : Value → Shared → Prop) (Q : Value → Shared → Prop) (h : Q (.bool (decide (a < c))) s) :
    wpAny (model prog w) A (richCompare .Lt (.int a t) (.int c u)) Q E s :=
  (PyProof.Rows.lt_int h : wpAny (model prog w) A (compareOp .Lt (.int a t) (.int c u)) Q E s)

section
open PySem.SeqAt
open PySem.AutoSeq1 (wpAny_loadPart')
open PySem.MeetsSeq PySem.MeetsSeq2 PySem.MeetsSeq3

theorem tuple_lt_ints (l b : Addr) (items items2 : Array Value) (n n2 : Nat) (dd dd2 : Option Addr) (sl sl2 : Array (Option Value)) (ns ms : List Int) (hi : IntsAre items.toList ns) (hj : IntsAre items2.toList ms) :
    Meets (Builtin.«tuple.__lt__» ⟨[.ref l, .ref b], []⟩)
      (fun _ R s => s.heap.get? l = some { cls := .type "tuple", dict := dd, data := .seq items n, slots := sl } ∧ s.heap.get? b = some { cls := .type "tuple", dict := dd2, data := .seq items2 n2, slots := sl2 } ∧
        R (.ok (.ret (.bool (lexLt ns ms)))) s) :=
  .of_wp fun prog w A R s h => by
    obtain ⟨hp, g, d, tk, os⟩ := s; obtain ⟨hl, hb, h⟩ := h
    have f2 := AutoSeq1.sub_tuple_tuple
    have z1 : items.size = ns.length := by rw [← hi.length]; simp
    have z2 : items2.size = ms.length := by rw [← hj.length]; simp
    wp_walk using wpAny_loadPart' hl, wpAny_loadPart' hb, wpAny_forIn_list _ (fun rest b s' => b.1 = none ∧ s' = ⟨hp, g, d, tk, os⟩ ∧ ∃ (vs ws : List Value) (ns' ms' : List Int), rest = vs.zip ws ∧
      IntsAre vs ns' ∧ IntsAre ws ms' ∧ ns'.length + items2.size = ms'.length + items.size ∧ R (.ok (.ret (.bool (lexLt ns' ms')))) ⟨hp, g, d, tk, os⟩) _
    case turn =>
      rintro ⟨y, x⟩ rest b s' ⟨hb', rfl, vs, ws, ns', ms', hz, hvi, hwi, hlen, hR⟩
      cases hvi with
      | nil => rw [List.zip_nil_left] at hz; cases hz
      | cons a t hvi' =>
        cases hwi with
        | nil => rw [List.zip_nil_right] at hz; cases hz
        | cons c u hwi' =>
          rw [List.zip_cons_cons] at hz
          injection hz with hyx hrest
          injection hyx with hy hx
          subst hy hx
          rw [lexLt_cons] at hR
          simp only [List.length_cons] at hlen
          obtain ⟨e, he, hiff⟩ := eqAt_int A.in1 ⟨hp, g, d, tk, os⟩ a t c u
          refine wpAny_bind (he prog w _ _ ?_)
          cases e with
          | true =>
            rw [if_pos (hiff.mp rfl)] at hR
            wp_walk
            exact ⟨rfl, rfl, _, _, _, _, hrest, hvi', hwi', by omega, hR⟩
          | false =>
            rw [if_neg (fun q => absurd (hiff.mpr q) Bool.false_ne_true)] at hR
            have hri := rcLt_int A.in1 ⟨hp, g, d, tk, os⟩ a t c u prog w
            wp_walk using hri
            exact ⟨_, rfl, by simpa using hR⟩
    case fin =>
      rintro ⟨b1, b2⟩ s' ⟨hb', rfl, vs, ws, ns', ms', hz, hvi, hwi, hlen, hR⟩
      simp only at hb'
      subst hb'
      have hv : lexLt ns' ms' = decide (items.size < items2.size) := by
        cases hvi with
        | nil =>
          cases hwi with
          | nil =>
            simp only [List.length_nil] at hlen
            rw [lexLt_nil_nil]
            exact (decide_eq_false (by omega)).symm
          | cons c u hw =>
            simp only [List.length_nil, List.length_cons] at hlen
            rw [lexLt_nil_cons]
            exact (decide_eq_true (by omega)).symm
        | cons a t hv =>
          cases hwi with
          | nil =>
            simp only [List.length_nil, List.length_cons] at hlen
            rw [lexLt_cons_nil]
            exact (decide_eq_false (by omega)).symm
          | cons c u hw =>
            rw [List.zip_cons_cons] at hz
            cases hz
      rw [hv] at hR
      wp_walk
      exact ⟨_, rfl, by simpa [Builtin.Tuple.tupleCompareSizes] using hR⟩
    case h =>
      exact ⟨rfl, rfl, items.toList, items2.toList, ns, ms, rfl, hi, hj, by omega, h⟩
end

section
variable {prog : Program} {w : World} {A : Around} {E : Value → Shared → Prop} {s : Shared}

theorem lt_tupInts {l b : Addr} {items items2 : Array Value} {ns ms : List Int} {Q : Value → Shared → Prop} (hl : IsTup s.heap l items) (hb : IsTup s.heap b items2) (hi : IntsAre items.toList ns) (hj : IntsAre items2.toList ms)
    (hu : A.units < cLine) (h : Q (.bool (lexLt ns ms)) s) : wpAny (model prog w) A (compareOp .Lt (.ref l) (.ref b)) Q E s := by
  obtain ⟨⟨cls, dd, data, sl⟩, ho, hc, n, hd⟩ := id hl
  obtain ⟨⟨cls2, dd2, data2, sl2⟩, ho2, hc2, n2, hd2⟩ := id hb
  simp only at hc hd hc2 hd2
  subst hc hd hc2 hd2
  exact richCompare_meets_room (op := .Lt) ⟨_, ho, rfl⟩ ⟨_, ho2, rfl⟩ PySem.F.slot_tuple_lt PySem.F.entry_tuple_lt (PySem.F.args_tuple_lt_2 _ _) (tuple_lt_ints l b items items2 n n2 dd dd2 sl sl2 ns ms hi hj)
    ⟨ho, ho2, show Value.bool (lexLt ns ms) ≠ Value.notImplemented ∧ Q (.bool (lexLt ns ms)) s from ⟨(fun x => nomatch x), h⟩⟩ hu

/-- t + u, t not empty -/
theorem cat_tup {t b : Addr} {vs ws : List Value} {Q : Value → Shared → Prop} (ht : IsTup s.heap t vs.toArray) (hb : IsTup s.heap b ws.toArray) (hv : vs ≠ [])
    (h1 : ws = [] → Q (.ref t) s) (h2 : ws ≠ [] → Q (.ref s.heap.objs.size) { s with heap := s.heap.push { cls := .type "tuple", data := .seq (vs ++ ws).toArray } })
    (hsz : vs.length + ws.length ≤ sizeLine) : wpAny (model prog w) A (binaryOp .Add (.ref t) (.ref b)) Q E s := by
  obtain ⟨⟨cls, dd, data, sl⟩, ho, hc, n, hd⟩ := id ht
  obtain ⟨⟨cls2, dd2, data2, sl2⟩, ho2, hc2, n2, hd2⟩ := id hb
  simp only at hc hd hc2 hd2
  subst hc hd hc2 hd2
  have e : vs.toArray ++ ws.toArray = (vs ++ ws).toArray := by simp
  by_cases hw : ws = []
  · exact concat_meets ⟨_, ho, rfl⟩ ⟨_, ho2, rfl⟩ noFill_tuple_add seq_tuple_add PySem.F.slot_tuple_add PySem.F.entry_tuple_add (PySem.F.args_tuple_add_2 _ _)
      (tuple_addW1 t b vs.toArray ws.toArray n n2 dd dd2 sl sl2 (by simpa using hv) (by simp [hw])) ⟨ho, ho2, h1 hw⟩
  · refine concat_meets ⟨_, ho, rfl⟩ ⟨_, ho2, rfl⟩ noFill_tuple_add seq_tuple_add PySem.F.slot_tuple_add PySem.F.entry_tuple_add (PySem.F.args_tuple_add_2 _ _)
      (tuple_addW2 t b vs.toArray ws.toArray n n2 dd dd2 sl sl2 (by simpa using hv) (by simpa using hw) (by rw [List.size_toArray, List.size_toArray]; exact hsz)) ⟨ho, ho2, ?_⟩
    rw [e]
    exact h2 hw

/-! ### t[a:b], not the whole -/
/-- a slice's bound as a place among n (d where it is left out) -/
def sIx (n d : Nat) : Option Int → Nat
  | none => d
  | some v => if v < 0 then (v + (n : Int)).toNat else min v.toNat n
theorem sIx_none (n d : Nat) : sIx n d none = d := rfl
theorem sIx_nat (n d k : Nat) : sIx n d (some (k : Int)) = min k n := by
  show (if (k : Int) < 0 then ((k : Int) + (n : Int)).toNat else min (k : Int).toNat n) = min k n
  rw [if_neg (by omega), Int.toNat_natCast]
theorem sIx_le (n d : Nat) (hd : d ≤ n) (o : Option Int) : sIx n d o ≤ n := by
  cases o with
  | none => exact hd
  | some v =>
    show (if v < 0 then (v + (n : Int)).toNat else min v.toNat n) ≤ n
    by_cases hv : v < 0
    · rw [if_pos hv]; omega
    · rw [if_neg hv]; exact Nat.min_le_right _ _
theorem clip_eq (v : Int) (n d : Nat) : (if v < 0 then max (v + (n : Int)) 0 else min v (n : Int)) = ((sIx n d (some v) : Nat) : Int) := by
  show (if v < 0 then max (v + (n : Int)) 0 else min v (n : Int)) = (((if v < 0 then (v + (n : Int)).toNat else min v.toNat n) : Nat) : Int)
  by_cases hv : v < 0
  · simp only [if_pos hv]; omega
  · simp only [if_neg hv]; omega
theorem adjust_gen (lo hi : Option Int) (n : Nat) : Builtin.Slice.sliceAdjust lo hi 1 (n : Int) = (((sIx n 0 lo : Nat) : Int), ((sIx n n hi : Nat) : Int)) := by
  have h1 : ¬ ((1 : Int) < 0) := by omega
  unfold Builtin.Slice.sliceAdjust
  simp only [h1, if_false]
  refine Prod.ext ?_ ?_
  · cases lo with
    | none => rfl
    | some v => exact clip_eq v n 0
  · cases hi with
    | none => rfl
    | some v => exact clip_eq v n n
theorem places_gen (i j : Nat) : Builtin.Slice.slicePlaces (i : Int) (j : Int) 1 = j - i := by
  unfold Builtin.Slice.slicePlaces
  have h1 : (1 : Int) > 0 := by omega
  simp only [h1, if_true, Int.ediv_one]
  split <;> omega
theorem slicePart_ {v : Value} {o : Option Int} {Q : Option Int → Shared → Prop} (p : IsPart v o) (h : Q o s) : wpAny (model prog w) A (Builtin.Slice.slicePartIndex v) Q E s := by
  cases p with
  | none => exact slicePart_none h
  | int i t => exact slicePart_int h
theorem sliceApplied_gen {sl : Addr} {vl vu : Value} {lo hi : Option Int} {n : Nat} {Q : Int × Int × Nat → Shared → Prop} (hs : s.heap.IsSliceOf sl vl vu .none) (pl : IsPart vl lo) (pu : IsPart vu hi)
    (h : Q (((sIx n 0 lo : Nat) : Int), 1, sIx n n hi - sIx n 0 lo) s) : wpAny (model prog w) A (Builtin.Slice.sliceApplied (.ref sl) (pure (n : Int))) Q E s := by
  obtain ⟨os, hos, hcs, hds⟩ := id hs
  unfold Builtin.Slice.sliceApplied Builtin.Slice.sliceFields
  refine wpAny_bind (wpAny_bind (wpAny_field hos hds (x := vl) rfl (wpAny_bind (wpAny_field hos hds (x := vu) rfl (wpAny_bind (wpAny_field hos hds (x := .none) rfl (wpAny_pure ?_)))))))
  refine wpAny_bind (slicePart_none ?_)
  show wpAny _ _ (if ((1 : Int) == 0) = true then _ else _) _ _ s
  rw [if_neg (by decide)]
  refine wpAny_bind (slicePart_ pl (wpAny_bind (slicePart_ pu (wpAny_bind (wpAny_pure ?_)))))
  show wpAny _ _ (match Builtin.Slice.sliceAdjust lo hi 1 (n : Int) with | (lo, hi) => pure (lo, (1 : Int), Builtin.Slice.slicePlaces lo hi 1)) _ _ s
  rw [adjust_gen lo hi n]
  show wpAny _ _ (pure (((sIx n 0 lo : Nat) : Int), (1 : Int), Builtin.Slice.slicePlaces ((sIx n 0 lo : Nat) : Int) ((sIx n n hi : Nat) : Int) 1)) _ _ s
  rw [places_gen]
  exact wpAny_pure h
theorem pick_gen (xs : Array Value) (i k : Nat) : ((List.range k).filterMap fun (m : Nat) => xs[((i : Int) + (m : Int) * 1).toNat]?).toArray = ((xs.toList.drop i).take k).toArray := by
  have e : (fun (m : Nat) => xs[((i : Int) + (m : Int) * 1).toNat]?) = fun m => xs[i + m]? := by
    funext m
    have : ((i : Int) + (m : Int) * 1).toNat = i + m := by omega
    rw [this]
  rw [e]
  have := pick_run xs i k
  rw [List.filterMap_map] at this
  have e2 : ((fun x => xs[x]?) ∘ fun x => i + x) = fun m => xs[i + m]? := rfl
  rw [e2] at this
  rw [this]

theorem getItem_tuple_cut {t sl : Addr} {items : Array Value} {vl vu : Value} {lo hi : Option Int} {Q : Value → Shared → Prop} (ht : IsTup s.heap t items) (hs : s.heap.IsSliceOf sl vl vu .none) (pl : IsPart vl lo) (pu : IsPart vu hi)
    (hw : ¬ (sIx items.size 0 lo = 0 ∧ sIx items.size items.size hi = items.size))
    (h : Q (.ref s.heap.objs.size) { s with heap := s.heap.push { cls := .type "tuple", data := .seq ((items.toList.drop (sIx items.size 0 lo)).take (sIx items.size items.size hi - sIx items.size 0 lo)).toArray } })
    (hsz : items.size ≤ sizeLine) : wpAny (model prog w) A (getItem (.ref t) (.ref sl)) Q E s := by
  have htake : sizeOk (.seq ((items.toList.drop (sIx items.size 0 lo)).take (sIx items.size items.size hi - sIx items.size 0 lo)).toArray) := by
    show ((items.toList.drop (sIx items.size 0 lo)).take (sIx items.size items.size hi - sIx items.size 0 lo)).toArray.size ≤ sizeLine
    rw [List.size_toArray, List.length_take, List.length_drop, Array.length_toList]
    omega
  have hj : sIx items.size items.size hi ≤ items.size := sIx_le _ _ (Nat.le_refl _) hi
  obtain ⟨os, hos, hcs, hds⟩ := id hs
  have hTs : s.TypeIs (.ref sl) "slice" := ⟨os, hos, hcs⟩
  unfold getItem
  try with_reducible refine wpAny_holding ?_
  first | refine wpAny_bind (wpAny_pure ?_) | skip
  refine wpAny_bind (wpAny_sequenceKey ht.typeIs (by decide) ?_)
  refine wpAny_bind (wpAny_callSpecial?_slot (name := Str.ofString "__getitem__") ht.typeIs PyProof.Rows.slot_tuple_getitem
    (wpAny_call_entry PyProof.Rows.slot_tuple_getitem ht.typeIs entry_tuple_getitem ?_ (args_tuple_getitem _ _)))
  show wpAny _ _ (Builtin.Tuple.tupleItemsOf (.ref t) >>= _) _ _ s
  refine wpAny_bind (tupleItemsOf_ ht ?_)
  refine wpAny_bind (wpAny_typeOf hTs ?_)
  rw [if_pos (by decide)]
  refine wpAny_bind (sliceApplied_gen hs pl pu ?_)
  have hno : ¬ ((((sIx items.size 0 lo : Nat) : Int) == 0 && (1 : Int) == 1 && (sIx items.size items.size hi - sIx items.size 0 lo) == items.size) = true) := by
    intro q
    rw [Bool.and_eq_true, Bool.and_eq_true] at q
    have q1 : ((sIx items.size 0 lo : Nat) : Int) = 0 := eq_of_beq q.1.1
    have q2 : sIx items.size items.size hi - sIx items.size 0 lo = items.size := eq_of_beq q.2
    exact hw ⟨by omega, by omega⟩
  show wpAny _ _ (if (((sIx items.size 0 lo : Nat) : Int) == 0 && (1 : Int) == 1 && (sIx items.size items.size hi - sIx items.size 0 lo) == items.size) = true then _ else _) _ _ s
  rw [if_neg hno, pick_gen]
  first
    | exact wpAny_bind (m := Builtin.Tuple.tupleExact _) (wpAny_newObj_type (wpAny_pure ⟨_, rfl, wpAny_pure h⟩) htake)
    | exact wpAny_bind (m := Builtin.Tuple.tupleExact _) (wpAny_newObj_type (wpAny_bind (wpAny_pure (wpAny_pure ⟨_, rfl, wpAny_pure h⟩))) htake)
    | exact wpAny_bind (wpAny_bind (m := Builtin.Tuple.tupleExact _) (wpAny_newObj_type (wpAny_pure (wpAny_pure ⟨_, rfl, wpAny_pure h⟩)) htake))
    | exact wpAny_bind (wpAny_bind (m := Builtin.Tuple.tupleExact _) (wpAny_newObj_type (wpAny_pure ⟨_, rfl, wpAny_pure h⟩) htake))
end
end HT

namespace L2
open PySem PySem.Spec PyProof.Rows

/-! ### the parts of a slice -/
abbrev TO := St → Hp → (Option Int → Hp → Prop) → Prop
/-- a slice's part (left out, or an int) -/
def PO (X : Cx) (e : Option Expr) (t : TO) : Prop :=
  ∀ (pins : List (Addr × Obj)) (s : Shared) (σ : St) (H : Hp) (Q : Option Int → Hp → Prop), Inv X pins σ H s → t σ H Q →
    wpAny (model X.prog X.w) X.A (evalPart e X.env) (fun u s' => ∃ o H', Inv X pins σ H' s' ∧ IsPart u o ∧ Q o H') X.xe s
def tNoPart : TO := fun _ H Q => Q none H
def tPart (t : TE) : TO := fun σ H Q => t σ H fun x H1 => ∃ i, x = .int i ∧ Q (some i) H1

theorem intsAre_of {ns : List Int} : ∀ {us : List Value}, Vals (ns.map V.int) us → IntsAre us ns := by
  induction ns with
  | nil => intro us r; rw [List.map_nil] at r; cases r; exact .nil
  | cons n ns ih =>
    intro us r
    rw [List.map_cons] at r
    cases r with
    | cons r1 r2 =>
      obtain ⟨t, e⟩ := r1
      subst e
      exact .cons n t (ih r2)

section
variable {X : Cx} {e : Expr} {te : TE} {lo hi : Option Expr} {tl th : TO} {pos p2 : Pos}

theorem po_none : PO X none tNoPart := by
  intro pins s σ H Q I h
  rw [evalPart_none]
  exact wpAny_pure ⟨none, H, I, .none, h⟩
theorem po_some (h : PE X e te) : PO X (some e) (tPart te) := by
  intro pins s σ H Q I hw
  rw [evalPart_some]
  refine thn (h pins s σ H _ I hw) fun u s1 ⟨x, H1, I1, r1, q1⟩ => ?_
  obtain ⟨i, rfl, q⟩ := q1
  obtain ⟨t, rfl⟩ := r1
  exact ⟨some i, H1, I1, .int i t, q⟩

/-- what a slice of a value is, by values: the slice object stands at sl -/
def SlR (X : Cx) (r : V → Option Int → Option Int → Hp → VK → Prop) : Prop :=
  ∀ (pins : List (Addr × Obj)) (s : Shared) (σ : St) (H : Hp) (x : V) (v vl vu : Value) (lo hi : Option Int) (sl : Addr) (Q : VK), Inv X pins σ H s → RelV x v → s.heap.IsSliceOf sl vl vu .none → IsPart vl lo → IsPart vu hi → r x lo hi H Q →
    ∃ T id, typeLookup (.type T) "__getitem__" = pure (some (.builtin id)) ∧ s.TypeIs v T ∧ wpAny (model X.prog X.w) X.A (getItem v (.ref sl)) (EP X pins σ Q) X.xe s
theorem SlR.or {r r' : V → Option Int → Option Int → Hp → VK → Prop} (h : SlR X r) (h' : SlR X r') : SlR X (fun x lo hi H Q => r x lo hi H Q ∨ r' x lo hi H Q) := by
  intro pins s σ H x v vl vu lo hi sl Q I rx hs pl pu q
  rcases q with q | q
  · exact h pins s σ H x v vl vu lo hi sl Q I rx hs pl pu q
  · exact h' pins s σ H x v vl vu lo hi sl Q I rx hs pl pu q
def tSl (r : V → Option Int → Option Int → Hp → VK → Prop) (te : TE) (tl th : TO) : TE := fun σ H Q => te σ H fun x H1 => tl σ H1 fun l H2 => th σ H2 fun u H3 => r x l u H3 Q
/-- a[lo:hi], any a -/
theorem pe_slice {r : V → Option Int → Option Int → Hp → VK → Prop} (hr : SlR X r) (he : PE X e te) (hl : PO X lo tl) (hu : PO X hi th) : PE X (.Subscript e (.Slice lo hi none p2) pos) (tSl r te tl th) := by
  intro pins s σ H Q I h
  refine Subscript_ (thn (he pins s σ H _ I h) fun v s1 ⟨x, H1, I1, r1, q1⟩ => ?_)
  refine wpAny_Slice (thn (hl pins s1 σ H1 _ I1 q1) fun vl s2 ⟨l, H2, I2, pl, q2⟩ => thn (hu pins s2 σ H2 _ I2 q2) fun vu s3 ⟨u, H3, I3, pu, q3⟩ => ?_)
  rw [evalPart_none]
  refine wpAny_pure ?_
  have I4 : Inv X pins σ H3 { s3 with heap := s3.heap.push { cls := .type "slice", data := .fields #[vl, vu, .none] } } := I3.kept (t' := s3.toks) fun b ob q => Heap.get?_push_of_some _ q
  obtain ⟨T, id, hT, ht, hg⟩ := hr pins { s3 with heap := s3.heap.push { cls := .type "slice", data := .fields #[vl, vu, .none] } } σ H3 x v vl vu l u s3.heap.objs.size Q I4 r1 (Heap.IsSliceOf.new ..) pl pu q3
  show wpAny (model X.prog X.w) X.A (subscriptTail e (.Slice lo hi none p2) v (.ref s3.heap.objs.size)) (EP X pins σ Q) X.xe { s3 with heap := s3.heap.push { cls := .type "slice", data := .fields #[vl, vu, .none] } }
  exact tail_any (ops := [.ref s3.heap.objs.size, v]) ht hT hg (by with_unfolding_all rfl)

/-- the items of xs[lo:hi] -/
def cutV (xs : List V) (lo hi : Option Int) : List V := (xs.drop (HT.sIx xs.length 0 lo)).take (HT.sIx xs.length xs.length hi - HT.sIx xs.length 0 lo)
theorem cutV_length (xs : List V) (lo hi : Option Int) : (cutV xs lo hi).length ≤ xs.length := by
  unfold cutV
  rw [List.length_take, List.length_drop]
  omega
/-- t[lo:hi], not the whole of it (the whole would be t itself) -/
def rSlT (K : PySem.W.Frag) : V → Option Int → Option Int → Hp → VK → Prop := fun x lo hi H Q => ∃ a xs, x = .ref a ∧ SqT K H a xs ∧
  ¬ (HT.sIx xs.length 0 lo = 0 ∧ HT.sIx xs.length xs.length hi = xs.length) ∧ ∀ p, H p = none → Q (.ref p) (upd H p (.tup (cutV xs lo hi)))
theorem sl_tup : SlR X (rSlT X.K) := by
  intro pins s σ H x v vl vu lo hi sl Q I rx hs pl pu h
  obtain ⟨a, xs, rfl, hx, hw, q⟩ := h
  cases rx
  obtain ⟨its, r, ht, hz⟩ := I.tuple hx
  have hlen : its.toArray.size = xs.length := by rw [List.size_toArray]; exact r.length.symm
  refine ⟨"tuple", _, PyProof.Rows.slot_tuple_getitem.lookup, ht.typeIs, ?_⟩
  refine HT.getItem_tuple_cut ht hs pl pu (by rw [hlen]; exact hw) ?_ (by rw [hlen]; exact hz)
  rw [hlen]
  refine ⟨.ref s.heap.objs.size, _, I.laid (t' := s.toks) (o := .tup (cutV xs lo hi)) (fun b ob q => Heap.get?_push_of_some _ q) (Nat.le_refl _) ?_, rfl, q _ (I.hok.fresh (Nat.le_refl _))⟩
  exact ⟨Nat.le_trans (cutV_length xs lo hi) hz, _, (r.drop (HT.sIx xs.length 0 lo)).take (HT.sIx xs.length xs.length hi - HT.sIx xs.length 0 lo), IsTup.new _ _⟩

/-! ### t < u, t + u -/
def rLtT (K : PySem.W.Frag) : R2 := fun x y H Q => ∃ a b ns ms, x = .ref a ∧ y = .ref b ∧ SqT K H a (ns.map V.int) ∧ SqT K H b (ms.map V.int) ∧ Q (.bl (HT.lexLt ns ms)) H
theorem op_ltT (hu : X.A.units < cLine) : OpR X (compareOp .Lt) (rLtT X.K) := by
  intro pins s σ H x y v u Q I rx ry h
  obtain ⟨a, b, ns, ms, rfl, rfl, ha, hb, q⟩ := h
  cases rx
  cases ry
  obtain ⟨its, r1, p1, _⟩ := I.tuple ha
  obtain ⟨its2, r2, p2, _⟩ := I.tuple hb
  have i1 : IntsAre its.toArray.toList ns := intsAre_of r1
  have i2 : IntsAre its2.toArray.toList ms := intsAre_of r2
  exact HT.lt_tupInts p1 p2 i1 i2 hu ⟨.bl (HT.lexLt ns ms), H, I, rfl, q⟩
/-- t + u, t not empty: u empty gives t itself -/
def rCatT (K : PySem.W.Frag) : R2 := fun x y H Q => ∃ a b xs ys, x = .ref a ∧ y = .ref b ∧ SqT K H a xs ∧ SqT K H b ys ∧ xs ≠ [] ∧ xs.length + ys.length ≤ sizeLine ∧
  (ys = [] → Q (.ref a) H) ∧ (ys ≠ [] → ∀ p, H p = none → Q (.ref p) (upd H p (.tup (xs ++ ys))))
theorem Vals.nil_iff {xs : List V} {us : List Value} (r : Vals xs us) : us = [] ↔ xs = [] := by
  cases r with
  | nil => simp
  | cons _ _ => simp
theorem op_catT : OpR X (binaryOp .Add) (rCatT X.K) := by
  intro pins s σ H x y v u Q I rx ry h
  obtain ⟨a, b, xs, ys, rfl, rfl, ha, hb, hx, hz, q1, q2⟩ := h
  cases rx
  cases ry
  obtain ⟨its, r1, p1, _⟩ := I.tuple ha
  obtain ⟨its2, r2, p2, _⟩ := I.tuple hb
  refine HT.cat_tup p1 p2 (fun z => hx (r1.nil_iff.mp z)) (fun z => ⟨.ref a, H, I, rfl, q1 (r2.nil_iff.mp z)⟩) (fun z => ?_) (by rw [← r1.length, ← r2.length]; exact hz)
  refine ⟨.ref s.heap.objs.size, _, I.laid (t' := s.toks) (o := .tup (xs ++ ys)) (fun b ob q => Heap.get?_push_of_some _ q) (Nat.le_refl _) ?_, rfl, q2 (fun w => z (r2.nil_iff.mpr w)) _ (I.hok.fresh (Nat.le_refl _))⟩
  exact ⟨by rw [List.length_append]; exact hz, _, r1.append r2, IsTup.new _ _⟩
/-- tuple(t) -/
theorem call_tupleT : CallR X (.type "tuple") (fun xs H Q => ∃ a ys, xs = [.ref a] ∧ SqT X.K H a ys ∧ Q (.ref a) H) := by
  intro pins s σ H xs us Q I r h
  obtain ⟨a, ys, rfl, ha, q⟩ := h
  obtain ⟨u, rfl, ru⟩ := vals1 r
  cases ru
  obtain ⟨its, _, p1, _⟩ := I.tuple ha
  exact call_tuple_same (items := its.toArray) p1 ⟨.ref a, H, I, rfl, q⟩
end
end L2

namespace L2
open PySem PySem.Spec PyProof.Rows

/-! ### places -/
/-- the place that an index of any sign means -/
def ixN (n : Nat) (i : Int) : Option Nat := if 0 ≤ i then (if i < n then some i.toNat else none) else if -(n : Int) ≤ i then some (i + n).toNat else none
def atI {α : Type} (xs : List α) (i : Int) : Option α := (ixN xs.length i).bind fun j => xs[j]?
theorem ixN_seq {n : Nat} {i : Int} {j : Nat} (h : ixN n i = some j) : seqIndex? i n = some j ∧ j < n ∧ -(n : Int) ≤ i ∧ i < n := by
  unfold ixN at h
  by_cases h0 : 0 ≤ i
  · rw [if_pos h0] at h
    by_cases h1 : i < n
    · rw [if_pos h1] at h
      have e : i.toNat = j := Option.some.inj h
      exact ⟨by rw [seqIndex_of h0 h1, e], by omega, by omega, h1⟩
    · rw [if_neg h1] at h; cases h
  · rw [if_neg h0] at h
    by_cases h1 : -(n : Int) ≤ i
    · rw [if_pos h1] at h
      have e : (i + n).toNat = j := Option.some.inj h
      exact ⟨by rw [seqIndex_neg (by omega) h1, e], by omega, h1, by omega⟩
    · rw [if_neg h1] at h; cases h
theorem atI_get {α : Type} {xs : List α} {i : Int} {v : α} (h : atI xs i = some v) : ∃ j, seqIndex? i xs.length = some j ∧ xs[j]? = some v ∧ j < xs.length ∧ -(xs.length : Int) ≤ i ∧ i < xs.length := by
  unfold atI at h
  cases e : ixN xs.length i with
  | none => rw [e] at h; cases h
  | some j =>
    rw [e] at h
    obtain ⟨h1, h2, h3, h4⟩ := ixN_seq e
    exact ⟨j, h1, h, h2, h3, h4⟩
theorem atI_nat {α : Type} {xs : List α} {j : Nat} {v : α} (h : xs[j]? = some v) : atI xs (j : Int) = some v := by
  have hj : j < xs.length := (List.getElem?_eq_some_iff.mp h).1
  have e : ixN xs.length (j : Int) = some j := by
    unfold ixN
    rw [if_pos (by omega), if_pos (by omega)]; simp
  unfold atI; rw [e]; exact h
theorem atI_last {α : Type} (xs : List α) (v : α) : atI (xs ++ [v]) (-1) = some v := by
  have hl : (xs ++ [v]).length = xs.length + 1 := by simp
  have e : ixN (xs ++ [v]).length (-1) = some xs.length := by
    unfold ixN
    rw [hl, if_neg (by decide), if_pos (by omega)]
    congr 1
    omega
  unfold atI
  rw [e]
  show (xs ++ [v])[xs.length]? = some v
  simp

/-! ### what may be subscripted -/
/-- what stands as an index of a plain subscript -/
def PlainIx (b : Expr) : Prop := ∀ o i, subscripted b false o i = operate [o, i] (getItem o i)
/-- a subscript by values -/
def IxR (X : Cx) (r : R2) : Prop :=
  ∀ (value slice : Expr) (pins : List (Addr × Obj)) (s : Shared) (σ : St) (H : Hp) (x y : V) (v u : Value) (Q : VK), Inv X pins σ H s → RelV x v → RelV y u → r x y H Q →
    subscripted slice false v u = operate [v, u] (getItem v u) → wpAny (model X.prog X.w) X.A (subscriptTail value slice v u) (EP X pins σ Q) X.xe s
/-- a call of a builtin's method by values: the receiver, the arguments -/
def MtR (X : Cx) (id : String) (r : V → List V → Hp → VK → Prop) : Prop :=
  ∀ (pins : List (Addr × Obj)) (s : Shared) (σ : St) (H : Hp) (x : V) (xs : List V) (v : Value) (us : List Value) (Q : VK), Inv X pins σ H s → RelV x v → Vals xs us → r x xs H Q →
    wpAny (model X.prog X.w) X.A (call (.builtin id) (v :: us)) (EP X pins σ Q) X.xe s
section
variable {X : Cx} {a b : Expr} {ta tb : TE} {pos : Pos}
theorem IxR.or {r r' : R2} (h : IxR X r) (h' : IxR X r') : IxR X (fun x y H Q => r x y H Q ∨ r' x y H Q) := by
  intro value slice pins s σ H x y v u Q I rx ry q hs
  rcases q with q | q
  · exact h value slice pins s σ H x y v u Q I rx ry q hs
  · exact h' value slice pins s σ H x y v u Q I rx ry q hs
theorem MtR.or {id : String} {r r' : V → List V → Hp → VK → Prop} (h : MtR X id r) (h' : MtR X id r') : MtR X id (fun x xs H Q => r x xs H Q ∨ r' x xs H Q) := by
  intro pins s σ H x xs v us Q I rx rs q
  rcases q with q | q
  · exact h pins s σ H x xs v us Q I rx rs q
  · exact h' pins s σ H x xs v us Q I rx rs q
/-- a[b] -/
theorem pe_ix {r : R2} (hr : IxR X r) (ha : PE X a ta) (hb : PE X b tb) (hs : PlainIx b) : PE X (.Subscript a b pos) (tOp r ta tb) := by
  intro pins s σ H Q I h
  exact Subscript_ (binT ha hb I h fun v u s2 x y H2 I2 rx ry q => hr a b pins s2 σ H2 x y v u Q I2 rx ry q (hs _ _))

def rIxL (K : PySem.W.Frag) : R2 := fun x y H Q => ∃ p xs i v, x = .ref p ∧ y = .int i ∧ SqL K H p xs ∧ atI xs i = some v ∧ Q v H
def rIxT (K : PySem.W.Frag) : R2 := fun x y H Q => ∃ p xs i v, x = .ref p ∧ y = .int i ∧ SqT K H p xs ∧ atI xs i = some v ∧ Q v H
def rIxS : R2 := fun x y H Q => ∃ z i c, x = .str z ∧ y = .int i ∧ z.length ≤ sizeLine ∧ atI z.cps.toList i = some c ∧ Q (.str ⟨#[c]⟩) H
theorem ix_list : IxR X (rIxL X.K) := by
  intro value slice pins s σ H x y v u Q I rx ry h hs
  obtain ⟨p, xs, i, z, rfl, rfl, hq, he, q⟩ := h
  cases rx
  obtain ⟨t, rfl⟩ := ry
  obtain ⟨its, r, pl, hz⟩ := I.list hq
  obtain ⟨j, h1, h2, h3, h4, h5⟩ := atI_get he
  obtain ⟨w, ew, rw'⟩ := r.get h2
  have hl := r.length
  have hn := line63
  have fin : EP X pins σ Q w s := ⟨z, H, I, rw', q⟩
  by_cases h0 : 0 ≤ i
  · have hj : i.toNat = j := by
      rw [seqIndex_of h0 h5] at h1
      exact Option.some.inj h1
    exact item_listR pl.isList h0 (by omega) (by rw [hj]; simpa using ew) fin hs
  · have hj : (i + (its.toArray.size : Int)).toNat = j := by
      rw [seqIndex_neg (by omega) h4] at h1
      rw [List.size_toArray, ← hl]
      exact Option.some.inj h1
    exact subscriptTail_builtinR (x := w) pl.isList.typeIs slot_list_getitem.lookup
      (wpAny_getItem_list_neg (Q := fun r s' => r = w ∧ EP X pins σ Q r s') pl.isList (by omega) (by rw [List.size_toArray] <;> omega) (by omega) (by rw [hj]; simpa using ew) ⟨rfl, fin⟩) hs
theorem ix_tup : IxR X (rIxT X.K) := by
  intro value slice pins s σ H x y v u Q I rx ry h hs
  obtain ⟨p, xs, i, z, rfl, rfl, hq, he, q⟩ := h
  cases rx
  obtain ⟨t, rfl⟩ := ry
  obtain ⟨its, r, pl, hz⟩ := I.tuple hq
  obtain ⟨j, h1, h2, h3, h4, h5⟩ := atI_get he
  obtain ⟨w, ew, rw'⟩ := r.get h2
  have hl := r.length
  have hn := line63
  have fin : EP X pins σ Q w s := ⟨z, H, I, rw', q⟩
  exact subscriptTail_builtinR (x := w) pl.typeIs slot_tuple_getitem.lookup
    (getItem_tuple (j := j) (Q := fun r s' => r = w ∧ EP X pins σ Q r s') pl (by omega) (by omega) (by rw [List.size_toArray, ← hl]; exact h1) (by simpa using ew) ⟨rfl, fin⟩) hs
theorem ix_str : IxR X rIxS := by
  intro value slice pins s σ H x y v u Q I rx ry h hs
  obtain ⟨z, i, c, rfl, rfl, hz, he, q⟩ := h
  obtain ⟨t, rfl⟩ := rx
  obtain ⟨t', rfl⟩ := ry
  obtain ⟨j, h1, h2, h3, h4, h5⟩ := atI_get he
  have hl : z.cps.toList.length = z.length := by simp [Str.length]
  rw [hl] at h1 h4 h5
  have hn := line63
  exact tail_any (typeIs_str s z t) slot_str_getitem.lookup (getItem_str (c := c) (by
    have e1 : decide (i < -(2 ^ 63 : Int)) = false := decide_eq_false (by omega)
    have e2 : decide (i ≥ 2 ^ 63) = false := decide_eq_false (by omega)
    rw [e1, e2, Bool.or_false]) (by rw [h1]; simpa using h2) ⟨.str ⟨#[c]⟩, H, I.tok _, ⟨_, rfl⟩, q⟩) hs
/-- list, tuple or str -/
def rIx (K : PySem.W.Frag) : R2 := fun x y H Q => rIxL K x y H Q ∨ rIxT K x y H Q ∨ rIxS x y H Q
theorem ix_seq : IxR X (rIx X.K) := ix_list.or (ix_tup.or ix_str)

/-! ### xs[i] = v, any sign -/
/-- the list's object behind a store -/
theorem mapSeq_set (its : List Value) (n j : Nat) (u : Value) : Obj.mapSeq (·.setIfInBounds j u) { cls := .type "list", data := .seq its.toArray n } = { cls := .type "list", data := .seq (its.set j u).toArray n } := by
  simp [Obj.mapSeq]
theorem Inv.lst {pins : List (Addr × Obj)} {σ : St} {H : Hp} {s : Shared} {p : Addr} {xs : List V} (I : Inv X pins σ H s) (h : H p = some (.lst xs)) :
    ∃ (its : List Value) (n : Nat), Vals xs its ∧ s.heap.get? p = some { cls := .type "list", data := .seq its.toArray n } ∧ xs.length ≤ sizeLine := by
  obtain ⟨z, its, n, r, e⟩ := I.hok p _ h
  exact ⟨its, n, r, e, z⟩
/-- the list at p is written by an update of its object -/
theorem Inv.lstUpd {pins : List (Addr × Obj)} {σ : St} {H : Hp} {s : Shared} {p : Addr} {xs ys : List V} {its its' : List Value} {n n' : Nat} {f : Obj → Obj} (I : Inv X pins σ H s) (h : H p = some (.lst xs))
    (ho : s.heap.get? p = some { cls := .type "list", data := .seq its.toArray n }) (hf : f { cls := .type "list", data := .seq its.toArray n } = { cls := .type "list", data := .seq its'.toArray n' }) (r : Vals ys its') (hz : ys.length ≤ sizeLine) (t : Nat) :
    Inv X pins σ (upd H p (.lst ys)) { s with heap := s.heap.update p f, toks := t } := by
  have e : (s.heap.update p f).get? p = some { cls := .type "list", data := .seq its'.toArray n' } := by
    rw [Heap.get?_update_self f ho (by rw [hf] <;> rfl), hf]
  refine I.write (x := p) (e := p) (by rw [h]; trivial) (.inl rfl) (fun b u hb q => (Heap.get?_update_other _ _ (Ne.symm hb)).trans q) ⟨_, e⟩ ?_
  exact ⟨hz, its', n', r, e⟩
def rSetL : V → V → V → Hp → (Hp → Prop) → Prop := fun o i v H Q => ∃ p xs k j, o = .ref p ∧ i = .int k ∧ H p = some (.lst xs) ∧ ixN xs.length k = some j ∧ Q (upd H p (.lst (xs.set j v)))
theorem set_list : PSet X rSetL := by
  intro pins s σ H o i v ov iv u Q I ro ri rv h
  obtain ⟨p, xs, k, j, rfl, rfl, hp, hj, q⟩ := h
  cases ro
  obtain ⟨t, rfl⟩ := ri
  obtain ⟨its, n, r, ho, hz⟩ := I.lst hp
  obtain ⟨h1, h2, h3, h4⟩ := ixN_seq hj
  have hl := r.length
  have hn := line63
  have I' : Inv X pins σ (upd H p (.lst (xs.set j v))) { s with heap := s.heap.update p (Obj.mapSeq (·.setIfInBounds j u)) } :=
    I.lstUpd hp ho (mapSeq_set its n j u) (r.set rv j) (by rw [List.length_set]; exact hz) s.toks
  by_cases h0 : 0 ≤ k
  · have hk : k.toNat = j := by
      rw [seqIndex_of h0 h4] at h1
      exact Option.some.inj h1
    exact PySem.W.ki_setAt ho h0 (by omega) (by rw [List.size_toArray, ← hl]; exact h4) (by rw [hk]; exact ⟨_, I', q⟩)
  · have hk : (k + (its.toArray.size : Int)).toNat = j := by
      rw [seqIndex_neg (by omega) h3] at h1
      rw [List.size_toArray, ← hl]
      exact Option.some.inj h1
    exact PySem.W.ki_setBack ho (by omega) (by rw [List.size_toArray, ← hl]; exact h3) (by omega) (by rw [hk]; exact ⟨_, I', q⟩)

/-! ### slices -/
theorem slice_bounds (lo hi : Option Int) (n : Nat) : (sliceBounds lo hi none n).1 = ((HT.sIx n 0 lo : Nat) : Int) ∧ (sliceBounds lo hi none n).2.1 = ((HT.sIx n n hi : Nat) : Int) ∧ (sliceBounds lo hi none n).2.2 = 1 := by
  refine ⟨?_, ?_, rfl⟩
  · cases lo with
    | none => simp [sliceBounds, HT.sIx]
    | some i =>
      simp only [sliceBounds, HT.sIx, Option.getD_none, show (1 : Int) > 0 by decide, if_true]
      by_cases h : i < 0
      · simp only [h, if_true] <;> omega
      · simp only [h, if_false] <;> omega
  · cases hi with
    | none => simp [sliceBounds, HT.sIx]
    | some i =>
      simp only [sliceBounds, HT.sIx, Option.getD_none, show (1 : Int) > 0 by decide, if_true]
      by_cases h : i < 0
      · simp only [h, if_true] <;> omega
      · simp only [h, if_false] <;> omega
theorem slicePick_cut (its : List Value) (lo hi : Option Int) : slicePick its.toArray lo hi none = ((its.drop (HT.sIx its.length 0 lo)).take (HT.sIx its.length its.length hi - HT.sIx its.length 0 lo)).toArray := by
  obtain ⟨h1, h2, h3⟩ := slice_bounds lo hi its.toArray.size
  unfold slicePick
  rw [h1, h2, h3]
  simp only [sliceRange_one, pick_run, List.size_toArray] <;> rfl
/-- xs[lo:hi] of a list: a new list -/
def rSlL (K : PySem.W.Frag) : V → Option Int → Option Int → Hp → VK → Prop := fun x lo hi H Q => ∃ a xs, x = .ref a ∧ SqL K H a xs ∧ ∀ p, H p = none → Q (.ref p) (upd H p (.lst (cutV xs lo hi)))
theorem sl_list : SlR X (rSlL X.K) := by
  intro pins s σ H x v vl vu lo hi sl Q I rx hs pl pu h
  obtain ⟨a, xs, rfl, hx, q⟩ := h
  cases rx
  obtain ⟨its, r, ht, hz⟩ := I.list hx
  have hlen := r.length
  refine ⟨"list", _, slot_list_getitem.lookup, ht.isList.typeIs, ?_⟩
  refine wpAny_getItem_list_slice ht.isList hs pl pu .none (by simp) ?_ (by rw [List.size_toArray] <;> omega)
  rw [slicePick_cut, ← hlen]
  refine ⟨.ref s.heap.objs.size, _, I.laid (t' := s.toks) (o := .lst (cutV xs lo hi)) (fun b ob q => Heap.get?_push_of_some _ q) (Nat.le_refl _) ?_, rfl, q _ (I.hok.fresh (Nat.le_refl _))⟩
  exact ⟨Nat.le_trans (cutV_length xs lo hi) hz, _, 0, (r.drop (HT.sIx xs.length 0 lo)).take (HT.sIx xs.length xs.length hi - HT.sIx xs.length 0 lo), Heap.get?_push_size _ rfl⟩

/-! ### in, not in: flat items -/
def flatV : V → Bool
  | .non => true
  | .bl _ => true
  | .int _ => true
  | .str _ => true
  | _ => false
/-- == of flat values -/
def eqV : V → V → Bool
  | .non, .non => true
  | .bl a, .bl b => a == b
  | .bl a, .int b => (if a then 1 else 0) == b
  | .int a, .bl b => a == (if b then 1 else 0)
  | .int a, .int b => a == b
  | .str a, .str b => a == b
  | _, _ => false
theorem eqAt_V {A : Around} {s : Shared} {y x : V} {u v : Value} (ry : RelV y u) (rx : RelV x v) (fy : flatV y = true) (fx : flatV x = true) : SeqAt.EqAt A s u v (eqV y x) := by
  cases y with
  | non =>
    cases ry
    cases x with
    | non => cases rx; exact SeqAt.EqAt.same _
    | bl b => cases rx; exact SeqAt.EqAt.none_bool b
    | int b => obtain ⟨t, rfl⟩ := rx; exact SeqAt.EqAt.none_int b t
    | str b => obtain ⟨t, rfl⟩ := rx; exact SeqAt.EqAt.none_str b t
    | _ => exact absurd (show false = true from fx) Bool.false_ne_true
  | bl a =>
    cases ry
    cases x with
    | non => cases rx; exact SeqAt.EqAt.bool_none a
    | bl b => cases rx; exact SeqAt.EqAt.bool_bool a b
    | int b => obtain ⟨t, rfl⟩ := rx; exact SeqAt.EqAt.bool_int a b t
    | str b => obtain ⟨t, rfl⟩ := rx; exact SeqAt.EqAt.bool_str a b t
    | _ => exact absurd (show false = true from fx) Bool.false_ne_true
  | int a =>
    obtain ⟨t', rfl⟩ := ry
    cases x with
    | non => cases rx; exact SeqAt.EqAt.int_none a t'
    | bl b => cases rx; exact SeqAt.EqAt.int_bool a t' b
    | int b => obtain ⟨t, rfl⟩ := rx; exact SeqAt.EqAt.int_int a t' b t
    | str b => obtain ⟨t, rfl⟩ := rx; exact SeqAt.EqAt.int_str a t' b t
    | _ => exact absurd (show false = true from fx) Bool.false_ne_true
  | str a =>
    obtain ⟨t', rfl⟩ := ry
    cases x with
    | non => cases rx; exact SeqAt.EqAt.str_none a t'
    | bl b => cases rx; exact SeqAt.EqAt.str_bool a t' b
    | int b => obtain ⟨t, rfl⟩ := rx; exact SeqAt.EqAt.str_int a t' b t
    | str b => obtain ⟨t, rfl⟩ := rx; exact SeqAt.EqAt.str_str a t' b t
    | _ => exact absurd (show false = true from fx) Bool.false_ne_true
  | _ => exact absurd (show false = true from fy) Bool.false_ne_true
/-- the items' answers, read off the values (a value's own answer does not lean on its token) -/
def eqU (x : V) (u : Value) : Bool := match u with
  | .none => eqV .non x
  | .bool b => eqV (.bl b) x
  | .int i _ => eqV (.int i) x
  | .str z _ => eqV (.str z) x
  | _ => false
theorem eqU_of {x y : V} {u : Value} (r : RelV y u) (f : flatV y = true) : eqU x u = eqV y x := by
  cases y with
  | non => cases r; rfl
  | bl b => cases r; rfl
  | int i => obtain ⟨t, rfl⟩ := r; rfl
  | str z => obtain ⟨t, rfl⟩ := r; rfl
  | _ => exact absurd (show false = true from f) Bool.false_ne_true
theorem any_eqU {x : V} : ∀ {xs : List V} {us : List Value}, Vals xs us → xs.all flatV = true → us.any (eqU x) = xs.any fun y => eqV y x
  | _, _, .nil, _ => rfl
  | y :: xs, u :: us, .cons r t, f => by
    rw [List.all_cons, Bool.and_eq_true] at f
    rw [List.any_cons, List.any_cons, eqU_of r f.1, any_eqU t f.2]
theorem mem_eqAt {A : Around} {s : Shared} {x : V} {v : Value} (rx : RelV x v) (fx : flatV x = true) : ∀ {xs : List V} {us : List Value}, Vals xs us → xs.all flatV = true → ∀ u ∈ us, SeqAt.EqAt A s u v (eqU x u)
  | _, _, .nil, _ => fun u hu => by cases hu
  | y :: xs, u :: us, .cons r t, f => fun u' hu => by
    rw [List.all_cons, Bool.and_eq_true] at f
    rcases List.mem_cons.mp hu with rfl | hu
    · rw [eqU_of r f.1]; exact eqAt_V r rx f.1 fx
    · exact mem_eqAt rx fx t f.2 u' hu
def inV (x : V) (xs : List V) : Bool := xs.any fun y => eqV y x
/-- x in a list or tuple of flat items -/
def rIn (K : PySem.W.Frag) (neg : Bool) : R2 := fun x y H Q => ∃ p xs, y = .ref p ∧ (SqL K H p xs ∨ SqT K H p xs) ∧ flatV x = true ∧ xs.all flatV = true ∧ Q (.bl (if neg then !inV x xs else inV x xs)) H
theorem op_in_seq : OpR X (compareOp .In) (rIn X.K false) := by
  intro pins s σ H x y v u Q I rx ry h
  obtain ⟨p, xs, rfl, hq, fx, fs, q⟩ := h
  cases ry
  rcases hq with hq | hq
  · obtain ⟨its, r, pl, hz⟩ := I.list hq
    refine SeqAt.in_listAt (eqU x) pl.isList (fun w hw => mem_eqAt rx fx r fs w (by simpa using hw)) ⟨.bl _, H, I, rfl, ?_⟩
    rw [show its.toArray.any (eqU x) = its.any (eqU x) by simp, any_eqU r fs]
    exact q
  · obtain ⟨its, r, pl, hz⟩ := I.tuple hq
    refine SeqAt.in_tupleAt (eqU x) pl (fun w hw => mem_eqAt rx fx r fs w (by simpa using hw)) ⟨.bl _, H, I, rfl, ?_⟩
    rw [show its.toArray.any (eqU x) = its.any (eqU x) by simp, any_eqU r fs]
    exact q
theorem op_notIn_seq : OpR X (compareOp .NotIn) (rIn X.K true) := by
  intro pins s σ H x y v u Q I rx ry h
  obtain ⟨p, xs, rfl, hq, fx, fs, q⟩ := h
  cases ry
  rcases hq with hq | hq
  · obtain ⟨its, r, pl, hz⟩ := I.list hq
    refine SeqAt.notIn_listAt (eqU x) pl.isList (fun w hw => mem_eqAt rx fx r fs w (by simpa using hw)) ⟨.bl _, H, I, rfl, ?_⟩
    rw [show its.toArray.any (eqU x) = its.any (eqU x) by simp, any_eqU r fs]
    exact q
  · obtain ⟨its, r, pl, hz⟩ := I.tuple hq
    refine SeqAt.notIn_tupleAt (eqU x) pl (fun w hw => mem_eqAt rx fx r fs w (by simpa using hw)) ⟨.bl _, H, I, rfl, ?_⟩
    rw [show its.toArray.any (eqU x) = its.any (eqU x) by simp, any_eqU r fs]
    exact q
theorem op_notIn_str : OpR X (compareOp .NotIn) (fun x y H Q => ∃ i j, x = .str i ∧ y = .str j ∧ Q (.bl (!(!(Builtin.Str.occurrences j i 0 j.length 1).isEmpty))) H) := by
  intro pins s σ H x y v u Q I rx ry h
  obtain ⟨i, j, rfl, rfl, q⟩ := h
  obtain ⟨t, rfl⟩ := rx
  obtain ⟨t', rfl⟩ := ry
  exact notIn_str ⟨.bl _, H, I, rfl, q⟩

/-! ### len, list(x), tuple(x) of any list or tuple that is read -/
theorem call_len_seq : CallR X (.builtin "len") (fun xs H Q => ∃ p ys, xs = [.ref p] ∧ (SqL X.K H p ys ∨ SqT X.K H p ys) ∧ Q (.int ys.length) H) := by
  intro pins s σ H xs us Q I r h
  obtain ⟨p, ys, rfl, hq, q⟩ := h
  obtain ⟨u, rfl, rx⟩ := vals1 r
  cases rx
  have hn := line63
  rcases hq with hq | hq
  · obtain ⟨its, r', pl, hz⟩ := I.list hq
    have hlen := r'.length
    exact Calls.call_len_list pl.isList (by simp only [List.size_toArray] <;> omega) ⟨.int ys.length, H, I.tok _, ⟨s.toks + 1, by rw [List.size_toArray, hlen]⟩, q⟩
  · obtain ⟨its, r', pl, hz⟩ := I.tuple hq
    have hlen := r'.length
    exact len_tuple pl (by simp only [List.size_toArray] <;> omega) ⟨.int ys.length, H, I.tok _, ⟨s.toks + 1, by rw [List.size_toArray, hlen]⟩, q⟩
theorem call_len_str : CallR X (.builtin "len") (fun xs H Q => ∃ z, xs = [.str z] ∧ z.length ≤ sizeLine ∧ Q (.int z.length) H) := by
  intro pins s σ H xs us Q I r h
  obtain ⟨z, rfl, hz, q⟩ := h
  obtain ⟨u, rfl, t, rfl⟩ := vals1 r
  have hn := line63
  exact len_str (by omega) ⟨.int z.length, H, I.tok _, ⟨_, rfl⟩, q⟩
theorem CallR.or {f : Value} {r r' : List V → Hp → VK → Prop} (h : CallR X f r) (h' : CallR X f r') : CallR X f (fun xs H Q => r xs H Q ∨ r' xs H Q) := by
  intro pins s σ H xs us Q I rs q
  rcases q with q | q
  · exact h pins s σ H xs us Q I rs q
  · exact h' pins s σ H xs us Q I rs q
theorem call_list_of : CallR X (.type "list") (fun xs H Q => ∃ p ys, xs = [.ref p] ∧ (SqL X.K H p ys ∨ SqT X.K H p ys) ∧ ∀ l, H l = none → Q (.ref l) (upd H l (.lst ys))) := by
  intro pins s σ H xs us Q I r h
  obtain ⟨p, ys, rfl, hq, q⟩ := h
  obtain ⟨u, rfl, rx⟩ := vals1 r
  cases rx
  have fin : ∀ (its : List Value), Vals ys its → ys.length ≤ sizeLine → ∀ (h' : Heap) (c' : Nat), (∀ b o', s.heap.get? b = some o' → h'.get? b = some o') →
      h'.get? s.heap.objs.size = some { cls := .type "list", dict := none, data := .seq its.toArray c', slots := #[] } → EP X pins σ Q (.ref s.heap.objs.size) { s with heap := h' } := fun its r' hz h' c' kp e =>
    ⟨.ref s.heap.objs.size, _, I.laid (t' := s.toks) kp (Nat.le_refl _) (show ObjOk X.prog X.w _ h' _ (.lst ys) from ⟨hz, its, c', r', e⟩), rfl, q _ (I.hok.fresh (Nat.le_refl _))⟩
  rcases hq with hq | hq
  · obtain ⟨its, r', pl, hz⟩ := I.list hq
    have hlen := r'.length
    obtain ⟨o, ho, hc, n, hd⟩ := pl.isList
    exact call_list_seq p (.inl rfl) ho hc hd (fun h' c' kp e => fin its r' hz h' c' kp e) (by simp only [List.size_toArray] <;> omega)
  · obtain ⟨its, r', pl, hz⟩ := I.tuple hq
    have hlen := r'.length
    obtain ⟨o, ho, hc, n, hd⟩ := pl
    exact call_list_seq p (.inr rfl) ho hc hd (fun h' c' kp e => fin its r' hz h' c' kp e) (by simp only [List.size_toArray] <;> omega)
theorem call_tuple_of : CallR X (.type "tuple") (fun xs H Q => ∃ p ys, xs = [.ref p] ∧ ((SqL X.K H p ys ∧ ∀ l, H l = none → Q (.ref l) (upd H l (.tup ys))) ∨ (SqT X.K H p ys ∧ Q (.ref p) H))) := by
  intro pins s σ H xs us Q I r h
  obtain ⟨p, ys, rfl, h⟩ := h
  obtain ⟨u, rfl, rx⟩ := vals1 r
  cases rx
  rcases h with ⟨hq, q⟩ | ⟨hq, q⟩
  · obtain ⟨its, r', pl, hz⟩ := I.list hq
    have hlen := r'.length
    refine call_tuple_list pl.isList (fun h' kp => ?_) (by simp only [List.size_toArray] <;> omega)
    have I1 : Inv X pins σ H { s with heap := h' } := I.kept (t' := s.toks) kp
    have I2 : Inv X pins σ (upd H h'.objs.size (.tup ys)) { s with heap := h'.push { cls := .type "tuple", data := .seq its.toArray } } :=
      I1.laid (t' := s.toks) (fun b o e => Heap.get?_push_of_some _ e) (Nat.le_refl _) (show ObjOk X.prog X.w _ _ _ (.tup ys) from ⟨hz, its, r', IsTup.new _ _⟩)
    exact ⟨.ref h'.objs.size, _, I2, rfl, q _ (I1.hok.fresh (Nat.le_refl _))⟩
  · obtain ⟨its, r', pl, hz⟩ := I.tuple hq
    exact call_tuple_same pl ⟨.ref p, H, I, rfl, q⟩

/-! ### the call of a builtin's method: o.m(..) -/
/-- the value is of that builtin type -/
def tyV (K : PySem.W.Frag) (T : String) (x : V) (H : Hp) : Prop := match x with
  | .str _ => T = "str"
  | .int _ => T = "int"
  | .ref p => (T = "list" ∧ ∃ xs, SqL K H p xs) ∨ (T = "tuple" ∧ ∃ o, K.lookup p = some o ∧ o.cls = .type "tuple" ∧ o.dict = none) ∨
      (T = "dict" ∧ ((∃ kvs, H p = some (.dK kvs)) ∨ ∃ kvs, H p = some (.dT kvs))) ∨ (T = "set" ∧ ∃ S n, H p = some (.set S n))
  | _ => False
theorem tyV_is {pins : List (Addr × Obj)} {σ : St} {H : Hp} {s : Shared} {T : String} {x : V} {v : Value} (I : Inv X pins σ H s) (r : RelV x v) (ty : tyV X.K T x H) :
    s.TypeIs v T ∧ ∀ a, v = .ref a → ∃ ob, s.heap.get? a = some ob ∧ ob.dict = none := by
  cases x with
  | str z =>
    obtain ⟨t, rfl⟩ := r
    cases (show T = "str" from ty)
    exact ⟨typeIs_str s z t, fun _ e => nomatch e⟩
  | int i =>
    obtain ⟨t, rfl⟩ := r
    cases (show T = "int" from ty)
    exact ⟨typeIs_int s i t, fun _ e => nomatch e⟩
  | ref p =>
    cases r
    rcases ty with ⟨rfl, xs, hq⟩ | ⟨rfl, o, hk, hc, hd⟩ | ⟨rfl, hk⟩ | ⟨rfl, S, n, hk⟩
    · obtain ⟨its, _, pl, _⟩ := I.list hq
      refine ⟨pl.isList.typeIs, fun a e => ?_⟩
      cases e
      obtain ⟨o, n, e, c, hd, _⟩ := pl
      exact ⟨o, e, hd⟩
    · refine ⟨⟨o, I.kIn p o hk, hc⟩, fun a e => ?_⟩
      cases e
      exact ⟨o, I.kIn _ o hk, hd⟩
    · have z : ∃ o, s.heap.get? p = some o ∧ o.ExactDict := by
        rcases hk with ⟨kvs, hk⟩ | ⟨kvs, hk⟩
        · obtain ⟨_, _, _, _, o, _, _, e, ex, _⟩ := I.hok p _ hk
          exact ⟨o, e, ex⟩
        · obtain ⟨_, _, _, _, o, _, _, e, ex, _⟩ := I.hok p _ hk
          exact ⟨o, e, ex⟩
      obtain ⟨o, e, ex⟩ := z
      refine ⟨⟨o, e, ex.1⟩, fun a e2 => ?_⟩
      cases e2
      exact ⟨o, e, ex.2.1⟩
    · obtain ⟨o, _, _, _, e, ex, _⟩ := I.hok p _ hk
      refine ⟨⟨o, e, ex.1⟩, fun a e2 => ?_⟩
      cases e2
      exact ⟨o, e, ex.2.1⟩
  | _ => exact False.elim ty
def tBM0 (K : PySem.W.Frag) (T : String) (r : V → List V → Hp → VK → Prop) (to : TE) : TE := fun σ H Q => to σ H fun x H1 => tyV K T x H1 ∧ r x [] H1 Q
def tBM (K : PySem.W.Frag) (T : String) (r : V → List V → Hp → VK → Prop) (to : TE) (t : TA) : TE := fun σ H Q => to σ H fun x H1 => tyV K T x H1 ∧ t σ H1 fun xs H2 => r x xs H2 Q
variable {o e : Expr} {es : List Expr} {to : TE} {t : TA} {name : Str} {apos cpos : Pos} {T id : String} {r : V → List V → Hp → VK → Prop}
theorem pe_bm0 (pa : PlainAttrs T) (slot : Slot T name id) (hty : typeOf (.builtin id) = pure (.type "method_descriptor")) (hm : MtR X id r) (ho : PE X o to)
    (hbase : attributeBase o name X.env (eval o X.env) = eval o X.env := by rfl) (hline : (apos.endLine == cpos.line) = true := by rfl) : PE X (.Call (.Attribute o name apos) [] [] cpos) (tBM0 X.K T r to) := by
  intro pins s σ H Q I h
  refine wpAny_Call_method0_late hbase hline (thn (ho pins s σ H _ I h) fun v s1 ⟨x, H1, I1, r1, ty, q1⟩ => ?_)
  obtain ⟨h1, h2⟩ := tyV_is I1 r1 ty
  exact ⟨T, id, pa, slot, hty, h1, h2, Calls.callWith_builtin rfl (PySem.evalArgs_none (hm pins s1 σ H1 x [] v [] Q I1 r1 .nil q1))⟩
theorem pe_bm (pa : PlainAttrs T) (slot : Slot T name id) (hty : typeOf (.builtin id) = pure (.type "method_descriptor")) (hm : MtR X id r) (ho : PE X o to) (ha : PA X (e :: es) t)
    (hbase : attributeBase o name X.env (eval o X.env) = eval o X.env := by rfl)
    (hfew : ((backTo cpos (starEach (e :: es) X.env)).all (fun x => !x.1) && (backToKw cpos (keywordEach [] X.env)).all (fun x => x.1.isSome)
      && decide ((e :: es).length + ([] : List Keyword).length + (if ([] : List Keyword).isEmpty then 0 else 1) < 30)) = true := by rfl)
    (hline : (apos.endLine == cpos.line) = true := by rfl) (hs : starEach (e :: es) X.env = (false, eval e X.env) :: starEach es X.env := by rfl) (hplain : (backTo cpos (starEach es X.env)).any (·.1) = false := by rfl) :
    PE X (.Call (.Attribute o name apos) (e :: es) [] cpos) (tBM X.K T r to t) := by
  intro pins s σ H Q I h
  refine wpAny_Call_method_late hbase hfew hline rfl (thn (ho pins s σ H _ I h) fun v s1 ⟨x, H1, I1, r1, ty, q1⟩ => ?_)
  obtain ⟨h1, h2⟩ := tyV_is I1 r1 ty
  refine ⟨T, id, pa, slot, hty, h1, h2, ?_⟩
  have hA := ha cpos pins s1 σ H1 _ I1 q1
  rw [hs] at hA ⊢
  refine Calls.callWith_builtin (by show (false || (backTo cpos (starEach es X.env)).any (·.1)) = false; rw [hplain] <;> rfl) (Calls.evalArgs_plain ?_)
  exact thn hA fun us s2 ⟨vs, H2, I2, r2, q2⟩ => hm pins s2 σ H2 x vs v us Q I2 r1 r2 q2
/- xs.append(e), list.index on a module's tuple .. are MtR facts of 06m -/
end
end L2

namespace L2
open PySem PySem.Spec PyProof.Rows

def MtM (X : Cx) (id : String) (r : V → List V → Hp → VK → Prop) : Prop :=
  ∀ (pins : List (Addr × Obj)) (s : Shared) (σ : St) (H : Hp) (x : V) (xs : List V) (v : Value) (us : List Value) (Q : VK), Inv X pins σ H s → RelV x v → Vals xs us → r x xs H Q →
    wpAny (model X.prog X.w) X.A (call (.builtin id) (v :: us)) (EP X pins σ Q) X.xe s

/-! ### lists of values -/
theorem Vals.one : ∀ {x : V} {us : List Value}, Vals [x] us → ∃ u, us = [u] ∧ RelV x u
  | _, _, .cons r .nil => ⟨_, rfl, r⟩
theorem Vals.two : ∀ {x y : V} {us : List Value}, Vals [x, y] us → ∃ u v, us = [u, v] ∧ RelV x u ∧ RelV y v
  | _, _, _, .cons r (.cons q .nil) => ⟨_, _, rfl, r, q⟩
theorem Vals.zero : ∀ {us : List Value}, Vals [] us → us = []
  | _, .nil => rfl
theorem Vals.dropLast {xs : List V} {us : List Value} (h : Vals xs us) : Vals xs.dropLast us.dropLast := by
  induction h with
  | nil => exact .nil
  | cons r t ih =>
    cases t with
    | nil => exact .nil
    | cons q t' => exact .cons r ih
theorem Vals.eraseIdx : ∀ {xs : List V} {us : List Value} (i : Nat), Vals xs us → Vals (xs.eraseIdx i) (us.eraseIdx i)
  | _, _, _, .nil => .nil
  | _, _, 0, .cons _ t => t
  | _, _, i + 1, .cons r t => .cons r (Vals.eraseIdx i t)
theorem Vals.reverse {xs : List V} {us : List Value} (h : Vals xs us) : Vals xs.reverse us.reverse := by
  induction h with
  | nil => exact .nil
  | cons r t ih => rw [List.reverse_cons, List.reverse_cons]; exact Vals.append ih (.cons r .nil)
theorem Vals.rep {xs : List V} {us : List Value} (h : Vals xs us) : ∀ k : Nat, Vals (List.replicate k xs).flatten (List.replicate k us).flatten
  | 0 => .nil
  | k + 1 => by
    rw [List.replicate_succ, List.replicate_succ, List.flatten_cons, List.flatten_cons]
    exact Vals.append h (Vals.rep h k)
theorem erase_last {α : Type} (l : List α) : l.eraseIdx (l.length - 1) = l.dropLast := by
  induction l with
  | nil => rfl
  | cons a r ih =>
    cases r with
    | nil => rfl
    | cons b r =>
      have e : (a :: b :: r).length - 1 = ((b :: r).length - 1) + 1 := by
        have h1 : (a :: b :: r).length = r.length + 2 := rfl
        have h2 : (b :: r).length = r.length + 1 := rfl
        omega
      rw [e, List.eraseIdx_cons_succ, ih]
      all_goals rfl
theorem len_erase {α : Type} : ∀ (l : List α) (i : Nat), (l.eraseIdx i).length ≤ l.length
  | [], _ => Nat.le_refl _
  | _ :: _, 0 => Nat.le_succ _
  | _ :: r, i + 1 => Nat.succ_le_succ (len_erase r i)
theorem foldl_rep (its : List Value) : ∀ (k : Nat) (acc : List Value),
    List.foldl (fun x1 x2 => x1 ++ x2) acc.toArray (List.replicate k its.toArray) = (acc ++ (List.replicate k its).flatten).toArray
  | 0, acc => by simp
  | k + 1, acc => by
    have e : acc.toArray ++ its.toArray = (acc ++ its).toArray := by simp
    have e2 : (acc ++ its) ++ (List.replicate k its).flatten = acc ++ (List.replicate (k + 1) its).flatten := by
      rw [List.replicate_succ, List.flatten_cons, List.append_assoc]
    rw [← e2, ← foldl_rep its k (acc ++ its), ← e, List.replicate_succ, List.foldl_cons]

section
variable {X : Cx} {pins : List (Addr × Obj)} {σ : St} {H : Hp} {s : Shared} {l b : Addr} {xs ys zs : List V}

/-! ### the two steps: a tracked list is rewritten, a new list is laid -/
theorem Inv.lset {its its' : List Value} {n : Nat} {f : Array Value → Array Value} {t' : Nat} (I : Inv X pins σ H s) (hH : H l = some (.lst xs))
    (e : s.heap.get? l = some { cls := .type "list", data := .seq its.toArray n }) (hf : f its.toArray = its'.toArray) (hv : Vals ys its') (hz : ys.length ≤ sizeLine) :
    Inv X pins σ (upd H l (.lst ys)) { s with heap := s.heap.update l (Obj.mapSeq f), toks := t' } := by
  have q := PySem.IsL.update e f
  rw [hf] at q
  refine I.write (x := l) (e := l) (by rw [hH]; exact trivial) (.inl rfl) (fun b' u hb hu => (Heap.get?_update_other s.heap (Obj.mapSeq f) (Ne.symm hb)).trans hu) ⟨_, q⟩ ?_
  exact ⟨hz, its', _, hv, q⟩
theorem Inv.lnew {its : List Value} {t' : Nat} (I : Inv X pins σ H s) (hv : Vals ys its) (hz : ys.length ≤ sizeLine) :
    Inv X pins σ (upd H s.heap.objs.size (.lst ys)) { s with heap := s.heap.push { cls := .type "list", data := .seq its.toArray }, toks := t' } :=
  I.laid (fun _ _ q => Heap.get?_push_of_some _ q) (Nat.le_refl _) ⟨hz, its, 0, hv, Heap.get?_push_size _ rfl⟩
theorem Inv.fresh (I : Inv X pins σ H s) : H s.heap.objs.size = none := I.hok.fresh (Nat.le_refl _)
theorem Inv.lstM (I : Inv X pins σ H s) (hH : H l = some (.lst xs)) : xs.length ≤ sizeLine ∧ ∃ (its : List Value) (n : Nat), Vals xs its ∧ xs.length = its.length ∧ s.heap.get? l = some { cls := .type "list", data := .seq its.toArray n } := by
  obtain ⟨z, its, n, r, e⟩ := I.hok l _ hH
  exact ⟨z, its, n, r, r.length, e⟩

theorem notLongL {n : Nat} (h : n ≤ sizeLine) : Builtin.List.listTooLong n = false := by
  unfold Builtin.List.listTooLong
  exact decide_eq_false (by omega)
end

section
variable {X : Cx}

/-! ### methods -/
def rAppend : V → List V → Hp → VK → Prop := fun x vs H Q => ∃ l xs y, x = .ref l ∧ vs = [y] ∧ H l = some (.lst xs) ∧ xs.length < sizeLine ∧ Q .non (upd H l (.lst (xs ++ [y])))
theorem mt_append : MtM X "list.append" rAppend := by
  intro pins s σ H x vs v us Q I rx rv h
  obtain ⟨l, xs, y, rfl, rfl, hH, hz, q⟩ := h
  cases rx
  obtain ⟨u, rfl, ru⟩ := rv.one
  obtain ⟨z, its, n, r, hl, e⟩ := I.lstM hH
  refine call_meets F.slot_list_append ⟨_, e, rfl⟩ F.entry_list_append (F.args_list_append_2 _ _) (PySem.list_append l its.toArray n u (by rw [List.size_toArray]; omega)) ⟨e, ?_⟩
  refine ⟨.non, _, I.lset (its' := its ++ [u]) hH e (by simp) (r.append (.cons ru .nil)) ?_, rfl, q⟩
  rw [List.length_append, List.length_singleton]
  omega

def rExtend : V → List V → Hp → VK → Prop := fun x vs H Q => ∃ l b xs zs, x = .ref l ∧ vs = [.ref b] ∧ H l = some (.lst xs) ∧ H b = some (.lst zs) ∧ xs.length + zs.length ≤ sizeLine ∧ Q .non (upd H l (.lst (xs ++ zs)))
theorem mt_extend : MtM X "list.extend" rExtend := by
  intro pins s σ H x vs v us Q I rx rv h
  obtain ⟨l, b, xs, zs, rfl, rfl, hH, hB, hz, q⟩ := h
  cases rx
  obtain ⟨u, rfl, ru⟩ := rv.one
  cases ru
  obtain ⟨z, its, n, r, hl, e⟩ := I.lstM hH
  obtain ⟨z2, its2, n2, r2, hl2, e2⟩ := I.lstM hB
  have hsz : its.toArray.size + its2.toArray.size ≤ sizeLine := by rw [List.size_toArray, List.size_toArray]; omega
  have hlong : ¬ (!its.toArray.isEmpty && Builtin.List.listTooLong (its.toArray.size + its2.toArray.size)) = true := by
    rw [notLongL hsz, Bool.and_false]
    exact Bool.false_ne_true
  refine call_meets F.slot_list_extend ⟨_, e, rfl⟩ F.entry_list_extend (F.args_list_extend_2 _ _)
    (AutoSeq1.list_extend_list_list_0 l its.toArray n b its2.toArray n2 hlong (by rw [List.size_toArray]; omega) (by omega)) ⟨e, e2, ?_⟩
  refine ⟨.non, _, I.lset (its' := its ++ its2) hH e (by simp) (r.append r2) ?_, rfl, q⟩
  rw [List.length_append]
  omega

def rPop : V → List V → Hp → VK → Prop := fun x vs H Q => ∃ l xs y, x = .ref l ∧ vs = [] ∧ H l = some (.lst xs) ∧ xs[xs.length - 1]? = some y ∧ Q y (upd H l (.lst xs.dropLast))
theorem mt_pop : MtM X "list.pop" rPop := by
  intro pins s σ H x vs v us Q I rx rv h
  obtain ⟨l, xs, y, rfl, rfl, hH, hy, q⟩ := h
  cases rx
  have hus := rv.zero
  subst hus
  obtain ⟨z, its, n, r, hl, e⟩ := I.lstM hH
  obtain ⟨u, hu, ru⟩ := r.get hy
  have hy' : its.toArray[its.toArray.size - 1]? = some u := by
    show its.toArray[its.length - 1]? = some u
    rw [← Array.getElem?_toList, ← hl]
    exact hu
  refine call_meets F.slot_list_pop ⟨_, e, rfl⟩ F.entry_list_pop (F.args_list_pop_1 _) (MeetsSeq.list_pop_last l its.toArray n u hy' (by rw [List.size_toArray]; omega)) ⟨e, ?_⟩
  refine ⟨y, _, I.lset (its' := its.dropLast) hH e ?_ r.dropLast ?_, ru, q⟩
  · show its.toArray.eraseIdxIfInBounds (its.toArray.size - 1) = its.dropLast.toArray
    rw [List.size_toArray, List.eraseIdxIfInBounds_toArray, erase_last]
  · rw [List.length_dropLast]
    omega

def rPopAt : V → List V → Hp → VK → Prop := fun x vs H Q => ∃ l xs i k y, x = .ref l ∧ vs = [.int i] ∧ H l = some (.lst xs) ∧ -(2 ^ 63) ≤ i ∧ i < 2 ^ 63 ∧ seqIndex? i xs.length = some k ∧ xs[k]? = some y ∧ Q y (upd H l (.lst (xs.eraseIdx k)))
theorem mt_popAt : MtM X "list.pop" rPopAt := by
  intro pins s σ H x vs v us Q I rx rv h
  obtain ⟨l, xs, i, k, y, rfl, rfl, hH, h1, h2, hk, hy, q⟩ := h
  cases rx
  obtain ⟨u, rfl, ru⟩ := rv.one
  obtain ⟨t, rfl⟩ := ru
  obtain ⟨z, its, n, r, hl, e⟩ := I.lstM hH
  obtain ⟨w, hw, rw'⟩ := r.get hy
  refine call_meets F.slot_list_pop ⟨_, e, rfl⟩ F.entry_list_pop (F.args_list_pop_2 _ _)
    (MeetsSeq.list_pop_at l its.toArray n i t k w (fitsIndex_both h1 h2) (by rw [List.size_toArray, ← hl]; exact hk) (by rw [← Array.getElem?_toList]; exact hw) (by rw [List.size_toArray]; omega)) ⟨e, ?_⟩
  refine ⟨y, _, I.lset (its' := its.eraseIdx k) hH e ?_ (r.eraseIdx k) ?_, rw', q⟩
  · show its.toArray.eraseIdxIfInBounds k = (its.eraseIdx k).toArray
    rw [List.eraseIdxIfInBounds_toArray]
  · have := len_erase xs k
    omega

def rReverse : V → List V → Hp → VK → Prop := fun x vs H Q => ∃ l xs, x = .ref l ∧ vs = [] ∧ H l = some (.lst xs) ∧ Q .non (upd H l (.lst xs.reverse))
theorem mt_reverse : MtM X "list.reverse" rReverse := by
  intro pins s σ H x vs v us Q I rx rv h
  obtain ⟨l, xs, rfl, rfl, hH, q⟩ := h
  cases rx
  have hus := rv.zero
  subst hus
  obtain ⟨z, its, n, r, hl, e⟩ := I.lstM hH
  refine call_meets F.slot_list_reverse ⟨_, e, rfl⟩ F.entry_list_reverse (F.args_list_reverse_1 _) (AutoSeq1.list_reverse_list_0 l its.toArray n (by rw [List.size_toArray]; omega)) ⟨e, ?_⟩
  refine ⟨.non, _, I.lset (its' := its.reverse) hH e (by simp) r.reverse ?_, rfl, q⟩
  rw [List.length_reverse]
  omega

def rClear : V → List V → Hp → VK → Prop := fun x vs H Q => ∃ l xs, x = .ref l ∧ vs = [] ∧ H l = some (.lst xs) ∧ Q .non (upd H l (.lst []))
theorem mt_clear : MtM X "list.clear" rClear := by
  intro pins s σ H x vs v us Q I rx rv h
  obtain ⟨l, xs, rfl, rfl, hH, q⟩ := h
  cases rx
  have hus := rv.zero
  subst hus
  obtain ⟨z, its, n, r, hl, e⟩ := I.lstM hH
  refine call_meets F.slot_list_clear ⟨_, e, rfl⟩ F.entry_list_clear (F.args_list_clear_1 _) (AutoSeq1.list_clear_list_0 l its.toArray n (by rw [List.size_toArray]; omega)) ⟨e, ?_⟩
  exact ⟨.non, _, I.lset (its' := []) (ys := []) hH e rfl .nil (Nat.zero_le _), rfl, q⟩

/-! ### list + list, list += list, list * int -/
def rCat : R2 := fun x y H Q => ∃ l b xs zs, x = .ref l ∧ y = .ref b ∧ H l = some (.lst xs) ∧ H b = some (.lst zs) ∧ xs.length + zs.length ≤ sizeLine ∧ ∀ p, H p = none → Q (.ref p) (upd H p (.lst (xs ++ zs)))
theorem op_cat : OpR X (binaryOp .Add) rCat := by
  intro pins s σ H x y v u Q I rx ry h
  obtain ⟨l, b, xs, zs, rfl, rfl, hH, hB, hz, q⟩ := h
  cases rx
  cases ry
  obtain ⟨z, its, n, r, hl, e⟩ := I.lstM hH
  obtain ⟨z2, its2, n2, r2, hl2, e2⟩ := I.lstM hB
  refine PySem.P.add_list e e2 ?_ (by rw [List.size_toArray, List.size_toArray]; omega)
  have ea : its.toArray ++ its2.toArray = (its ++ its2).toArray := by simp
  rw [ea]
  exact ⟨.ref _, _, I.lnew (t' := s.toks) (r.append r2) (by rw [List.length_append]; omega), rfl, q _ I.fresh⟩
/-- a list times an int (a negative one is nothing) -/
def rRep : R2 := fun x y H Q => ∃ l k xs, x = .ref l ∧ y = .int k ∧ H l = some (.lst xs) ∧ -(2 ^ 63) ≤ k ∧ k < 2 ^ 63 ∧ xs.length * k.toNat ≤ sizeLine ∧
  ∀ p, H p = none → Q (.ref p) (upd H p (.lst (List.replicate k.toNat xs).flatten))
theorem len_rep {α : Type} (xs : List α) (k : Nat) : (List.replicate k xs).flatten.length = k * xs.length := by
  induction k with
  | zero => simp
  | succ k ih => rw [List.replicate_succ, List.flatten_cons, List.length_append, ih, Nat.succ_mul, Nat.add_comm]
theorem op_rep : OpR X (binaryOp .Mult) rRep := by
  intro pins s σ H x y v u Q I rx ry h
  obtain ⟨l, k, xs, rfl, rfl, hH, h1, h2, hz, q⟩ := h
  cases rx
  obtain ⟨t, rfl⟩ := ry
  obtain ⟨z, its, n, r, hl, e⟩ := I.lstM hH
  have hlen : its.toArray.size * k.toNat ≤ sizeLine := by rw [List.size_toArray, ← hl]; exact hz
  have hcap : ¬ its.toArray.size * k.toNat > (2 ^ 63 - 1) / 8 := by
    have : (sizeLine : Nat) ≤ (2 ^ 63 - 1) / 8 := by decide
    omega
  have hfit : ¬ (!Builtin.List.listFitsIndex k) = true := by
    rw [fitsIndex_both h1 h2]
    exact Bool.false_ne_true
  have hlong : ¬ Builtin.List.listTooLong (its.toArray.size * k.toNat) = true := by
    rw [notLongL hlen]
    exact Bool.false_ne_true
  have hnew : List.foldl (fun x1 x2 => x1 ++ x2) #[] (List.replicate (if its.toArray.isEmpty = true then 0 else k.toNat) its.toArray) = (List.replicate k.toNat its).flatten.toArray := by
    have f0 : ∀ m : Nat, List.foldl (fun x1 x2 => x1 ++ x2) #[] (List.replicate m its.toArray) = (List.replicate m its).flatten.toArray := fun m => by
      have := foldl_rep its m []
      rw [List.nil_append] at this
      exact this
    rw [f0]
    cases its with
    | nil => simp
    | cons a r' => rw [if_neg (by simp)]
  refine wpAny_binaryOp_repeat_ref (T := "list") (U := "int") (by decide) ⟨_, e, rfl⟩ (fun s' => typeIs_int s' k t) noFill_list_mul F.fills_int_mul F.slot_int_rmul repeat_list F.slot_int_index.lookup
    (call_meets F.slot_int_rmul (typeIs_int s k t) F.entry_int_rmul (F.args_int_rmul_2 _ _) (int___rmul___int_list k t l its.toArray n)
      ⟨e, rfl, ⟨_, e, rfl⟩, call_meets F.slot_list_mul ⟨_, e, rfl⟩ F.entry_list_mul (F.args_list_mul_2 _ _) (AutoListH.list___mul___list_int_3 l its.toArray n k t hfit hcap hlong) ⟨e, ?_⟩⟩)
  rw [hnew]
  exact ⟨.ref _, _, I.lnew (t' := s.toks) (r.rep k.toNat) (by rw [len_rep, Nat.mul_comm]; exact hz), rfl, q _ I.fresh⟩

/-! ### del xs[i] -/
theorem del_list {pins : List (Addr × Obj)} {s : Shared} {σ : St} {H : Hp} {l : Addr} {xs : List V} {i : Int} {t : Tok} {k : Nat} {Q : Unit → Shared → Prop} (I : Inv X pins σ H s) (hH : H l = some (.lst xs))
    (h1 : -(2 ^ 63) ≤ i) (h2 : i < 2 ^ 63) (hk : seqIndex? i xs.length = some k) (h : ∀ s', Inv X pins σ (upd H l (.lst (xs.eraseIdx k))) s' → Q () s') :
    wpAny (model X.prog X.w) X.A (delItem (.ref l) (.int i t)) Q X.xe s := by
  obtain ⟨z, its, n, r, hl, e⟩ := I.lstM hH
  refine PySem.P.delItem_list (k := k) e (fitsIndex_both h1 h2) (by rw [List.size_toArray, ← hl]; exact hk) (h _ ?_) (by rw [List.size_toArray]; omega)
  refine I.lset (its' := its.eraseIdx k) (t' := s.toks) hH e ?_ (r.eraseIdx k) ?_
  · show its.toArray.eraseIdxIfInBounds k = (its.eraseIdx k).toArray
    rw [List.eraseIdxIfInBounds_toArray]
  · have := len_erase xs k
    omega
end

/-! ### xs[a:b] = ys -/
section
variable {prog : Program} {w : World} {A : Around} {E : Value → Shared → Prop} {s : Shared}
theorem splice_eq (its its2 : List Value) (a c : Nat) : its.toArray.extract 0 a ++ its2.toArray ++ its.toArray.extract c its.toArray.size = (its.take a ++ its2 ++ its.drop c).toArray := by
  apply Array.toList_inj.mp
  first
    | (simp
       exact List.take_of_length_le (by simp))
    | simp [List.take_of_length_le]
    | simp
theorem bounds_run {a c n : Nat} (hac : a ≤ c) (hc : c ≤ n) : sliceBounds (some (a : Int)) (some (c : Int)) none n = ((a : Int), (c : Int), 1) := by
  simp only [sliceBounds, Option.getD_none]
  have h1 : ¬ ((a : Int) < 0) := by omega
  have h2 : ¬ ((c : Int) < 0) := by omega
  simp only [h1, h2, if_false, show (1 : Int) > 0 by decide, if_true]
  congr 1
  · omega
  · congr 1; omega
set_option maxRecDepth 100000 in
/-- list.__setitem__ with a slice of step one and another list -/
theorem setItem_slice {l b sl : Addr} {items new : Array Value} {n n2 : Nat} {vl vu : Value} {a c : Nat} {Q : Unit → Shared → Prop}
    (e : s.heap.get? l = some { cls := .type "list", data := .seq items n }) (e2 : s.heap.get? b = some { cls := .type "list", data := .seq new n2 }) (hne : l ≠ b)
    (hs : s.heap.IsSliceOf sl vl vu .none) (pl : IsPart vl (some (a : Int))) (pu : IsPart vu (some (c : Int))) (hac : a ≤ c) (hc : c ≤ items.size)
    (hsz : items.size + new.size ≤ sizeLine) (h : Q () { s with heap := s.heap.update l (Obj.mapSeq fun xs => xs.extract 0 a ++ new ++ xs.extract c xs.size) }) :
    wpAny (model prog w) A (setItem (.ref l) (.ref sl) (.ref b)) Q E s := by
  have hl : s.heap.IsList l items := PySem.IsL.isList e
  have hb : s.heap.IsList b new := PySem.IsL.isList e2
  obtain ⟨os, hos, hcs, hds⟩ := id hs
  have hTs : s.TypeIs (.ref sl) "slice" := ⟨os, hos, hcs⟩
  have hstep : ¬ ((rawPart none == rawInt 0) = true) := Bool.false_ne_true
  have hsame : Builtin.List.listSameRef (.ref l) (.ref b) = false := by
    unfold Builtin.List.listSameRef
    exact beq_eq_false_iff_ne.mpr hne
  have hmax : (max (a : Int) (c : Int)).toNat = c := by omega
  have hz' : ((fun xs : Array Value => xs.extract 0 a ++ new ++ xs.extract c xs.size) items).size ≤ sizeLine + 1 := by
    simp only [Array.size_append, Array.size_extract]
    omega
  unfold setItem
  try with_reducible refine wpAny_holding ?_
  first | refine wpAny_bind (wpAny_pure ?_) | skip
  refine wpAny_bind (wpAny_sequenceKey hl.typeIs (by decide) ?_)
  refine wpAny_bind (wpAny_callSpecial?_slot (name := Str.ofString "__setitem__") hl.typeIs slot_list_setitem
    (wpAny_call_entry slot_list_setitem hl.typeIs entry_list_setitem ?_ (args_list_setitem _ _ _)))
  show wpAny _ _ (Builtin.List.listSubscript? (.ref sl) >>= _) _ _ s
  refine wpAny_bind ?_
  unfold Builtin.List.listSubscript?
  refine wpAny_bind (wpAny_specialOf hTs slice_no_index ?_)
  simp only [Option.isNone_none, if_true]
  refine wpAny_pure ?_
  show wpAny _ _ (typeOf (.ref sl) >>= _) _ _ s
  refine wpAny_bind (wpAny_typeOf hTs ?_)
  first
    | rw [if_neg (by decide)]
    | refine PySem.W.KFB.if_not (by decide) ?_
  rw [listSliceParts_eq]
  refine wpAny_bind (wpAny_bind (wpAny_field hos hds (x := .none) rfl (wpAny_bind (wpAny_listPart .none ?_))))
  rw [if_neg hstep]
  refine wpAny_bind (wpAny_field hos hds (x := vl) rfl (wpAny_bind (wpAny_listPart pl ?_)))
  refine wpAny_bind (wpAny_field hos hds (x := vu) rfl (wpAny_bind (wpAny_listPart pu (wpAny_pure ?_))))
  first
    | simp only [hsame, Bool.false_eq_true, if_false]
    | refine PySem.W.KFB.if_not hsame ?_
    | (dsimp only
       rw [if_neg (by rw [hsame]; exact Bool.false_ne_true)])
  refine wpAny_bind (m := Builtin.List.listAllItems (.ref b) "must assign iterable to extended slice") ?_
  unfold Builtin.List.listAllItems
  refine wpAny_bind (wpAny_typeOf hb.typeIs ?_)
  first
    | refine PySem.W.KFB.if_so (by decide) ?_
    | rw [if_pos (by decide)]
    | simp only [beq_self_eq_true, Bool.true_or, if_true]
  unfold Builtin.List.listItems
  refine wpAny_bind (wpAny_seqItems e2 rfl (wpAny_pure ?_))
  refine wpAny_bind (wpAny_bind (wpAny_seqItems e rfl (wpAny_pure ?_)))
  refine wpAny_bind (wpAny_of_eq ((sliceIndices_raw (some (a : Int)) (some (c : Int)) none items.size (by simp)).trans (congrArg (pure : Int × Int × Int → Sem (Int × Int × Int)) (bounds_run hac hc))) ?_)
  show wpAny _ _ (if ((1 : Int) == 1) = true then _ else _) _ _ s
  rw [if_pos (by decide)]
  refine wpAny_bind (wpAny_rule ?_)
  first
    | simp only [notLongL hsz, Bool.false_eq_true, if_false]
    | refine PySem.W.KFB.if_not (notLongL hsz) ?_
  first | refine wpAny_bind (wpAny_pure ?_) | skip
  show wpAny _ _ (updateSeq l (fun xs => xs.extract 0 ((a : Int)).toNat ++ new ++ xs.extract (max (a : Int) (c : Int)).toNat xs.size) >>= _) _ _ s
  rw [hmax, Int.toNat_natCast]
  refine wpAny_bind (wpAny_updateSeq (hz := Nat.le_trans (Nat.le_add_right _ _) hsz) (_hz' := hz') e rfl ?_)
  refine wpAny_bind (wpAny_letGo ?_)
  first
    | exact wpAny_bind (wpAny_pure (wpAny_pure ⟨.none, rfl, wpAny_pure h⟩))
    | exact wpAny_pure ⟨.none, rfl, wpAny_pure h⟩
end

section
variable {X : Cx}
/-- xs[a:c] = ys of another list, at the value level: sl is the slice object that was just made -/
theorem set_slice {pins : List (Addr × Obj)} {s : Shared} {σ : St} {H : Hp} {l b sl : Addr} {xs ys : List V} {a c : Int} {vl vu : Value} {Q : Unit → Shared → Prop} (I : Inv X pins σ H s)
    (hH : H l = some (.lst xs)) (hB : H b = some (.lst ys)) (hne : l ≠ b) (hs : s.heap.IsSliceOf sl vl vu .none) (ra : RelV (.int a) vl) (rc : RelV (.int c) vu) (h0 : 0 ≤ a) (hac : a ≤ c) (hc : c ≤ xs.length)
    (hz : xs.length + ys.length ≤ sizeLine) (h : ∀ s', Inv X pins σ (upd H l (.lst (xs.take a.toNat ++ ys ++ xs.drop c.toNat))) s' → Q () s') :
    wpAny (model X.prog X.w) X.A (setItem (.ref l) (.ref sl) (.ref b)) Q X.xe s := by
  obtain ⟨ta, rfl⟩ := ra
  obtain ⟨tc, rfl⟩ := rc
  obtain ⟨z, its, n, r, hl, e⟩ := I.lstM hH
  obtain ⟨z2, its2, n2, r2, hl2, e2⟩ := I.lstM hB
  obtain ⟨a', rfl⟩ := Int.eq_ofNat_of_zero_le h0
  obtain ⟨c', rfl⟩ := Int.eq_ofNat_of_zero_le (Int.le_trans h0 hac)
  simp only [Int.toNat_natCast] at h
  refine setItem_slice (a := a') (c := c') e e2 hne hs (.int _ _) (.int _ _) (by omega) (by rw [List.size_toArray]; omega) (by rw [List.size_toArray, List.size_toArray]; omega) (h _ ?_)
  refine I.lset (its' := its.take a' ++ its2 ++ its.drop c') (t' := s.toks) hH e ?_ (Vals.append (Vals.append (r.take _) r2) (r.drop _)) ?_
  · exact splice_eq its its2 a' c'
  · rw [List.length_append, List.length_append, List.length_take, List.length_drop]
    omega
end
end L2

namespace Att
open PySem PySem.W PySem.Calls PyProof.Rows

/-! ### the script -/
theorem ints_of_wellAll {P : Params} {h : Heap} : ∀ (ns : List Int) (vs : List Value), WellAll P h vs (ns.map WData.int) → IntsAre vs ns := by
  intro ns
  induction ns with
  | nil =>
    intro vs w
    rw [List.map_nil] at w
    cases w
    exact .nil
  | cons n ns ih =>
    intro vs w
    rw [List.map_cons] at w
    cases w with
    | cons a b =>
      cases a
      exact .cons _ _ (ih _ b)

theorem script_of {l : OpenLaw} {n : Nat} (hn : l.most = some n) {P : Params} {h : Heap} {args : List WData} {vals : List Value}
    (hpre : l.row.toRowW.claim.pre args = true) (hwl : WellAll P h vals args) :
    ∃ a vs ns, vals = [Value.ref a] ∧ args = [WData.list (ns.map WData.int)] ∧ h.get? a = some { cls := .type "list", data := .seq vs.toArray } ∧ IntsAre vs ns ∧ ns.length ≤ n := by
  have hsh : WShape.hasAll [] args [.list .int] = true := (pre_splitW hpre).1
  have hc : l.pre.holds [] { args := args } = true := (pre_splitW hpre).2
  obtain ⟨d, r, rfl, h1, h2⟩ := hasAllW_cons hsh
  obtain rfl := hasAllW_nil h2
  obtain ⟨xs, rfl, h3⟩ := hasW_list h1
  obtain ⟨ns, rfl⟩ := items_int h3
  have hlen : ns.length ≤ n := by
    unfold OpenLaw.pre at hc
    have h4 : (WTm.not (.lt (.lit (.int (n : Int))) (.len (.arg 0)))).holds [] { args := [.list (ns.map .int)] } = true := by
      have h4 := (holds_andW hc).1
      rw [hn] at h4
      exact h4
    have h5 := condW_of h4 (w_not (w_lt w_lit (w_len_list (w_arg rfl))))
    rw [List.length_map] at h5
    refine Nat.le_of_not_lt fun q => ?_
    have q' : (n : Int) < ((ns.length : Nat) : Int) := by omega
    first
      | (rw [decide_eq_true q'] at h5; exact absurd h5 (by decide))
      | (simp at h5; omega)
  cases hwl with
  | cons w1 w2 =>
    cases w2
    cases w1 with
    | list ho hall => exact ⟨_, _, ns, rfl, rfl, ho, ints_of_wellAll ns _ hall, hlen⟩

theorem post_true (l : OpenLaw) (args : List WData) : l.row.toRowW.claim.post args (.bool true) args = true :=
  postW_of (r := l.row.toRowW) (X := (true == true))
    (show WShape.has [] (.bool true) .bool = true by first | rfl | decide | simp [WShape.has, WShape.arms, WShape.armsAll])
    (show (WTm.eq .res (.lit (.bool true))).value [] { args := args, res := some (.bool true), after := args } = some (.bool (true == true)) from w_eq_bool (w_res rfl) w_lit) rfl

/-! ### the attachment: holds_open's last premise (the goal 'hc' behind k_head) from a wpAny of the law's body -/
theorem attach {l : OpenLaw} {n : Nat} {q : Program} {loose : List Str} {XP : (Str → Option Value) → Heap → Prop} {YP : World → Heap → Prop} {d : DefRec} {x : Str}
    (hn : l.most = some n) (hdf : d.params.defaults = [])
    (hbind : ∀ pm cd doc v : Value, bindArgs (docDef d.name d.params d.body d.scope pm cd doc) ⟨[v], []⟩ = pure [(x, v)])
    (hx : d.scope.names.lookup x = some .local ∨ d.scope.names.lookup x = some .cell)
    (hk : d.scope.kind = .function) (hco : d.scope.isCoroutine = false) (hgen : d.scope.isGenerator = false)
    (body : ∀ (w : World) (s₀ s₁ s : Shared) (mg mb : Str → Option Value) (fa : Addr) (o : Obj) (pm cd doc : Value) (a : Addr) (vs : List Value) (ns : List Int),
      Ground q loose [] XP w s₀ mg mb s₁.heap → YP w s₁.heap →
      s₁.heap.get? fa = some o → o.data = .func (docDef d.name d.params d.body d.scope pm cd doc) → s₁.heap.CodeRec cd d.name → mg d.name = some (.ref fa) →
      s₁.heap.get? a = some { cls := .type "list", data := .seq vs.toArray } → IntsAre vs ns → ns.length ≤ n →
      s.gens = #[] → s.os = s₁.os →
      Fr s₁.heap s₁.heap.objs.size s.heap (bindL (envOfC d.name d.scope s₁.heap.objs.size fa cd).kindOf [(x, .ref a)] fun _ => none) →
      Cl s₁.heap.objs.size (cellsFrom (s₁.heap.objs.size + 1) d.scope.names []) s.heap (bindC (envOfC d.name d.scope s₁.heap.objs.size fa cd).kindOf [(x, .ref a)] fun _ => none) →
      wpAny (model l.prog w) (callerA.deeper (envOfC d.name d.scope s₁.heap.objs.size fa cd)) (execs d.body (envOfC d.name d.scope s₁.heap.objs.size fa cd))
        (fun f s' => f = .ret (.bool true) ∧ OldK s₁.heap s'.heap ∧ s'.os = s₁.os ∧ AllBare s'.gens) (fun _ _ => False) s) :
    WalkO q loose XP YP l.row.toRowW d [] (fun f vs => PySem.call f vs) := by
  intro w s₀ s₁ mg mb G Y fa o pm cd doc dV kV ho hd hcd hD hmg hg args vals as hpre hlay hrd hwl hlo
  obtain rfl : dV = .none := Dflts.none hD hdf
  obtain rfl : kV = .none := Dflts.noKw hD
  obtain ⟨a, vs, ns, rfl, rfl, hobj, hints, hlen⟩ := script_of hn hpre hwl
  refine enter_call ?_
  refine call_cells_ret (o := o) (by rw [depth_caller]; decide) ho (fd_plain hd) G.T.nolimit hcd (hbind pm cd doc (.ref a)) (fun y hy => ?_) (fun h₁ tk F X => ?_) hco hgen hk
  · obtain rfl : y = (x, Value.ref a) := List.mem_singleton.mp hy
    rcases hx with e | e
    · exact .inl e
    · exact .inr ⟨e, cellsFrom_some _ _ _ (.inl e)⟩
  · refine wpAny_mono (body w s₀ s₁ { s₁ with heap := h₁, toks := tk } mg mb fa o pm cd doc a vs ns G Y ho (fd_plain hd) hcd hmg hobj hints hlen hg rfl F X) (fun f s' hq => ?_) (fun _ _ hq => hq)
    obtain ⟨rfl, h2, h3, h4⟩ := hq
    exact ⟨.inl ⟨.bool true, .bool true, [], rfl, fun _ => rfl, .bool true, post_true l _, fun _ => ⟨List.Pairwise.nil, fun _ hm => (nomatch hm)⟩⟩, h2, h3, h4⟩

/-- the same from a codeAny of the CALL (for a layer whose function contracts speak of calls) -/
theorem attach_call {l : OpenLaw} {n : Nat} {q : Program} {loose : List Str} {XP : (Str → Option Value) → Heap → Prop} {YP : World → Heap → Prop} {d : DefRec}
    (hn : l.most = some n) (hdf : d.params.defaults = [])
    (call : ∀ (w : World) (s₀ s₁ : Shared) (mg mb : Str → Option Value) (fa : Addr) (o : Obj) (pm cd doc : Value) (a : Addr) (vs : List Value) (ns : List Int),
      Ground q loose [] XP w s₀ mg mb s₁.heap → YP w s₁.heap →
      s₁.heap.get? fa = some o → o.data = .func (docDef d.name d.params d.body d.scope pm cd doc) → s₁.heap.CodeRec cd d.name → mg d.name = some (.ref fa) →
      s₁.heap.get? a = some { cls := .type "list", data := .seq vs.toArray } → IntsAre vs ns → ns.length ≤ n → s₁.gens = #[] →
      codeAny (model l.prog w) callerA (.call (.ref fa) ⟨[.ref a], []⟩) (fun r s' => r = .ok (.ret (.bool true)) ∧ OldK s₁.heap s'.heap ∧ s'.os = s₁.os ∧ AllBare s'.gens) s₁) :
    WalkO q loose XP YP l.row.toRowW d [] (fun f vs => PySem.call f vs) := by
  intro w s₀ s₁ mg mb G Y fa o pm cd doc dV kV ho hd hcd hD hmg hg args vals as hpre hlay hrd hwl hlo
  obtain rfl : dV = .none := Dflts.none hD hdf
  obtain rfl : kV = .none := Dflts.noKw hD
  obtain ⟨a, vs, ns, rfl, rfl, hobj, hints, hlen⟩ := script_of hn hpre hwl
  refine enter_call (codeAny_mono (call w s₀ s₁ mg mb fa o pm cd doc a vs ns G Y ho (fd_plain hd) hcd hmg hobj hints hlen hg) fun r s' hq => ?_)
  obtain ⟨rfl, h2, h3, h4⟩ := hq
  exact ⟨.inl ⟨.bool true, .bool true, [], rfl, fun _ => rfl, .bool true, post_true l _, fun _ => ⟨List.Pairwise.nil, fun _ hm => (nomatch hm)⟩⟩, h2, h3, h4⟩

/-- the same where the top left finished generators (o_head chose holds_openN): nothing may have changed at all and no generator may be left -/
theorem attachN {l : OpenLaw} {n : Nat} {q : Program} {loose : List Str} {XP : (Str → Option Value) → Heap → Prop} {YP : World → Heap → Prop} {d : DefRec} {x : Str}
    (hn : l.most = some n) (hdf : d.params.defaults = [])
    (hbind : ∀ pm cd doc v : Value, bindArgs (docDef d.name d.params d.body d.scope pm cd doc) ⟨[v], []⟩ = pure [(x, v)])
    (hx : d.scope.names.lookup x = some .local ∨ d.scope.names.lookup x = some .cell)
    (hk : d.scope.kind = .function) (hco : d.scope.isCoroutine = false) (hgen : d.scope.isGenerator = false)
    (body : ∀ (w : World) (s₀ s₁ s : Shared) (mg mb : Str → Option Value) (fa : Addr) (o : Obj) (pm cd doc : Value) (a : Addr) (vs : List Value) (ns : List Int),
      Ground q loose [] XP w s₀ mg mb s₁.heap → YP w s₁.heap →
      s₁.heap.get? fa = some o → o.data = .func (docDef d.name d.params d.body d.scope pm cd doc) → s₁.heap.CodeRec cd d.name → mg d.name = some (.ref fa) →
      s₁.heap.get? a = some { cls := .type "list", data := .seq vs.toArray } → IntsAre vs ns → ns.length ≤ n →
      s.gens = #[] → s.os = s₁.os →
      Fr s₁.heap s₁.heap.objs.size s.heap (bindL (envOfC d.name d.scope s₁.heap.objs.size fa cd).kindOf [(x, .ref a)] fun _ => none) →
      Cl s₁.heap.objs.size (cellsFrom (s₁.heap.objs.size + 1) d.scope.names []) s.heap (bindC (envOfC d.name d.scope s₁.heap.objs.size fa cd).kindOf [(x, .ref a)] fun _ => none) →
      wpAny (model l.prog w) (callerA.deeper (envOfC d.name d.scope s₁.heap.objs.size fa cd)) (execs d.body (envOfC d.name d.scope s₁.heap.objs.size fa cd))
        (fun f s' => f = .ret (.bool true) ∧ (∀ b o, s₁.heap.get? b = some o → s'.heap.get? b = some o) ∧ s'.os = s₁.os ∧ s'.gens = #[]) (fun _ _ => False) s) :
    WalkN q loose XP YP l.row.toRowW d [] (fun f vs => PySem.call f vs) := by
  intro w s₀ s₁ mg mb G Y fa o pm cd doc dV kV ho hd hcd hD hmg hg args vals as hpre hlay hrd hwl hlo
  obtain rfl : dV = .none := Dflts.none hD hdf
  obtain rfl : kV = .none := Dflts.noKw hD
  obtain ⟨a, vs, ns, rfl, rfl, hobj, hints, hlen⟩ := script_of hn hpre hwl
  refine enter_callW ?_
  refine call_cells_ret (o := o) (by rw [depth_caller]; decide) ho (fd_plain hd) G.T.nolimit hcd (hbind pm cd doc (.ref a)) (fun y hy => ?_) (fun h₁ tk F X => ?_) hco hgen hk
  · obtain rfl : y = (x, Value.ref a) := List.mem_singleton.mp hy
    rcases hx with e | e
    · exact .inl e
    · exact .inr ⟨e, cellsFrom_some _ _ _ (.inl e)⟩
  · refine wpAny_mono (body w s₀ s₁ { s₁ with heap := h₁, toks := tk } mg mb fa o pm cd doc a vs ns G Y ho (fd_plain hd) hcd hmg hobj hints hlen hg rfl F X) (fun f s' hq => ?_) (fun _ _ hq => hq)
    obtain ⟨rfl, h2, h3, h4⟩ := hq
    exact ⟨.inl ⟨.bool true, .bool true, [], rfl, fun _ => rfl, .bool true, post_true l _, fun _ => ⟨List.Pairwise.nil, fun _ hm => (nomatch hm)⟩⟩, h2, h3, h4⟩

/-! ### rules over ANY heap (no ledger) from facts about the written part K: the library's own take a ledger (News) for what they write -/
section
variable {prog : Program} {w : World} {A : Around} {E : Value → Shared → Prop} {s : Shared} {K : Frag}

/-- a def of the module, or a method (qual 'C.m'), entered: the frame is the next address; cells behind it -/
theorem call_fn {R : Result → Shared → Prop} {name qual : Str} {params : Arguments} {body : List Stmt} {scope : Scope} {dV kV doc pm cdv ct oc : Value} {an od : Option Addr} {osl : Array (Option Value)} {f : Addr} {args : Args} {binds : List (Str × Value)}
    (X : K.In s.heap) (hlim : s.heap.NoLimit) (ho : K.lookup f = some ⟨oc, od, .func (fnOf name qual params body scope dV kV doc pm an cdv ct), osl⟩) (hcd : codeIn K cdv qual = true) (hroom : A.depth < recursionLimit)
    (hbind : BindsTo s (fnOf name qual params body scope dV kV doc pm an cdv ct) args binds)
    (hkind : (binds.all fun y => scope.names.lookup y.1 == some .local || scope.names.lookup y.1 == some .cell) = true)
    (h : ∀ s₁, InCallC s s.heap.objs.size (bindL (envOfC qual scope s.heap.objs.size f cdv).kindOf binds fun _ => none) (cellsFrom (s.heap.objs.size + 1) scope.names [])
        (bindC (envOfC qual scope s.heap.objs.size f cdv).kindOf binds fun _ => none) s₁ →
      wpAny (model prog w) (A.deeper (envOfC qual scope s.heap.objs.size f cdv)) (execs body (envOfC qual scope s.heap.objs.size f cdv))
        (fun fl s' => R (.ok (.ret (match fl with | .ret v => v | _ => .none))) s')
        (fun e s' => wpAny (model prog w) (A.deeper (envOfC qual scope s.heap.objs.size f cdv)) (leaving (envOfC qual scope s.heap.objs.size f cdv) e) (fun _ s'' => R (.error e) s'') (fun e' s'' => R (.error e') s'') s') s₁)
    (hco : scope.isCoroutine = false) (hgen : scope.isGenerator = false) (hk : scope.kind = .function) : codeAny (model prog w) A (.call (.ref f) args) R s := by
  refine codeAny_call_function hroom (X _ _ ho) rfl hco hgen rfl (codeRec_of X hcd) (hbind _ _ _ _ ?_)
  refine wpAny_newFunctionEnv_cells hk (kindsX hkind _) fun env he s₁ x => ?_
  subst he
  exact ⟨hlim.keeps x.toInCall.keep, codeAny_func (h s₁ x)⟩

/-- C(..): dict at size, instance at size + 1, then __init__ -/
theorem make_obj {R : Result → Shared → Prop} {C fI : Addr} {rest : List Value} {kw : List (Str × Value)}
    (X : K.In s.heap) (hm : makesIn K C = true) (hi : findIn K (.ref C) "__init__" = some (some (.ref fI))) (hf : isFn K (.ref fI) = true)
    (h : codeAny (model prog w) (A.under (.builtin "type.__call__" ⟨.ref C :: rest, kw⟩)) (.call (.ref fI) ⟨.ref (s.heap.objs.size + 1) :: rest, kw⟩) (InitBack (s.heap.objs.size + 1) R)
      { s with heap := (s.heap.push emptyDict).push (instObj C s.heap.objs.size) }) : codeAny (model prog w) A (.call (.ref C) ⟨rest, kw⟩) R s := by
  obtain ⟨hh, g, d, t, os⟩ := s
  exact make_core (makes_of X hm) (looks_findIn X hi) (fun self => bind_fn X self (beq_iff_eq.mp hf)) (.inl rfl) h

/-- x.name where the instance's dict holds the name and the class does not -/
theorem get_field {x C : Addr} {ox : Obj} {es : List DictEntry} {n : Nat} {name : Str} {expr : Bool} {v : Value} {Q : Value → Shared → Prop}
    (X : K.In s.heap) (I : PySem.W.InstAt s.heap x ox C (some (dictOf es n))) (hg : plainGet K C name = true) (hh : hasDictIn K C = true) (ha : findIn K (.ref C) name = some none)
    (hl : getL name es = some (some v)) (hv : handedIn v = true) (h : Q v { s with toks := s.toks + 1 }) : wpAny (model prog w) A (getAttr (.ref x) name expr) Q E s :=
  get_value X I (plainGet_of hg).1 (findObj_own hh ha rfl hl) hv h

/-- x.m(..): the method found in the class -/
theorem get_method {x C f : Addr} {ox : Obj} {es : List DictEntry} {n : Nat} {name : Str} {pl : Sem Bool} {Q : Value × List Value → Shared → Prop}
    (X : K.In s.heap) (I : PySem.W.InstAt s.heap x ox C (some (dictOf es n))) (hg : plainGet K C name = true) (hf : findIn K (.ref C) name = some (some (.ref f))) (ht : isFn K (.ref f) = true)
    (hl : getL name es = some none) (h : Q (.ref f, [.ref x]) s) : wpAny (model prog w) A (getMethod (.ref x) name pl) Q E s :=
  method_fn X I (plainGet_of hg).1 (plainGet_of hg).2 hf (beq_iff_eq.mp ht) (by show (lookIn name (dictOf es n)).map _ = _; rw [lookIn_dict, hl]; rfl) h

/-! the whole heap as the ledger: makes every rule that writes through a ledger a rule over any heap -/
def noObjs (h : Heap) : Heap := { h with objs := #[] }
theorem noObjs_get (h : Heap) (b : Addr) : (noObjs h).get? b = none := by
  cases e : (noObjs h).get? b with
  | none => rfl
  | some o => exact absurd (Heap.lt_size e) (Nat.not_lt_zero _)
def ledger (h : Heap) (L d : Addr) : List (Addr × Obj) := (List.range h.objs.size).filterMap fun a => if a = L ∨ a = d then none else (h.get? a).map fun o => (a, o)
theorem mem_ledger {h : Heap} {L d a : Addr} {o : Obj} : (a, o) ∈ ledger h L d ↔ a ≠ L ∧ a ≠ d ∧ h.get? a = some o := by
  unfold ledger
  rw [List.mem_filterMap]
  constructor
  · rintro ⟨b, _, e⟩
    split at e
    · cases e
    · rename_i hb
      obtain ⟨o', ho, e'⟩ := Option.map_eq_some_iff.mp e
      cases e'
      exact ⟨fun q => hb (.inl q), fun q => hb (.inr q), ho⟩
  · rintro ⟨n1, n2, ho⟩
    refine ⟨a, List.mem_range.mpr (Heap.lt_size ho), ?_⟩
    rw [if_neg (show ¬ (a = L ∨ a = d) from fun q => q.elim n1 n2), ho] <;> rfl
theorem news_ledger {h : Heap} {L d : Addr} {od : Obj} (hne : d ≠ L) (ho : h.get? d = some od) : News (noObjs h) L h ([] ++ (d, od) :: ledger h L d) := by
  rintro ⟨a, o⟩ hp
  rcases List.mem_cons.mp hp with e | hp
  · cases e
    exact ⟨ho, hne, noObjs_get _ _⟩
  · obtain ⟨n1, n2, e⟩ := mem_ledger.mp hp
    exact ⟨e, n1, noObjs_get _ _⟩
theorem fr_all {h : Heap} {L : Addr} {m : Str → Option Value} (n : h.Ns L m) : Fr (noObjs h) L h m :=
  ⟨n, fun b o e => (by rw [noObjs_get] at e; cases e), Nat.zero_le _⟩
/-- Upd of the head entry (for append_K, setItem_K ..) -/
theorem upd_ledger {h : Heap} {L d : Addr} {o o' : Obj} : Upd d o o' ((d, o) :: ledger h L d) ((d, o') :: ledger h L d) :=
  .head fun ⟨_, _⟩ hp => (mem_ledger.mp hp).2.1

/-- x.name = v over any heap: L is any namespace of the heap (the frame's, say): its map stays, its object is not told; all else but the dict stays -/
theorem set_field {x C dx L : Addr} {ox : Obj} {m : Str → Option Value} {es es' : List DictEntry} {n n' : Nat} {name : Str} {v : Value} {Q : Unit → Shared → Prop}
    (X : K.In s.heap) (I : PySem.W.InstAt s.heap x ox C (some (dictOf es n))) (hd : ox.dict = some dx) (hL : s.heap.Ns L m) (hne : dx ≠ L)
    (hs : findIn K (.ref C) "__setattr__" = some (some (.builtin "object.__setattr__"))) (hp : plainOver K C = true) (ht : takerIn K C name = some none) (hh : hasDictIn K C = true) (hl : (getL name es).isSome = true)
    (e : (putL name (PyData.keyHash w.params name) (.str name (s.toks + 1)) v es, putN name es n) = (es', n')) (hz : es'.length ≤ 1000)
    (h : ∀ h' : Heap, h'.Ns L m → h'.get? dx = some (dictOf es' n') → (∀ b o, b ≠ dx → b ≠ L → s.heap.get? b = some o → h'.get? b = some o) → Q () { s with heap := h', toks := s.toks + 2 }) :
    wpAny (model prog w) A (setAttr (.ref x) name v) Q E s := by
  obtain ⟨e1, e2⟩ := Prod.mk.inj e
  have hdx : s.heap.get? dx = some (dictOf es n) := by
    have := I.dict
    rw [hd] at this
    exact this
  refine set_plain X I hs (osa_dict (s := { s with toks := s.toks + 1 }) (h₀ := noObjs s.heap) (L := L) (m := m) (od := dictOf es n) (od' := dictOf es' n') (es := es') (n := n') (pre := []) (post := ledger s.heap L dx)
    (fr_all hL) (news_ledger hne hdx) X I hd hp ht hh hl (fun _ q => nomatch q) (fun ⟨_, _⟩ q => (mem_ledger.mp q).2.1) (by rw [putName_dict, e1, e2]) rfl hz fun h' F' N' => ?_)
  exact h h' F'.ns (N'.get (List.Mem.head _)) fun b o n1 n2 ho => N'.get (List.Mem.tail _ (mem_ledger.mpr ⟨n2, n1, ho⟩))
end
end Att

namespace L2
open PySem PySem.Spec PyProof.Rows

theorem vals_ints : ∀ {vs : List Value} {ns : List Int}, IntsAre vs ns → Vals (ns.map V.int) vs
  | _, _, .nil => .nil
  | _, _, .cons n t h => .cons ⟨t, rfl⟩ (vals_ints h)

/-- nothing is tracked but the script, known to the object (or it is an object of the module) -/
def Only (H : Hp) : Prop := ∀ b, H b = none ∨ ∃ o xs, H b = some (.frz o (.lst xs))

/-- THE HEAD: the law's promise, at the heap behind the top. F, the promise of the law's def, may use that base is part of the heap (so K.In base, base.Ns mainGlobals mg stand in Mod) -/
theorem law_call {P : Program} {w : World} {K : PySem.W.Frag} {mg mb : Str → Option Value} {CX : CXT} {k : Nat} {fa a : Addr} {fd : FuncData} {x : Str} {sp : Sp} {s₁ : Shared} {vs : List Value} {ns : List Int}
    (KX : K.In s₁.heap) (hns : s₁.heap.Ns mainGlobals mg) (hb : s₁.heap.Ns builtinsNs mb) (hbb : ∀ x : Str, x ≠ "__name__" → mb x = bootBuiltins x) (hlim : s₁.heap.NoLimit) (hg : s₁.gens = #[])
    (ha : s₁.heap.get? a = some { cls := .type "list", data := .seq vs.toArray }) (hi : IntsAre vs ns) (hl : ns.length ≤ sizeLine) (hr : Room k callerA)
    (F : ∀ base : Heap, K.In base → base.Ns mainGlobals mg → FnOk P w K mg base CX k fa fd [x] sp) (hbind : ∀ (s : Shared) (u : Value), BindsTo s fd ⟨[u], []⟩ [(x, u)])
    (hsp : ∀ H : Hp, Only H → SqL K H a (ns.map V.int) → sp [.ref a] H (fun v _ => v = .bl true) fun _ _ _ => False)
    (hCX : ∀ H e s', CX [] H s₁ (fun _ _ _ => False) e s' → False) :
    codeAny (model P w) callerA (.call (.ref fa) ⟨[.ref a], []⟩) (fun r s' => r = .ok (.ret (.bool true)) ∧ OldK s₁.heap s'.heap ∧ s'.os = s₁.os ∧ AllBare s'.gens) s₁ := by
  have rv := vals_ints hi
  have lenV := hi.length
  -- from an abstract heap in which nothing but the script may be tracked
  have core : ∀ H : Hp, Only H → SqL K H a (ns.map V.int) → HOk P w H s₁.heap → (∀ b, H b ≠ none → b = a) → (H a ≠ none → K.lookup a = none) →
      codeAny (model P w) callerA (.call (.ref fa) ⟨[.ref a], []⟩) (fun r s' => r = .ok (.ret (.bool true)) ∧ OldK s₁.heap s'.heap ∧ s'.os = s₁.os ∧ AllBare s'.gens) s₁ := by
    intro H hO hS hok hA hK
    have base_of : ∀ {b : Addr} {o : Obj}, s₁.heap.get? b = some o → H b = none → (hidT s₁.heap H).get? b = some o := fun e n => hidT_get e n
    have noA : ∀ {b : Addr} {o : Obj} {es : Array DictEntry} {ep : Nat}, s₁.heap.get? b = some o → o.data = .dict es ep → H b = none := fun {b o es ep} e d => by
      cases q : H b with
      | none => rfl
      | some u =>
        have e' : b = a := hA b (by rw [q]; simp)
        subst e'
        rw [ha] at e; cases e
        have d' : Data.seq vs.toArray _ = Data.dict es ep := d
        cases d'
    have nsK : ∀ {b : Addr} {m : Str → Option Value}, s₁.heap.Ns b m → (hidT s₁.heap H).Ns b m := fun {b m} ⟨o, es, ep, e, d, r⟩ => ⟨o, es, ep, base_of e (noA e d), d, r⟩
    have hKb : K.In (hidT s₁.heap H) := fun b o e => base_of (KX b o e) (by
      cases q : H b with
      | none => rfl
      | some u =>
        have e' : b = a := hA b (by rw [q]; simp)
        subst e'
        rw [hK (by rw [q]; simp)] at e; cases e)
    have hM : Mod K mg (hidT s₁.heap H) := ⟨hKb, nsK hns, ⟨mb, nsK hb, hbb⟩, let ⟨mc, h1, h2⟩ := hlim; ⟨mc, nsK h1, h2⟩⟩
    have e0 : Env0 P w K mg (hidT s₁.heap H) callerA [] s₁ H := ⟨rfl, hM, fun b o e => of_hidT e, Nat.le_of_eq (hidT_size _ _), trivial, fun b hb => absurd (show b ∈ ([] : List Addr) from hb) (by simp), hok, .of_eq hg⟩
    refine codeAny_mono ((F _ hKb (nsK hns)).run callerA [] s₁ H ⟨[.ref a], []⟩ [.ref a] [.ref a] _ _ hr e0 (hbind s₁ (.ref a)) (.cons rfl .nil) (hsp H hO hS)) fun r s' h => ?_
    cases r with
    | error e => exact (hCX H e s' h).elim
    | ok fl =>
      cases fl with
      | next => exact False.elim h
      | brk => exact False.elim h
      | cont => exact False.elim h
      | ret u =>
        obtain ⟨v, H', os, bare, un, hok', r', q⟩ := h
        have q' : v = .bl true := q
        subst q'
        obtain rfl : u = Value.bool true := r'
        refine ⟨rfl, OldK.of_keep fun b o e => ?_, os, bare⟩
        cases q : H b with
        | none => exact un.keep b o e q (by intro z; exact absurd (show b ∈ ([] : List Addr) from z) (by simp)) (by simp)
        | some u =>
          rcases hO b with z | ⟨ob, xs, z⟩
          · rw [q] at z; cases z
          · have z2 := un.frzs b ob _ z
            obtain ⟨e1, _⟩ := hok b _ z
            obtain ⟨e2, _⟩ := hok' b _ z2
            rw [e] at e1; cases e1
            exact e2
  cases hk : K.lookup a with
  | some o =>
    -- the script is one of the module's own objects
    have e := KX a o hk
    rw [ha] at e
    cases e
    refine core (fun _ => none) (fun _ => .inl rfl) (.inr ⟨_, vs.toArray, _, hk, rfl, rfl, rfl, by rw [List.size_toArray, lenV]; exact hl, by simpa using rv⟩) (fun b u z => by have z' : (none : Option HO) = some u := z; cases z') (fun b z => absurd rfl z) fun z => absurd rfl z
  | none =>
    refine core (fun b => if b = a then some (.frz { cls := .type "list", data := .seq vs.toArray } (.lst (ns.map V.int))) else none) (fun b => ?_) (.inl (.inr ⟨{ cls := .type "list", data := .seq vs.toArray }, if_pos rfl⟩)) (fun b u z => ?_) (fun b z => ?_) fun _ => hk
    · by_cases hb : b = a
      · exact .inr ⟨_, _, if_pos hb⟩
      · exact .inl (if_neg hb)
    · by_cases hb : b = a
      · have z' := (if_pos hb).symm.trans z
        cases z'
        subst hb
        exact ⟨ha, by rw [List.length_map]; exact hl, vs, _, rv, ha⟩
      · have z' := (if_neg hb).symm.trans z
        cases z'
    · by_cases hb : b = a
      · exact hb
      · exact absurd (if_neg hb) z
end L2

namespace L2
open PySem PySem.Spec PyProof.Rows

abbrev KOf {K : PySem.W.Frag} {h : Heap} (_ : K.In h) : PySem.W.Frag := K

/-- the goal that k_head leaves (case hc), from the law's promise. F gives the function object fd (K's own) once, then the promise over every base -/
theorem walk_of {l : PySem.W.OpenLaw} {n k : Nat} {q : Program} {loose : List Str} {XP : (Str → Option Value) → Heap → Prop} {YP : World → Heap → Prop} {d : DefRec} {K : Params → PySem.W.Frag} {CX : World → CXT} {sp : World → Sp} {x : Str}
    (hn : l.most = some n) (hn2 : n ≤ sizeLine) (hdf : d.params.defaults = []) (hr : Room k callerA)
    (hY : ∀ (w : World) (h : Heap), YP w h → (K w.params).In h)
    (F : ∀ (w : World) (mg : Str → Option Value) (fa : Addr) (h : Heap), (K w.params).In h → h.Ns mainGlobals mg → mg d.name = some (.ref fa) →
      ∃ fd : FuncData, (∀ (s : Shared) (u : Value), BindsTo s fd ⟨[u], []⟩ [(x, u)]) ∧
        ∀ base : Heap, (K w.params).In base → base.Ns mainGlobals mg → FnOk l.prog w (K w.params) mg base (CX w) k fa fd [x] (sp w))
    (hsp : ∀ (w : World) (H : Hp) (a : Addr) (ns : List Int), ns.length ≤ n → Only H → SqL (K w.params) H a (ns.map V.int) → sp w [.ref a] H (fun v _ => v = .bl true) fun _ _ _ => False)
    (hCX : ∀ (w : World) (H : Hp) (s : Shared) (e : Value) (s' : Shared), CX w [] H s (fun _ _ _ => False) e s' → False) :
    PySem.W.WalkO q loose XP YP l.row.toRowW d [] (fun f vs => PySem.call f vs) := by
  refine Att.attach_call hn hdf fun w s₀ s₁ mg mb fa o pm cd doc a vs ns G Y ho hd hcd hmg hobj hints hlen hg => ?_
  have KX := hY w _ Y
  obtain ⟨fd, hb, hF⟩ := F w mg fa _ KX G.T.g hmg
  exact law_call KX G.T.g G.T.b G.T.builtins G.T.nolimit hg hobj hints (Nat.le_trans hlen hn2) hr hF hb (fun H hO hS => hsp w H a ns hlen hO hS) fun H e s' => hCX w H s₁ e s'
/-- the same where the promise hangs on the written part alone: (sp := My.sp_law), no hole under a binder -/
theorem walk_ofK {l : PySem.W.OpenLaw} {n k : Nat} {q : Program} {loose : List Str} {XP : (Str → Option Value) → Heap → Prop} {YP : World → Heap → Prop} {d : DefRec} {K : Params → PySem.W.Frag} {CX : CXT} {sp : PySem.W.Frag → Sp} {x : Str}
    (hn : l.most = some n) (hn2 : n ≤ sizeLine) (hdf : d.params.defaults = []) (hr : Room k callerA)
    (hY : ∀ (w : World) (h : Heap), YP w h → (K w.params).In h)
    (F : ∀ (w : World) (mg : Str → Option Value) (fa : Addr) (h : Heap), (K w.params).In h → h.Ns mainGlobals mg → mg d.name = some (.ref fa) →
      ∃ fd : FuncData, (∀ (s : Shared) (u : Value), BindsTo s fd ⟨[u], []⟩ [(x, u)]) ∧
        ∀ base : Heap, (K w.params).In base → base.Ns mainGlobals mg → FnOk l.prog w (K w.params) mg base CX k fa fd [x] (sp (K w.params)))
    (hsp : ∀ (K : PySem.W.Frag) (H : Hp) (a : Addr) (ns : List Int), ns.length ≤ n → Only H → SqL K H a (ns.map V.int) → sp K [.ref a] H (fun v _ => v = .bl true) fun _ _ _ => False)
    (hCX : ∀ (H : Hp) (s : Shared) (e : Value) (s' : Shared), CX [] H s (fun _ _ _ => False) e s' → False) :
    PySem.W.WalkO q loose XP YP l.row.toRowW d [] (fun f vs => PySem.call f vs) :=
  walk_of (K := K) (CX := fun _ => CX) (sp := fun w => sp (K w.params)) hn hn2 hdf hr hY F (fun w H a ns h1 h2 h3 => hsp (K w.params) H a ns h1 h2 h3) fun _ H s e s' => hCX H s e s'
end L2

/- THE LAST THEOREM (shape; LID, My.* are yours):
   My.Adr: a structure of the addresses that your layer names (classes, functions); My.Txt K t: a structure (Prop) of the equations over K;
   My.txt_mk : {K} {implicit addresses ..} (e1 : nsIn K mainGlobals "law" = some (some (.ref f))) (e2 : K.lookup f = some ⟨oc, od, .func (fnOf "law" "law" params body scope dV kV doc pm an cdv ct), sl⟩) (e3 : codeIn K cdv "law" = true) .. : ∃ t, My.Txt K t

set_option maxRecDepth 100000 in
set_option maxHeartbeats 0 in
theorem PySem.Challenge.cw_LID_holds : PySem.Challenge.rw_LID.Holds := by
  w_on; o_law; k_head; (case hw => w_witness2)
  k_fill
  refine L2.walk_of (l := PySem.Challenge.rw_LID) (n := 63) (k := 40) (x := "script") (CX := fun w => ..) (sp := fun _ => My.sp_law) rfl (by decide) rfl ⟨rfl, by decide, by decide⟩ (fun w h Y => PySem.W.kIn_of Y) ?F ?S ?C
  case F =>
    intro w mg fa h KX G hmg
    have T : ∃ t, My.Txt (L2.KOf KX) t := by
      dsimp only [L2.KOf]                          -- K must stand as «<heap const> w.params» for k_is
      refine' My.txt_mk ?e1 ?e2 ?e3 ..
      (case e1 => PySem.W.k_is)                    -- in the order: a name -> its address -> its object -> its parts
      (case e2 => PySem.W.k_is)
      ..
    obtain ⟨t, T⟩ := T
    have e0 := hmg.symm.trans (PySem.W.mg_of KX G T.law)
    cases e0                                       -- fa is the law's own address
    exact ⟨_, fun s u => .of_eq rfl, fun base kb nb => My.law_fn T kb nb⟩     -- if «.of_eq rfl» comes too early: refine' ⟨_, ?b, fun base kb nb => My.law_fn T kb nb⟩; exact fun s u => .of_eq rfl
  case S => exact fun w H a ns hl hO hS => ..
  case C => exact ..
(the tactic k_is has no namespace: write k_is) -/

/-! SHORT WORDS over the layer: a def of the text, its body, what a loop and a test want. -/
namespace L2
open PySem PySem.Spec PyProof.Rows

/-! ### the text by places -/
/-- the j-th statement of a class's body -/
def inClass (s : Stmt) (j : Nat) : Stmt := match s with
  | .ClassDef _ _ _ body _ _ _ _ _ _ _ => body.getD j (.Pass ⟨0, 0, 0, 0⟩)
  | _ => .Pass ⟨0, 0, 0, 0⟩
def defArgs (s : Stmt) : Arguments := match s with
  | .FunctionDef _ a _ _ _ _ _ _ _ _ => a
  | _ => { posonlyargs := [], args := [], vararg := none, kwonlyargs := [], kw_defaults := [], kwarg := none, defaults := [] }
def defBody (s : Stmt) : List Stmt := match s with
  | .FunctionDef _ _ b _ _ _ _ _ _ _ => b
  | _ => []
def defScope (s : Stmt) : Scope := match s with
  | .FunctionDef _ _ _ _ _ _ sc _ _ _ => sc
  | _ => { kind := .function, names := [], isGenerator := false, isCoroutine := false }

/-! ### no exception leaves a def -/
abbrev CX0 : CXT := fun _ _ _ _ _ _ => False
abbrev E0 : XK := fun _ _ _ => False
theorem pass0 {X : Cx} : Passes CX0 X E0 := fun _ _ _ _ _ _ _ h => h.elim

/-! ### a def (or method) of the text as it stands behind the top -/
structure Fun (K : PySem.W.Frag) (x qual : Str) (st : Stmt) (f : Addr) (fd : FuncData) : Prop where
  ex : ∃ (oc : Value) (od : Option Addr) (kV doc pm : Value) (an : Option Addr) (cdv ct : Value) (osl : Array (Option Value)),
    fd = PySem.W.fnOf x qual (defArgs st) (defBody st) (defScope st) .none kV doc pm an cdv ct ∧ K.lookup f = some ⟨oc, od, .func fd, osl⟩ ∧ PySem.W.codeIn K cdv qual = true
  kp : PySem.W.keepIn K (.ref f) = true
section
variable {P : Program} {w : World} {K : PySem.W.Frag} {mg : Str → Option Value} {base : Heap}
/-- THE RULE for a def: its body as a term of rules, and the reading of that term -/
theorem Fun.ok {x qual : Str} {st : Stmt} {f : Addr} {fd : FuncData} {N ps : List Str} {k : Nat} {sp : Sp} (F : Fun K x qual st f fd) (S : FnScope N ps (defScope st)) (len : ∀ vs H Q E, sp vs H Q E → vs.length = ps.length)
    (hbody : ∀ (cdv : Value) (A : Around) (outer : List Env) (s : Shared) (H : Hp) (vs : List V) (Q : VK) (E : XK), Room k (A.deeper (envOfC qual (defScope st) s.heap.objs.size f cdv)) → sp vs H Q E →
      ∃ t, PSs (cxOf CX0 P w K mg base N qual (defScope st) f cdv A outer s H E).nox (defBody st) t ∧ t { nx := fun _ H' => Q .non H', rt := Q } (start N vs) H) : FnOk P w K mg base CX0 (k + 1) f fd ps sp := by
  obtain ⟨oc, od, kV, doc, pm, an, cdv, ct, osl, rfl, lk, hcd⟩ := F.ex
  refine fn_of lk hcd S len fun A outer s H vs Q E hr hsp => ?_
  obtain ⟨t, h, q⟩ := hbody cdv A outer s H vs Q E hr hsp
  exact ⟨t, h.nox, q⟩
/-- how its arguments bind (no defaults): h is «fun _ _ _ _ _ _ us hl => match us, hl with | [_, _], _ => rfl», one _ a parameter -/
theorem Fun.binds {x qual : Str} {st : Stmt} {f : Addr} {fd : FuncData} {ps : List Str} (F : Fun K x qual st f fd)
    (h : ∀ (kV doc pm : Value) (an : Option Addr) (cdv ct : Value) (us : List Value), us.length = ps.length → bindArgs (PySem.W.fnOf x qual (defArgs st) (defBody st) (defScope st) .none kV doc pm an cdv ct) ⟨us, []⟩ = pure (ps.zip us)) : Binds K fd ps [] := by
  obtain ⟨oc, od, kV, doc, pm, an, cdv, ct, osl, rfl, lk, hcd⟩ := F.ex
  exact .all (h kV doc pm an cdv ct)
theorem fun_mk {x qual : Str} {st : Stmt} {f : Addr} {oc : Value} {od an : Option Addr} {osl : Array (Option Value)} {kV doc pm cdv ct : Value} (l : K.lookup f = some ⟨oc, od, .func (PySem.W.fnOf x qual (defArgs st) (defBody st) (defScope st) .none kV doc pm an cdv ct), osl⟩)
    (c : PySem.W.codeIn K cdv qual = true) (k : PySem.W.keepIn K (.ref f) = true) : Fun K x qual st f (PySem.W.fnOf x qual (defArgs st) (defBody st) (defScope st) .none kV doc pm an cdv ct) := ⟨⟨oc, od, kV, doc, pm, an, cdv, ct, osl, rfl, l, c⟩, k⟩
end
theorem hu_of {A : Around} {k : Nat} (hr : Room k A) : A.units + 1 < cLine := Nat.lt_of_le_of_lt (Nat.add_le_add_left (by decide : 1 ≤ 64) _) hr.units
theorem small1000 {n : Nat} (h : n ≤ 1000) : n < sizeLine := Nat.lt_of_le_of_lt h (by decide)

/-! ### expressions in short: the name that stands in the i-th slot -/
section
variable {X : Cx}
theorem pv (i : Nat) {x : Str} {pos : Pos} (hN : X.N[i]? = some x := by rfl) (hv : Vis X.env.scope x := by first | exact Or.inl rfl | exact Or.inr (Or.inl rfl) | exact Or.inr (Or.inr rfl)) (hd : (x == ("__debug__" : Str)) = false := by decide)
    (hcd : (x == ("__classdict__" : Str)) = false := by decide) : PE X (.Name x pos) (tVar i) := pe_var hN hv hd hcd
end

/-! ### tests -/
theorem iteF {A B : Prop} (h : B) : if false = true then A else B := by
  rw [if_neg Bool.false_ne_true]
  exact h
theorem iteT {A B : Prop} (h : A) : if true = true then A else B := by
  rw [if_pos rfl]
  exact h
theorem ite2 {c A B : Prop} [Decidable c] (h1 : c → A) (h2 : ¬ c → B) : if c then A else B := by
  by_cases h : c
  · rw [if_pos h]
    exact h1 h
  · rw [if_neg h]
    exact h2 h
theorem iteNS {c A B : Prop} [Decidable c] (hc : c) (h : B) : if (!decide c) = true then A else B := by
  rw [decide_eq_true hc]
  exact iteF h

/-! ### heaps -/
/-- all that was tracked is as it was -/
def Same (H H' : Hp) : Prop := ∀ b o, H b = some o → H' b = some o
theorem Same.refl (H : Hp) : Same H H := fun _ _ h => h
theorem Same.trans {H H1 H2 : Hp} (a : Same H H1) (b : Same H1 H2) : Same H H2 := fun c o h => b c o (a c o h)
theorem Same.free {H H' : Hp} (e : Same H H') {l : Addr} (h : H' l = Option.none) : H l = Option.none := by
  cases q : H l with
  | none => rfl
  | some o =>
    rw [e l o q] at h
    cases h
theorem Same.seq {K : PySem.W.Frag} {H H' : Hp} {a : Addr} {xs : List V} (e : Same H H') (h : SqL K H a xs) : SqL K H' a xs := by
  rcases h with (h | ⟨o, h⟩) | h
  · exact .inl (.inl (e _ _ h))
  · exact .inl (.inr ⟨o, e _ _ h⟩)
  · exact .inr h

end L2
set_option Elab.async false
set_option linter.all false
set_option maxRecDepth 100000
/-! MIRROR, part A: plain data, what stands for it in the heap, how a state may evolve. -/
namespace Mw
open PySem L2

/-- plain data: what a value is worth, without addresses. scr: the law's own list (read, never written) -/
inductive D where
  | non | bl (b : Bool) | int (i : Int) | str (x : Str) | tup (xs : List D) | lst (xs : List D) | scr (xs : List D)

abbrev OS := Addr → Prop
abbrev MS := List (Option (D × Bool))

/-! ### a value stands for data -/
/-- the law's own list: frozen, or an object of the module -/
def SqF (K : PySem.W.Frag) (H : Hp) (a : Addr) (xs : List V) : Prop :=
  (∃ o, H a = some (.frz o (.lst xs))) ∨
    ∃ (o : Obj) (its : Array Value) (n : Nat), K.lookup a = some o ∧ o.cls = .type "list" ∧ o.dict = none ∧ o.data = .seq its n ∧ its.size ≤ sizeLine ∧ Vals xs its.toList
theorem SqF.sq {K : PySem.W.Frag} {H : Hp} {a : Addr} {xs : List V} (h : SqF K H a xs) : SqL K H a xs := by
  rcases h with h | h
  · exact .inl (.inr h)
  · exact .inr h
mutual
def Rep (K : PySem.W.Frag) (O : OS) (H : Hp) : D → V → Prop
  | .non, v => v = .non
  | .bl b, v => v = .bl b
  | .int i, v => v = .int i
  | .str x, v => v = .str x
  | .tup ds, v => ∃ a xs, v = .ref a ∧ SqT K H a xs ∧ Reps K O H ds xs
  | .lst ds, v => ∃ a xs, v = .ref a ∧ H a = some (.lst xs) ∧ ¬ O a ∧ Reps K O H ds xs
  | .scr ds, v => ∃ a xs, v = .ref a ∧ SqF K H a xs ∧ Reps K O H ds xs
def Reps (K : PySem.W.Frag) (O : OS) (H : Hp) : List D → List V → Prop
  | [], xs => xs = []
  | d :: ds, xs => ∃ x r, xs = x :: r ∧ Rep K O H d x ∧ Reps K O H ds r
end

section
variable {K : PySem.W.Frag} {O O' : OS} {H H' : Hp}
mutual
theorem Rep.mono (hT : ∀ a xs, SqT K H a xs → SqT K H' a xs) (hL : ∀ a xs, H a = some (.lst xs) → ¬ O a → H' a = some (.lst xs) ∧ ¬ O' a)
    (hS : ∀ a xs, SqF K H a xs → SqF K H' a xs) : ∀ (d : D) (v : V), Rep K O H d v → Rep K O' H' d v
  | .non, v, h => by simp only [Rep] at h ⊢; exact h
  | .bl b, v, h => by simp only [Rep] at h ⊢; exact h
  | .int i, v, h => by simp only [Rep] at h ⊢; exact h
  | .str x, v, h => by simp only [Rep] at h ⊢; exact h
  | .tup ds, v, h => by
    simp only [Rep] at h ⊢
    obtain ⟨a, xs, e, hs, r⟩ := h
    exact ⟨a, xs, e, hT a xs hs, Reps.mono hT hL hS ds xs r⟩
  | .lst ds, v, h => by
    simp only [Rep] at h ⊢
    obtain ⟨a, xs, e, hs, ho, r⟩ := h
    exact ⟨a, xs, e, (hL a xs hs ho).1, (hL a xs hs ho).2, Reps.mono hT hL hS ds xs r⟩
  | .scr ds, v, h => by
    simp only [Rep] at h ⊢
    obtain ⟨a, xs, e, hs, r⟩ := h
    exact ⟨a, xs, e, hS a xs hs, Reps.mono hT hL hS ds xs r⟩
theorem Reps.mono (hT : ∀ a xs, SqT K H a xs → SqT K H' a xs) (hL : ∀ a xs, H a = some (.lst xs) → ¬ O a → H' a = some (.lst xs) ∧ ¬ O' a)
    (hS : ∀ a xs, SqF K H a xs → SqF K H' a xs) : ∀ (ds : List D) (xs : List V), Reps K O H ds xs → Reps K O' H' ds xs
  | [], xs, h => by simp only [Reps] at h ⊢; exact h
  | d :: ds, xs, h => by
    simp only [Reps] at h ⊢
    obtain ⟨x, r, e, h1, h2⟩ := h
    exact ⟨x, r, e, Rep.mono hT hL hS d x h1, Reps.mono hT hL hS ds r h2⟩
end

/-! ### lists of them -/
theorem Reps.nil : Reps K O H [] [] := by simp only [Reps]
theorem Reps.cons {d : D} {ds : List D} {x : V} {xs : List V} (h : Rep K O H d x) (r : Reps K O H ds xs) : Reps K O H (d :: ds) (x :: xs) := by
  simp only [Reps]; exact ⟨x, xs, rfl, h, r⟩
theorem Reps.nil_inv {xs : List V} (h : Reps K O H [] xs) : xs = [] := by simpa only [Reps] using h
theorem Reps.cons_inv {d : D} {ds : List D} {xs : List V} (h : Reps K O H (d :: ds) xs) : ∃ x r, xs = x :: r ∧ Rep K O H d x ∧ Reps K O H ds r := by simpa only [Reps] using h
theorem Reps.length : ∀ {ds : List D} {xs : List V}, Reps K O H ds xs → ds.length = xs.length
  | [], xs, h => by rw [h.nil_inv]; rfl
  | d :: ds, xs, h => by
    obtain ⟨x, r, rfl, _, h2⟩ := h.cons_inv
    rw [List.length_cons, List.length_cons, Reps.length h2]
theorem Reps.get : ∀ {ds : List D} {xs : List V} {i : Nat} {d : D}, Reps K O H ds xs → ds[i]? = some d → ∃ x, xs[i]? = some x ∧ Rep K O H d x
  | [], xs, i, d, h, e => by simp at e
  | d' :: ds, xs, 0, d, h, e => by
    obtain ⟨x, r, rfl, h1, _⟩ := h.cons_inv
    simp at e; subst e
    exact ⟨x, rfl, h1⟩
  | d' :: ds, xs, i + 1, d, h, e => by
    obtain ⟨x, r, rfl, _, h2⟩ := h.cons_inv
    obtain ⟨y, e1, e2⟩ := Reps.get (i := i) h2 (by simpa using e)
    exact ⟨y, by simpa using e1, e2⟩
theorem Reps.get' {ds : List D} {xs : List V} {i : Nat} {x : V} (h : Reps K O H ds xs) (e : xs[i]? = some x) : ∃ d, ds[i]? = some d ∧ Rep K O H d x := by
  have hl := h.length
  have hi : i < ds.length := by rw [hl]; exact (List.getElem?_eq_some_iff.mp e).1
  obtain ⟨y, e1, e2⟩ := h.get (i := i) (List.getElem?_eq_getElem hi)
  rw [e] at e1; cases e1
  exact ⟨_, List.getElem?_eq_getElem hi, e2⟩
theorem Reps.append : ∀ {ds ds' : List D} {xs xs' : List V}, Reps K O H ds xs → Reps K O H ds' xs' → Reps K O H (ds ++ ds') (xs ++ xs')
  | [], _, xs, _, h, h' => by rw [h.nil_inv]; exact h'
  | d :: ds, _, xs, _, h, h' => by
    obtain ⟨x, r, rfl, h1, h2⟩ := h.cons_inv
    exact .cons h1 (h2.append h')
theorem Reps.take : ∀ {ds : List D} {xs : List V} (n : Nat), Reps K O H ds xs → Reps K O H (ds.take n) (xs.take n)
  | _, _, 0, _ => by simpa using Reps.nil
  | [], xs, n + 1, h => by rw [h.nil_inv]; simpa using Reps.nil
  | d :: ds, xs, n + 1, h => by
    obtain ⟨x, r, rfl, h1, h2⟩ := h.cons_inv
    exact .cons h1 (h2.take n)
theorem Reps.drop : ∀ {ds : List D} {xs : List V} (n : Nat), Reps K O H ds xs → Reps K O H (ds.drop n) (xs.drop n)
  | _, _, 0, h => by simpa using h
  | [], xs, n + 1, h => by rw [h.nil_inv]; simpa using Reps.nil
  | d :: ds, xs, n + 1, h => by
    obtain ⟨x, r, rfl, h1, h2⟩ := h.cons_inv
    exact h2.drop n
theorem Reps.set {d : D} {x : V} (hd : Rep K O H d x) : ∀ {ds : List D} {xs : List V} (n : Nat), Reps K O H ds xs → Reps K O H (ds.set n d) (xs.set n x)
  | [], xs, n, h => by rw [h.nil_inv]; simpa using Reps.nil
  | d' :: ds, xs, 0, h => by
    obtain ⟨y, r, rfl, h1, h2⟩ := h.cons_inv
    exact .cons hd h2
  | d' :: ds, xs, n + 1, h => by
    obtain ⟨y, r, rfl, h1, h2⟩ := h.cons_inv
    exact .cons h1 (Reps.set hd n h2)
theorem Reps.eraseIdx : ∀ {ds : List D} {xs : List V} (n : Nat), Reps K O H ds xs → Reps K O H (ds.eraseIdx n) (xs.eraseIdx n)
  | [], xs, n, h => by rw [h.nil_inv]; simpa using Reps.nil
  | d' :: ds, xs, 0, h => by
    obtain ⟨y, r, rfl, h1, h2⟩ := h.cons_inv
    simpa using h2
  | d' :: ds, xs, n + 1, h => by
    obtain ⟨y, r, rfl, h1, h2⟩ := h.cons_inv
    simpa using Reps.cons h1 (h2.eraseIdx n)
theorem Reps.rep {ds : List D} {xs : List V} (h : Reps K O H ds xs) : ∀ k : Nat, Reps K O H (List.replicate k ds).flatten (List.replicate k xs).flatten
  | 0 => by simpa using Reps.nil
  | k + 1 => by rw [List.replicate_succ, List.flatten_cons, List.replicate_succ, List.flatten_cons]; exact h.append (h.rep k)
theorem Reps.ints : ∀ {ns : List Int} {xs : List V}, xs = ns.map V.int → Reps K O H (ns.map D.int) xs
  | [], xs, e => by rw [e]; exact Reps.nil
  | n :: ns, xs, e => by rw [e]; exact .cons (by simp only [Rep]) (Reps.ints rfl)
end

/-! ### a state: the frame's slots, what they are worth, the heap, the addresses that one slot or one value in flight alone holds -/
structure Sd where
  sg : St
  M : MS
  H : Hp
  O : OS
/-- a slot alone holds the list at a -/
def SO (A : Sd) (a : Addr) : Prop := ∃ (i : Nat) (d : D), A.M[i]? = some (some (d, true)) ∧ A.sg[i]? = some (some (V.ref a))

structure RelM (K : PySem.W.Frag) (A : Sd) : Prop where
  len : A.M.length = A.sg.length
  shr : ∀ (i : Nat) (d : D), A.M[i]? = some (some (d, false)) → ∃ v, A.sg[i]? = some (some v) ∧ Rep K A.O A.H d v
  own : ∀ (i : Nat) (d : D), A.M[i]? = some (some (d, true)) → ∃ a xs ds, d = .lst ds ∧ A.sg[i]? = some (some (V.ref a)) ∧ A.O a ∧ A.H a = some (.lst xs) ∧ Reps K A.O A.H ds xs
  inj : ∀ (i j : Nat) (d e : D) (a : Addr), A.M[i]? = some (some (d, true)) → A.M[j]? = some (some (e, true)) → A.sg[i]? = some (some (V.ref a)) → A.sg[j]? = some (some (V.ref a)) → i = j
  sub : ∀ a, A.O a → A.H a ≠ none

/-- from A to B: what no slot alone holds is as it was; what is newly held alone is new -/
structure Evo (A B : Sd) : Prop where
  keep : ∀ a o, A.H a = some o → ¬ SO A a → B.H a = some o
  there : ∀ a, A.H a ≠ none → B.H a ≠ none
  sub : ∀ a, B.O a → A.O a ∨ A.H a = none
  sup : ∀ a, A.O a → ¬ SO A a → B.O a
  own : ∀ a, SO B a → SO A a ∨ A.H a = none

theorem Evo.refl (A : Sd) : Evo A A := ⟨fun _ _ h _ => h, fun _ h => h, fun _ h => .inl h, fun _ h _ => h, fun _ h => .inl h⟩
theorem Evo.trans {A B C : Sd} (x : Evo A B) (y : Evo B C) (hs : ∀ a, A.O a → A.H a ≠ none) : Evo A C where
  keep := fun a o h n => y.keep a o (x.keep a o h n) fun z => (x.own a z).elim n fun q => by rw [h] at q; cases q
  there := fun a h => y.there a (x.there a h)
  sub := fun a h => by
    rcases y.sub a h with h | h
    · exact x.sub a h
    · refine .inr ?_
      cases q : A.H a with
      | none => rfl
      | some o => exact absurd h (x.there a (by rw [q]; exact fun z => by cases z))
  sup := fun a h n => y.sup a (x.sup a h n) fun z => (x.own a z).elim n fun q => hs a h q
  own := fun a h => by
    rcases y.own a h with h | h
    · exact x.own a h
    · refine .inr ?_
      cases q : A.H a with
      | none => rfl
      | some o => exact absurd h (x.there a (by rw [q]; exact fun z => by cases z))
theorem Evo.new {A B : Sd} (x : Evo A B) {a : Addr} (h : B.H a = none) : A.H a = none := by
  cases q : A.H a with
  | none => rfl
  | some o => exact absurd h (x.there a (by rw [q]; exact fun z => by cases z))

section
variable {K : PySem.W.Frag} {A B C : Sd}
theorem RelM.so_lst (r : RelM K A) {a : Addr} (h : SO A a) : ∃ xs, A.H a = some (.lst xs) := by
  obtain ⟨i, d, h1, h2⟩ := h
  obtain ⟨b, xs, ds, _, e, _, e2, _⟩ := r.own i d h1
  rw [h2] at e; cases e
  exact ⟨xs, e2⟩
theorem RelM.so_O (r : RelM K A) {a : Addr} (h : SO A a) : A.O a := by
  obtain ⟨i, d, h1, h2⟩ := h
  obtain ⟨b, xs, ds, _, e, o, e2, _⟩ := r.own i d h1
  rw [h2] at e; cases e
  exact o
theorem SqT_of {H H' : Hp} (k : ∀ a o, H a = some o → (∀ xs, o ≠ .lst xs) → H' a = some o) {a : Addr} {xs : List V} (h : SqT K H a xs) : SqT K H' a xs := by
  rcases h with (h | ⟨o, h⟩) | h
  · exact .inl (.inl (k _ _ h fun xs z => by cases z))
  · exact .inl (.inr ⟨o, k _ _ h fun xs z => by cases z⟩)
  · exact .inr h
theorem SqF_of {H H' : Hp} (k : ∀ a o, H a = some o → (∀ xs, o ≠ .lst xs) → H' a = some o) {a : Addr} {xs : List V} (h : SqF K H a xs) : SqF K H' a xs := by
  rcases h with ⟨o, h⟩ | h
  · exact .inl ⟨o, k _ _ h fun xs z => by cases z⟩
  · exact .inr h
theorem Rep.evo (r : RelM K A) (e : Evo A B) {d : D} {v : V} (h : Rep K A.O A.H d v) : Rep K B.O B.H d v := by
  have k : ∀ a o, A.H a = some o → (∀ xs, o ≠ .lst xs) → B.H a = some o := fun a o q n => e.keep a o q fun z => by
    obtain ⟨xs, q2⟩ := r.so_lst z
    rw [q] at q2; cases q2
    exact n xs rfl
  refine Rep.mono (fun a xs => SqT_of k) (fun a xs q n => ⟨e.keep a _ q fun z => n (r.so_O z), fun z => ?_⟩) (fun a xs => SqF_of k) d v h
  rcases e.sub a z with z | z
  · exact n z
  · rw [q] at z; cases z
theorem Reps.evo (r : RelM K A) (e : Evo A B) {ds : List D} {vs : List V} (h : Reps K A.O A.H ds vs) : Reps K B.O B.H ds vs := by
  have k : ∀ a o, A.H a = some o → (∀ xs, o ≠ .lst xs) → B.H a = some o := fun a o q n => e.keep a o q fun z => by
    obtain ⟨xs, q2⟩ := r.so_lst z
    rw [q] at q2; cases q2
    exact n xs rfl
  refine Reps.mono (fun a xs => SqT_of k) (fun a xs q n => ⟨e.keep a _ q fun z => n (r.so_O z), fun z => ?_⟩) (fun a xs => SqF_of k) ds vs h
  rcases e.sub a z with z | z
  · exact n z
  · rw [q] at z; cases z
/-- fewer addresses are held alone -/
theorem Rep.less {O O' : OS} {H : Hp} (s : ∀ a, O' a → O a) {d : D} {v : V} (h : Rep K O H d v) : Rep K O' H d v :=
  Rep.mono (fun _ _ x => x) (fun a xs q n => ⟨q, fun z => n (s a z)⟩) (fun _ _ x => x) d v h
theorem Reps.less {O O' : OS} {H : Hp} (s : ∀ a, O' a → O a) {ds : List D} {vs : List V} (h : Reps K O H ds vs) : Reps K O' H ds vs :=
  Reps.mono (fun _ _ x => x) (fun a xs q n => ⟨q, fun z => n (s a z)⟩) (fun _ _ x => x) ds vs h
end

/-! ### a value in flight: data (own: a new list that nothing else holds), or what slot i holds -/
inductive T where
  | val (d : D) (own : Bool)
  | var (i : Nat)

def TRel (K : PySem.W.Frag) (A : Sd) (v : V) : T → Prop
  | .val d false => Rep K A.O A.H d v
  | .val d true => ∃ a xs ds, d = .lst ds ∧ v = .ref a ∧ A.O a ∧ ¬ SO A a ∧ A.H a = some (.lst xs) ∧ Reps K A.O A.H ds xs
  | .var i => A.sg[i]? = some (some v)
/-- a new list was not there at H -/
def Fresh (H : Hp) (v : V) : T → Prop
  | .val _ true => ∀ a, v = .ref a → H a = none
  | _ => True
/-- what it is worth now -/
def T.see (M : MS) : T → Option D
  | .val d _ => some d
  | .var i => match M[i]? with
    | some (some (d, _)) => some d
    | _ => none
/-- .. readable, whoever holds it -/
def RepT (K : PySem.W.Frag) (O : OS) (H : Hp) (d : D) (v : V) : Prop := match d with
  | .lst ds => ∃ a xs, v = .ref a ∧ H a = some (.lst xs) ∧ Reps K O H ds xs
  | d => Rep K O H d v
/-- it is stored somewhere: from then on nobody holds it alone -/
def T.take (M : MS) : T → Option (D × MS)
  | .val d _ => some (d, M)
  | .var i => match M[i]? with
    | some (some (d, _)) => some (d, M.set i (some (d, false)))
    | _ => none
/-- it is handed back -/
def T.give (M : MS) : T → Option (D × Bool)
  | .val d o => some (d, o)
  | .var i => match M[i]? with
    | some (some (d, o)) => some (d, o)
    | _ => none

section
variable {K : PySem.W.Frag} {A B : Sd} {v : V} {t : T} {d : D}
theorem RepT.of {O : OS} {H : Hp} (h : Rep K O H d v) : RepT K O H d v := by
  cases d with
  | lst ds =>
    simp only [Rep] at h
    obtain ⟨a, xs, e, h1, _, h2⟩ := h
    exact ⟨a, xs, e, h1, h2⟩
  | _ => exact h
theorem TRel.evo (r : RelM K A) (e : Evo A B) (es : A.sg = B.sg) (h : TRel K A v t) : TRel K B v t := by
  cases t with
  | val d o =>
    cases o with
    | false => exact Rep.evo r e h
    | true =>
      obtain ⟨a, xs, ds, rfl, rfl, h1, h2, h3, h4⟩ := h
      refine ⟨a, xs, ds, rfl, rfl, e.sup a h1 h2, fun z => (e.own a z).elim h2 fun q => r.sub a h1 q, e.keep a _ h3 h2, Reps.evo r e h4⟩
  | var i => show B.sg[i]? = _; rw [← es]; exact h
theorem TRel.see (r : RelM K A) (h : TRel K A v t) (e : t.see A.M = some d) : RepT K A.O A.H d v := by
  cases t with
  | val d' o =>
    cases e
    cases o with
    | false => exact RepT.of h
    | true =>
      obtain ⟨a, xs, ds, rfl, rfl, _, _, h3, h4⟩ := h
      exact ⟨a, xs, rfl, h3, h4⟩
  | var i =>
    have h' : A.sg[i]? = some (some v) := h
    simp only [T.see] at e
    split at e
    · rename_i d' o q
      cases e
      cases o with
      | false =>
        obtain ⟨u, h1, h2⟩ := r.shr i d q
        rw [h'] at h1; cases h1
        exact RepT.of h2
      | true =>
        obtain ⟨a, xs, ds, rfl, h1, _, h3, h4⟩ := r.own i d q
        rw [h'] at h1; cases h1
        exact ⟨a, xs, rfl, h3, h4⟩
    · cases e
theorem getset {M : MS} {i j : Nat} {c : Option (D × Bool)} {e : Option (D × Bool)} (h : (M.set i c)[j]? = some e) : (i = j ∧ e = c) ∨ (i ≠ j ∧ M[j]? = some e) := by
  by_cases q : i = j
  · subst q
    rw [List.getElem?_set] at h
    rw [if_pos rfl] at h
    split at h
    · cases h; exact .inl ⟨rfl, rfl⟩
    · cases h
  · rw [List.getElem?_set_ne q] at h
    exact .inr ⟨q, h⟩
theorem TRel.take {A0 : Sd} {M' : MS} (r : RelM K A) (h : TRel K A v t) (e : t.take A.M = some (d, M')) (ev : Evo A0 A) (s0 : ∀ a, A0.O a → A0.H a ≠ none) (fr : Fresh A0.H v t) :
    ∃ O', RelM K ⟨A.sg, M', A.H, O'⟩ ∧ Evo A0 ⟨A.sg, M', A.H, O'⟩ ∧ Rep K O' A.H d v := by
  cases t with
  | val d' o =>
    cases e
    cases o with
    | false => exact ⟨A.O, r, ev, h⟩
    | true =>
      obtain ⟨a, xs, ds, rfl, rfl, h1, h2, h3, h4⟩ := h
      have le : ∀ b, (A.O b ∧ b ≠ a) → A.O b := fun b q => q.1
      refine ⟨fun b => A.O b ∧ b ≠ a, ⟨r.len, fun i d q => ?_, fun i d q => ?_, r.inj, fun b q => r.sub b q.1⟩, ⟨ev.keep, ev.there, fun b q => ev.sub b q.1, fun b q n => ⟨ev.sup b q n, fun z => ?_⟩, ev.own⟩, ?_⟩
      · obtain ⟨u, q1, q2⟩ := r.shr i d q
        exact ⟨u, q1, q2.less le⟩
      · obtain ⟨b, ys, es, q0, q1, q2, q3, q4⟩ := r.own i d q
        exact ⟨b, ys, es, q0, q1, ⟨q2, fun z => h2 (by subst z; exact ⟨i, d, q, q1⟩)⟩, q3, q4.less le⟩
      · subst z; exact s0 b q (fr b rfl)
      · simp only [Rep]
        exact ⟨a, xs, rfl, h3, fun q => q.2 rfl, h4.less le⟩
  | var i =>
    have h' : A.sg[i]? = some (some v) := h
    simp only [T.take] at e
    split at e
    · rename_i d' o q
      cases e
      have so : ∀ {O' : OS} b, SO ⟨A.sg, A.M.set i (some (d, false)), A.H, O'⟩ b → SO A b := fun b ⟨j, e', q1, q2⟩ => by
        rcases getset q1 with ⟨_, z⟩ | ⟨_, z⟩
        · cases z
        · exact ⟨j, e', z, q2⟩
      cases o with
      | false =>
        obtain ⟨u, h1, h2⟩ := r.shr i d q
        rw [h'] at h1; cases h1
        refine ⟨A.O, ⟨by rw [List.length_set]; exact r.len, fun j e' q' => ?_, fun j e' q' => ?_, fun j k e1 e2 b q1 q2 q3 q4 => ?_, r.sub⟩, ⟨ev.keep, ev.there, ev.sub, ev.sup, fun b z => ev.own b (so b z)⟩, h2⟩
        · rcases getset q' with ⟨z, z2⟩ | ⟨_, z⟩
          · subst z; cases z2; exact ⟨v, h', h2⟩
          · exact r.shr j e' z
        · rcases getset q' with ⟨z, z2⟩ | ⟨_, z⟩
          · cases z2
          · exact r.own j e' z
        · rcases getset q1 with ⟨_, z⟩ | ⟨_, z⟩
          · cases z
          · rcases getset q2 with ⟨_, z'⟩ | ⟨_, z'⟩
            · cases z'
            · exact r.inj j k e1 e2 b z z' q3 q4
      | true =>
        obtain ⟨a, xs, ds, rfl, h1, h2, h3, h4⟩ := r.own i d q
        rw [h'] at h1; cases h1
        have le : ∀ b, (A.O b ∧ b ≠ a) → A.O b := fun b q => q.1
        have hso : SO A a := ⟨i, _, q, h'⟩
        have rep : Rep K (fun b => A.O b ∧ b ≠ a) A.H (.lst ds) (.ref a) := by
          simp only [Rep]
          exact ⟨a, xs, rfl, h3, fun q => q.2 rfl, h4.less le⟩
        refine ⟨fun b => A.O b ∧ b ≠ a, ⟨by rw [List.length_set]; exact r.len, fun j e' q' => ?_, fun j e' q' => ?_, fun j k e1 e2 b q1 q2 q3 q4 => ?_, fun b q => r.sub b q.1⟩,
          ⟨ev.keep, ev.there, fun b q => ev.sub b q.1, fun b q n => ⟨ev.sup b q n, fun z => ?_⟩, fun b z => ev.own b (so b z)⟩, rep⟩
        · rcases getset q' with ⟨z, z2⟩ | ⟨_, z⟩
          · subst z; cases z2; exact ⟨_, h', rep⟩
          · obtain ⟨u, y1, y2⟩ := r.shr j e' z
            exact ⟨u, y1, y2.less le⟩
        · rcases getset q' with ⟨z, z2⟩ | ⟨hne, z⟩
          · cases z2
          · obtain ⟨b, ys, es, y0, y1, y2, y3, y4⟩ := r.own j e' z
            exact ⟨b, ys, es, y0, y1, ⟨y2, fun w => hne (by subst w; exact r.inj i j _ _ b q z h' y1)⟩, y3, y4.less le⟩
        · rcases getset q1 with ⟨_, z⟩ | ⟨_, z⟩
          · cases z
          · rcases getset q2 with ⟨_, z'⟩ | ⟨_, z'⟩
            · cases z'
            · exact r.inj j k e1 e2 b z z' q3 q4
        · subst z
          rcases ev.own b hso with z | z
          · exact n z
          · exact s0 b q z
    · cases e
/-- new things are laid: all that was there stays -/
structure Grow (A : Sd) (H' : Hp) (O' : OS) : Prop where
  keep : ∀ a o, A.H a = some o → H' a = some o
  sub : ∀ a, O' a → A.O a ∨ (A.H a = none ∧ H' a ≠ none)
  sup : ∀ a, A.O a → O' a
theorem Grow.refl (A : Sd) : Grow A A.H A.O := ⟨fun _ _ h => h, fun _ h => .inl h, fun _ h => h⟩
theorem Grow.evo {H' : Hp} {O' : OS} (g : Grow A H' O') : Evo A ⟨A.sg, A.M, H', O'⟩ where
  keep := fun a o h _ => g.keep a o h
  there := fun a h z => by
    cases q : A.H a with
    | none => exact h q
    | some o =>
      have z' : H' a = none := z
      rw [g.keep a o q] at z'; cases z'
  sub := fun a h => (g.sub a h).elim Or.inl fun q => Or.inr q.1
  sup := fun a h _ => g.sup a h
  own := fun a h => .inl h
theorem Grow.rel {H' : Hp} {O' : OS} (r : RelM K A) (g : Grow A H' O') : RelM K ⟨A.sg, A.M, H', O'⟩ where
  len := r.len
  shr := fun i d q => by
    obtain ⟨v, h1, h2⟩ := r.shr i d q
    exact ⟨v, h1, Rep.evo r g.evo h2⟩
  own := fun i d q => by
    obtain ⟨a, xs, ds, h0, h1, h2, h3, h4⟩ := r.own i d q
    exact ⟨a, xs, ds, h0, h1, g.sup a h2, g.keep a _ h3, Reps.evo r g.evo h4⟩
  inj := r.inj
  sub := fun a h => by
    rcases g.sub a h with z | z
    · intro q
      cases e : A.H a with
      | none => exact r.sub a z e
      | some o => have q' : H' a = none := q; rw [g.keep a o e] at q'; cases q'
    · exact z.2
theorem Grow.new {p : Addr} {o : HO} (hn : A.H p = none) : Grow A (upd A.H p o) A.O :=
  ⟨fun a u h => by rw [upd_ne (ne_of_none h hn)]; exact h, fun a h => .inl h, fun a h => h⟩
theorem Grow.newOwn {p : Addr} {o : HO} (hn : A.H p = none) : Grow A (upd A.H p o) (fun a => A.O a ∨ a = p) :=
  ⟨fun a u h => by rw [upd_ne (ne_of_none h hn)]; exact h, fun a h => h.elim .inl fun z => by subst z; exact .inr ⟨hn, by rw [upd_same]; exact fun z => by cases z⟩, fun a h => .inl h⟩
/-- what comes of an operation, by values -/
def Out (K : PySem.W.Frag) (A : Sd) (H' : Hp) (O' : OS) (v : V) (d : D) : Bool → Prop
  | false => Rep K O' H' d v
  | true => ∃ a xs ds, d = .lst ds ∧ v = .ref a ∧ A.H a = none ∧ O' a ∧ H' a = some (.lst xs) ∧ Reps K O' H' ds xs
theorem Out.trel {H' : Hp} {O' : OS} {o : Bool} (r : RelM K A) (h : Out K A H' O' v d o) : TRel K ⟨A.sg, A.M, H', O'⟩ v (.val d o) := by
  cases o with
  | false => exact h
  | true =>
    obtain ⟨a, xs, ds, rfl, rfl, h0, h1, h2, h3⟩ := h
    refine ⟨a, xs, ds, rfl, rfl, h1, fun z => ?_, h2, h3⟩
    obtain ⟨ys, q⟩ := r.so_lst (A := A) z
    rw [h0] at q; cases q
theorem Out.fresh {H' : Hp} {O' : OS} {o : Bool} {H0 : Hp} (hH : ∀ a, A.H a = none → H0 a = none) (h : Out K A H' O' v d o) : Fresh H0 v (.val d o) := by
  cases o with
  | false => trivial
  | true =>
    obtain ⟨a, xs, ds, rfl, rfl, h0, h1, h2, h3⟩ := h
    intro b e; cases e
    exact hH a h0
/-- a new tuple, a new list, of items that stand -/
theorem Out.tup {p : Addr} {xs : List V} {ds : List D} (r : RelM K A) (hn : A.H p = none) (h : Reps K A.O A.H ds xs) : Out K A (upd A.H p (.tup xs)) A.O (.ref p) (.tup ds) false := by
  show Rep K A.O (upd A.H p (.tup xs)) (.tup ds) (.ref p)
  simp only [Rep]
  exact ⟨p, xs, rfl, SqT.of upd_same, Reps.evo (B := ⟨A.sg, A.M, upd A.H p (.tup xs), A.O⟩) r (Grow.new hn).evo h⟩
theorem Out.lst {p : Addr} {xs : List V} {ds : List D} (r : RelM K A) (hn : A.H p = none) (h : Reps K A.O A.H ds xs) : Out K A (upd A.H p (.lst xs)) (fun a => A.O a ∨ a = p) (.ref p) (.lst ds) true :=
  ⟨p, xs, ds, rfl, rfl, hn, .inr rfl, upd_same, Reps.evo (B := ⟨A.sg, A.M, upd A.H p (.lst xs), fun a => A.O a ∨ a = p⟩) r (Grow.newOwn hn).evo h⟩
theorem Out.same (h : Rep K A.O A.H d v) : Out K A A.H A.O v d false := h
end
end Mw
set_option Elab.async false
set_option linter.all false
set_option maxRecDepth 100000
/-! MIRROR, part B: results, judgements, expressions. -/
namespace Mw
open PySem L2

inductive Res (α : Type) where
  | ok (a : α) (M : MS)
  | exc (c : Nat) (M : MS)
  | bad
def Res.bind {α β : Type} (r : Res α) (f : α → MS → Res β) : Res β := match r with
  | .ok a M => f a M
  | .exc c M => .exc c M
  | .bad => .bad
/-- of an option: none is not told -/
def Res.opt {α : Type} (o : Option α) (M : MS) : Res α := match o with
  | some a => .ok a M
  | none => .bad
@[simp] theorem Res.bind_ok {α β : Type} (a : α) (M : MS) (f : α → MS → Res β) : (Res.ok a M).bind f = f a M := rfl
@[simp] theorem Res.bind_exc {α β : Type} (c : Nat) (M : MS) (f : α → MS → Res β) : (Res.exc c M).bind f = .exc c M := rfl
@[simp] theorem Res.bind_bad {α β : Type} (f : α → MS → Res β) : (Res.bad : Res α).bind f = .bad := rfl
@[simp] theorem Res.opt_some {α : Type} (a : α) (M : MS) : Res.opt (some a) M = .ok a M := rfl
@[simp] theorem Res.opt_none {α : Type} (M : MS) : Res.opt (none : Option α) M = .bad := rfl

def RR {α : Type} (K : PySem.W.Frag) (A : Sd) (r : Res α) (k : α → Sd → Prop) : Prop := match r with
  | .ok a M' => ∀ H' O', RelM K ⟨A.sg, M', H', O'⟩ → Evo A ⟨A.sg, M', H', O'⟩ → k a ⟨A.sg, M', H', O'⟩
  | _ => False
section
variable {α β : Type} {K : PySem.W.Frag} {A : Sd}
theorem RR.bind {r : Res α} {f : α → MS → Res β} {k : β → Sd → Prop} (rel : RelM K A) (h : RR K A (r.bind f) k) : RR K A r fun a B => RR K B (f a B.M) k := by
  cases r with
  | ok a M' =>
    intro H' O' r1 e1
    have h' : RR K A (f a M') k := h
    show RR K ⟨A.sg, M', H', O'⟩ (f a M') k
    cases q : f a M' with
    | ok b M'' =>
      rw [q] at h'
      intro H'' O'' r2 e2
      exact h' H'' O'' r2 (e1.trans e2 rel.sub)
    | exc c M'' => rw [q] at h'; exact h'
    | bad => rw [q] at h'; exact h'
  | exc c M' => exact h
  | bad => exact h
theorem RR.imp {r : Res α} {k k' : α → Sd → Prop} (h : RR K A r k) (i : ∀ a B, A.sg = B.sg → RelM K B → Evo A B → k a B → k' a B) : RR K A r k' := by
  cases r with
  | ok a M' => exact fun H' O' r1 e1 => i a _ rfl r1 e1 (h H' O' r1 e1)
  | exc c M' => exact h
  | bad => exact h
theorem RR.ok {a : α} {k : α → Sd → Prop} {M' : MS} (h : RR K A (.ok a M') k) {H' : Hp} {O' : OS} (r : RelM K ⟨A.sg, M', H', O'⟩) (e : Evo A ⟨A.sg, M', H', O'⟩) : k a ⟨A.sg, M', H', O'⟩ := h H' O' r e
theorem RR.now {a : α} {k : α → Sd → Prop} (rel : RelM K A) (h : RR K A (.ok a A.M) k) : k a A := h A.H A.O rel (Evo.refl A)
end

/-! ### the judgements -/
abbrev ME := MS → Res T
abbrev MT := MS → Res Bool
abbrev MA := MS → Res (List D)
def tE (K : PySem.W.Frag) (f : ME) : TE := fun σ H Q => ∃ M O, RelM K ⟨σ, M, H, O⟩ ∧ RR K ⟨σ, M, H, O⟩ (f M) fun t B => ∀ v, TRel K B v t → Fresh H v t → Q v B.H
def tT (K : PySem.W.Frag) (f : MT) : TT := fun σ H Q => ∃ M O, RelM K ⟨σ, M, H, O⟩ ∧ RR K ⟨σ, M, H, O⟩ (f M) fun b B => Q b B.H
def tA (K : PySem.W.Frag) (f : MA) : TA := fun σ H Q => ∃ M O, RelM K ⟨σ, M, H, O⟩ ∧ RR K ⟨σ, M, H, O⟩ (f M) fun ds B => ∀ vs, Reps K B.O B.H ds vs → Q vs B.H
def PEd (X : Cx) (e : Expr) (f : ME) : Prop := PE X e (tE X.K f)
def PTd (X : Cx) (e : Expr) (f : MT) : Prop := PT X e (tT X.K f)
def PWd (X : Cx) (e : Expr) (f : MT) : Prop := PW X e (tT X.K f)
def PAd (X : Cx) (es : List Expr) (f : MA) : Prop := PA X es (tA X.K f)

section
variable {X : Cx} {e a b c : Expr} {es rest : List Expr} {pos : Pos}
theorem PE.imp {t t' : TE} (h : PE X e t) (i : ∀ σ H Q, t' σ H Q → t σ H Q) : PE X e t' := fun pins s σ H Q I q => h pins s σ H Q I (i σ H Q q)
theorem PT.imp {t t' : TT} (h : PT X e t) (i : ∀ σ H Q, t' σ H Q → t σ H Q) : PT X e t' := fun pins s σ H Q I q => h pins s σ H Q I (i σ H Q q)
theorem PW.imp {t t' : TT} (h : PW X e t) (i : ∀ σ H Q, t' σ H Q → t σ H Q) : PW X e t' := fun whole pins s σ H Q I q => h whole pins s σ H Q I (i σ H Q q)
theorem PA.imp {t t' : TA} (h : PA X es t) (i : ∀ σ H Q, t' σ H Q → t σ H Q) : PA X es t' := fun pos pins s σ H Q I q => h pos pins s σ H Q I (i σ H Q q)
theorem PWd.pt {f : MT} (h : PWd X e f) : PTd X e f := PW.pt h

/-! ### names, constants -/
def mVar (i : Nat) : ME := fun M => match M[i]? with
  | some (some (d, true)) => .ok (.var i) M
  | some (some (d, false)) => .ok (.val d false) M
  | _ => .bad
def mC (d : D) : ME := fun M => .ok (.val d false) M
theorem tE_var {K : PySem.W.Frag} {i : Nat} {σ : St} {H : Hp} {Q : VK} (h : tE K (mVar i) σ H Q) : tVar i σ H Q := by
  obtain ⟨M, O, rel, h⟩ := h
  unfold mVar at h
  split at h
  · rename_i d q
    obtain ⟨a, xs, ds, _, h1, _⟩ := rel.own i d q
    exact ⟨_, h1, RR.now (A := ⟨σ, M, H, O⟩) rel h _ h1 trivial⟩
  · rename_i d q
    obtain ⟨v, h1, h2⟩ := rel.shr i d q
    exact ⟨v, h1, RR.now (A := ⟨σ, M, H, O⟩) rel h v h2 trivial⟩
  · exact h.elim
theorem d_var (i : Nat) {x : Str} (hN : X.N[i]? = some x := by rfl) (hv : Vis X.env.scope x := by first | exact Or.inl rfl | exact Or.inr (Or.inl rfl) | exact Or.inr (Or.inr rfl)) (hd : (x == ("__debug__" : Str)) = false := by decide)
    (hcd : (x == ("__classdict__" : Str)) = false := by decide) : PEd X (.Name x pos) (mVar i) := PE.imp (pe_var hN hv hd hcd) fun σ H Q h => tE_var h
theorem tE_C {K : PySem.W.Frag} {d : D} {v : V} (r : ∀ O H, Rep K O H d v) {σ : St} {H : Hp} {Q : VK} (h : tE K (mC d) σ H Q) : tC v σ H Q := by
  obtain ⟨M, O, rel, h⟩ := h
  exact RR.now (A := ⟨σ, M, H, O⟩) rel h v (r O H) trivial
theorem d_int {i j} : PEd X (.Constant (.int i) j pos) (mC (.int i)) := PE.imp pe_int fun σ H Q h => tE_C (fun _ _ => by simp only [Rep]) h
theorem d_bl {i j} : PEd X (.Constant (.bool i) j pos) (mC (.bl i)) := PE.imp pe_bl fun σ H Q h => tE_C (fun _ _ => by simp only [Rep]) h
theorem d_non {j} : PEd X (.Constant .none j pos) (mC .non) := PE.imp pe_non fun σ H Q h => tE_C (fun _ _ => by simp only [Rep]) h
theorem d_str {x j} : PEd X (.Constant (.str x) j pos) (mC (.str x)) := PE.imp pe_str fun σ H Q h => tE_C (fun _ _ => by simp only [Rep]) h
/-- a module's constant -/
theorem d_globInt {x : Str} {i : Int} {u : Value} (hg : Gl X x) (hm : X.mg x = some u) (r : ∃ t, u = Value.int i t) (hd : (x == ("__debug__" : Str)) = false := by decide) : PEd X (.Name x pos) (mC (.int i)) :=
  PE.imp (pe_glob (v := .int i) hg hm r hd) fun σ H Q h => tE_C (fun _ _ => by simp only [Rep]) h
theorem d_globStr {x y : Str} {u : Value} (hg : Gl X x) (hm : X.mg x = some u) (r : ∃ t, u = Value.str y t) (hd : (x == ("__debug__" : Str)) = false := by decide) : PEd X (.Name x pos) (mC (.str y)) :=
  PE.imp (pe_glob (v := .str y) hg hm r hd) fun σ H Q h => tE_C (fun _ _ => by simp only [Rep]) h

/-! ### two-place operations -/
abbrev G2 := D → D → Option (D × Bool)
def OpD (X : Cx) (f : Value → Value → Sem Value) (G : G2) : Prop :=
  ∃ r : R2, OpR X f r ∧ ∀ (A : Sd) (x y : V) (d1 d2 d : D) (o : Bool) (Q : VK), RelM X.K A → RepT X.K A.O A.H d1 x → RepT X.K A.O A.H d2 y → G d1 d2 = some (d, o) →
    (∀ v H' O', Grow A H' O' → Out X.K A H' O' v d o → Q v H') → r x y A.H Q
def fin2 (G : G2) (t1 t2 : T) (M : MS) : Res T := (Res.opt (t1.see M) M).bind fun d1 M => (Res.opt (t2.see M) M).bind fun d2 M => (Res.opt (G d1 d2) M).bind fun p M => .ok (.val p.1 p.2) M
def mOp (G : G2) (f g : ME) : ME := fun M => (f M).bind fun t1 M => (g M).bind fun t2 M => fin2 G t1 t2 M
/-- .. as a test (a bool) -/
def bool1 (t : T) (M : MS) : Res Bool := match t.see M with
  | some (.bl b) => .ok b M
  | _ => .bad

theorem fin2_ok {K : PySem.W.Frag} {A : Sd} {G : G2} {t1 t2 : T} {v1 v2 : V} {k : T → Sd → Prop} (rel : RelM K A) (h1 : TRel K A v1 t1) (h2 : TRel K A v2 t2) (h : RR K A (fin2 G t1 t2 A.M) k) :
    ∃ d1 d2 d o, RepT K A.O A.H d1 v1 ∧ RepT K A.O A.H d2 v2 ∧ G d1 d2 = some (d, o) ∧ RR K A (.ok (.val d o) A.M) k := by
  unfold fin2 at h
  cases e1 : t1.see A.M with
  | none => rw [e1] at h; exact h.elim
  | some d1 =>
    cases e2 : t2.see A.M with
    | none => rw [e1, Res.opt_some, Res.bind_ok, e2] at h; exact h.elim
    | some d2 =>
      rw [e1, Res.opt_some, Res.bind_ok, e2, Res.opt_some, Res.bind_ok] at h
      cases e3 : G d1 d2 with
      | none => rw [e3] at h; exact h.elim
      | some p =>
        rw [e3] at h
        exact ⟨d1, d2, p.1, p.2, h1.see rel e1, h2.see rel e2, by rw [e3], h⟩
/-- behind an operation -/
theorem out_to {K : PySem.W.Frag} {A A0 : Sd} {d : D} {o : Bool} {Q : VK} (rel : RelM K A) (ev : Evo A0 A) (h : RR K A (.ok (.val d o) A.M) fun t B => ∀ v, TRel K B v t → Fresh A0.H v t → Q v B.H) :
    ∀ v H' O', Grow A H' O' → Out K A H' O' v d o → Q v H' := fun v H' O' g w =>
  h H' O' (g.rel rel) g.evo v (w.trel rel) (w.fresh fun a q => ev.new q)
theorem tE_op {K : PySem.W.Frag} {G : G2} {f g : ME} {r : R2} (hr : ∀ (A : Sd) (x y : V) (d1 d2 d : D) (o : Bool) (Q : VK), RelM K A → RepT K A.O A.H d1 x → RepT K A.O A.H d2 y → G d1 d2 = some (d, o) →
    (∀ v H' O', Grow A H' O' → Out K A H' O' v d o → Q v H') → r x y A.H Q) {σ : St} {H : Hp} {Q : VK} (h : tE K (mOp G f g) σ H Q) : tOp r (tE K f) (tE K g) σ H Q := by
  obtain ⟨M, O, rel, h⟩ := h
  refine ⟨M, O, rel, (RR.bind rel h).imp fun t1 B es r1 e1 h1 v1 tr1 _ => ?_⟩
  refine ⟨B.M, B.O, by cases B; cases es; exact r1, ?_⟩
  have es' : B.sg = σ := es.symm
  have eB : (⟨σ, B.M, B.H, B.O⟩ : Sd) = B := by cases B; cases es'; rfl
  rw [eB]
  refine (RR.bind r1 h1).imp fun t2 C es2 r2 e2 h2 v2 tr2 _ => ?_
  obtain ⟨d1, d2, d, o, q1, q2, q3, q4⟩ := fin2_ok r2 (tr1.evo r1 e2 es2) tr2 h2
  exact hr C v1 v2 d1 d2 d o Q r2 q1 q2 q3 (out_to r2 (e1.trans e2 rel.sub) q4)
theorem d_op {op : Operator} {G : G2} {f g : ME} (ho : OpD X (binaryOp op) G) (ha : PEd X a f) (hb : PEd X b g) : PEd X (.BinOp a op b pos) (mOp G f g) := by
  obtain ⟨r, h1, h2⟩ := ho
  exact PE.imp (pe_op h1 ha hb) fun σ H Q h => tE_op h2 h
theorem d_cmp {op : CmpOp} {G : G2} {f g : ME} (ho : OpD X (compareOp op) G) (ha : PEd X a f) (hb : PEd X b g) (hm : behindInMarks op b = false) : PEd X (.Compare a [op] [b] pos) (mOp G f g) := by
  obtain ⟨r, h1, h2⟩ := ho
  exact PE.imp (pe_cmpR h1 ha hb hm) fun σ H Q h => tE_op h2 h
/-! ### the operations: ints -/
def mulOk (i j : Int) : Bool := (decide (-(2 ^ 64) < i) && decide (i < 2 ^ 64)) || (decide (-(2 ^ 64) < j) && decide (j < 2 ^ 64))
theorem mulOk_of {i j : Int} (h : mulOk i j = true) : CMul i j := by
  unfold mulOk at h
  simp only [Bool.or_eq_true, Bool.and_eq_true, decide_eq_true_eq] at h
  exact h
def gI (c : Int → Int → Bool) (g : Int → Int → D) : G2
  | .int i, .int j => if c i j = true then some (g i j, false) else none
  | _, _ => none
theorem OpD.of {f : Value → Value → Sem Value} {G : G2} {r : R2} (h : OpR X f r) (k : ∀ (A : Sd) (x y : V) (d1 d2 d : D) (o : Bool) (Q : VK), RelM X.K A → RepT X.K A.O A.H d1 x → RepT X.K A.O A.H d2 y → G d1 d2 = some (d, o) →
    (∀ v H' O', Grow A H' O' → Out X.K A H' O' v d o → Q v H') → r x y A.H Q) : OpD X f G := ⟨r, h, k⟩
theorem OpD.or {f : Value → Value → Sem Value} {G G' : G2} (h : OpD X f G) (h' : OpD X f G') : OpD X f fun a b => (G a b).or (G' a b) := by
  obtain ⟨r, h1, h2⟩ := h
  obtain ⟨r', h1', h2'⟩ := h'
  refine ⟨_, OpR.or h1 h1', fun A x y d1 d2 d o Q rel q1 q2 e k => ?_⟩
  replace e : (G d1 d2).or (G' d1 d2) = some (d, o) := e
  cases z : G d1 d2 with
  | some p =>
    rw [z] at e
    cases e
    exact .inl (h2 A x y d1 d2 _ _ Q rel q1 q2 z k)
  | none =>
    rw [z] at e
    exact .inr (h2' A x y d1 d2 d o Q rel q1 q2 e k)
theorem OpD.less {f : Value → Value → Sem Value} {G G' : G2} (h : OpD X f G) (i : ∀ a b p, G' a b = some p → G a b = some p) : OpD X f G' := by
  obtain ⟨r, h1, h2⟩ := h
  exact ⟨r, h1, fun A x y d1 d2 d o Q rel q1 q2 e k => h2 A x y d1 d2 d o Q rel q1 q2 (i _ _ _ e) k⟩
theorem gI_inv {c : Int → Int → Bool} {g : Int → Int → D} {d1 d2 d : D} {o : Bool} (e : gI c g d1 d2 = some (d, o)) : ∃ i j, d1 = .int i ∧ d2 = .int j ∧ c i j = true ∧ d = g i j ∧ o = false := by
  unfold gI at e
  split at e
  · rename_i i j
    split at e
    · rename_i hc
      cases e
      exact ⟨i, j, rfl, rfl, hc, rfl, rfl⟩
    · cases e
  · cases e
/-- ints in, a value without a heap out -/
theorem OpD.ints {f : Value → Value → Sem Value} {C : Int → Int → Prop} {g : Int → Int → V} {c : Int → Int → Bool} {g' : Int → Int → D} (h : OpR X f (rI C g)) (hc : ∀ i j, c i j = true → C i j) (hg : ∀ i j O H, Rep X.K O H (g' i j) (g i j)) : OpD X f (gI c g') :=
  .of h fun A x y d1 d2 d o Q rel q1 q2 e k => by
    obtain ⟨i, j, rfl, rfl, hc', rfl, rfl⟩ := gI_inv e
    have z1 : x = .int i := by simpa only [RepT, Rep] using q1
    have z2 : y = .int j := by simpa only [RepT, Rep] using q2
    exact ⟨i, j, z1, z2, hc i j hc', k _ _ _ (Grow.refl A) (Out.same (hg i j _ _))⟩
theorem OpD.ints0 {f : Value → Value → Sem Value} {g : Int → Int → V} {g' : Int → Int → D} (h : OpR X f (rI0 g)) (hg : ∀ i j O H, Rep X.K O H (g' i j) (g i j)) : OpD X f (gI (fun _ _ => true) g') :=
  .of h fun A x y d1 d2 d o Q rel q1 q2 e k => by
    obtain ⟨i, j, rfl, rfl, hc', rfl, rfl⟩ := gI_inv e
    have z1 : x = .int i := by simpa only [RepT, Rep] using q1
    have z2 : y = .int j := by simpa only [RepT, Rep] using q2
    exact ⟨i, j, z1, z2, k _ _ _ (Grow.refl A) (Out.same (hg i j _ _))⟩
abbrev gSub : G2 := gI (fun _ _ => true) fun i j => .int (i - j)
abbrev gMulI : G2 := gI mulOk fun i j => .int (i * j)
abbrev gMod : G2 := gI (fun _ j => decide (0 < j)) fun i j => .int (i % j)
abbrev gFDiv : G2 := gI (fun _ j => decide (0 < j) && decide (j < 1073741824)) fun i j => .int (i / j)
abbrev gPow : G2 := gI (fun i j => decide (0 ≤ j) && decide (j ≤ 1000000) && decide (i.natAbs < 2 ^ 64)) fun i j => .int (i ^ j.toNat)
theorem o_sub : OpD X (binaryOp .Sub) gSub := .ints0 op_sub fun _ _ _ _ => by simp only [Rep]
theorem o_mulI : OpD X (binaryOp .Mult) gMulI := .ints op_mul (fun _ _ => mulOk_of) fun _ _ _ _ => by simp only [Rep]
theorem o_mod : OpD X (binaryOp .Mod) gMod := .ints op_mod (fun _ _ h => of_decide_eq_true h) fun _ _ _ _ => by simp only [Rep]
theorem o_fdiv : OpD X (binaryOp .FloorDiv) gFDiv := .ints op_fdiv (fun _ _ h => by simpa only [CDiv, Bool.and_eq_true, decide_eq_true_eq] using h) fun _ _ _ _ => by simp only [Rep]
theorem o_pow : OpD X (binaryOp .Pow) gPow := .ints op_pow (fun _ _ h => by simpa only [CPow, Bool.and_eq_true, decide_eq_true_eq, and_assoc] using h) fun _ _ _ _ => by simp only [Rep]
abbrev gLt : G2 := gI (fun _ _ => true) fun i j => .bl (decide (i < j))
abbrev gLe : G2 := gI (fun _ _ => true) fun i j => .bl (decide (i ≤ j))
abbrev gGt : G2 := gI (fun _ _ => true) fun i j => .bl (decide (j < i))
abbrev gGe : G2 := gI (fun _ _ => true) fun i j => .bl (decide (j ≤ i))
theorem o_lt : OpD X (compareOp .Lt) gLt := .ints0 op_lt fun _ _ _ _ => by simp only [Rep]
theorem o_le : OpD X (compareOp .LtE) gLe := .ints0 op_le fun _ _ _ _ => by simp only [Rep]
theorem o_gt : OpD X (compareOp .Gt) gGt := .ints0 op_gt fun _ _ _ _ => by simp only [Rep]
theorem o_ge : OpD X (compareOp .GtE) gGe := .ints0 op_ge fun _ _ _ _ => by simp only [Rep]
abbrev gAddI : G2 := gI (fun _ _ => true) fun i j => .int (i + j)
theorem o_addI : OpD X (binaryOp .Add) gAddI := .ints0 op_add fun _ _ _ _ => by simp only [Rep]

/-! ### chains: a op1 b op2 c -/
def mChain (G G' : G2) (f g h : ME) : ME := fun M => (f M).bind fun t1 M => (g M).bind fun t2 M => (fin2 G t1 t2 M).bind fun z M => (bool1 z M).bind fun k M =>
  if k = true then (h M).bind fun t3 M => fin2 G' t2 t3 M else .ok (.val (.bl false) false) M
theorem bool1_ok {K : PySem.W.Frag} {A : Sd} {t : T} {v : V} {k : Bool → Sd → Prop} (rel : RelM K A) (h1 : TRel K A v t) (h : RR K A (bool1 t A.M) k) : ∃ b, v = .bl b ∧ k b A := by
  unfold bool1 at h
  split at h
  · rename_i b e
    have q := h1.see rel e
    exact ⟨b, by simpa only [RepT, Rep] using q, RR.now rel h⟩
  · exact h.elim
theorem tE_chain {K : PySem.W.Frag} {G G' : G2} {f g h : ME} {r r' : R2} (h2 : ∀ (A : Sd) (x y : V) (d1 d2 d : D) (o : Bool) (Q : VK), RelM K A → RepT K A.O A.H d1 x → RepT K A.O A.H d2 y → G d1 d2 = some (d, o) →
    (∀ v H' O', Grow A H' O' → Out K A H' O' v d o → Q v H') → r x y A.H Q) (h2' : ∀ (A : Sd) (x y : V) (d1 d2 d : D) (o : Bool) (Q : VK), RelM K A → RepT K A.O A.H d1 x → RepT K A.O A.H d2 y → G' d1 d2 = some (d, o) →
    (∀ v H' O', Grow A H' O' → Out K A H' O' v d o → Q v H') → r' x y A.H Q) {σ : St} {H : Hp} {Q : VK} (hh : tE K (mChain G G' f g h) σ H Q) : tChain r r' (tE K f) (tE K g) (tE K h) σ H Q := by
  obtain ⟨M, O, rel, hh⟩ := hh
  refine ⟨M, O, rel, (RR.bind rel hh).imp fun t1 B es r1 e1 q1 v1 tr1 _ => ?_⟩
  cases B with | mk σ1 M1 H1 O1 =>
  cases es
  refine ⟨M1, O1, r1, (RR.bind r1 q1).imp fun t2 C es2 r2 e2 q2 v2 tr2 _ => ?_⟩
  cases C with | mk σ2 M2 H2 O2 =>
  cases es2
  obtain ⟨d1, d2, d, o, z1, z2, z3, z4⟩ := fin2_ok r2 (tr1.evo r1 e2 rfl) tr2 (RR.bind r2 q2)
  refine h2 _ v1 v2 d1 d2 d o _ r2 z1 z2 z3 fun v H' O' gr w => ?_
  have r3 := gr.rel r2
  have q3 := z4 H' O' r3 gr.evo
  obtain ⟨k, ek, q4⟩ := bool1_ok r3 (w.trel r2) (RR.bind r3 q3)
  refine ⟨k, ek, ?_⟩
  have e3 := (e1.trans e2 rel.sub).trans gr.evo rel.sub
  cases k with
  | false =>
    rw [if_neg Bool.false_ne_true] at q4 ⊢
    exact RR.now r3 q4 (.bl false) (by show Rep _ _ _ _ _; simp only [Rep]) trivial
  | true =>
    rw [if_pos rfl] at q4 ⊢
    refine ⟨M2, O', r3, (RR.bind r3 q4).imp fun t3 E es4 r4 e4 q5 v3 tr3 _ => ?_⟩
    cases E with | mk σ4 M4 H4 O4 =>
    cases es4
    obtain ⟨d1', d2', d', o', y1, y2, y3, y4⟩ := fin2_ok r4 ((tr2.evo r2 gr.evo rfl).evo r3 e4 rfl) tr3 q5
    exact h2' _ v2 v3 d1' d2' d' o' Q r4 y1 y2 y3 (out_to r4 (e3.trans e4 rel.sub) y4)
theorem d_chain {op op' : CmpOp} {G G' : G2} {f g h : ME} (ho : OpD X (compareOp op) G) (ho' : OpD X (compareOp op') G') (ha : PEd X a f) (hb : PEd X b g) (hc : PEd X c h)
    (hm : lastMarks [op, op'] [b, c] = false := by with_unfolding_all rfl) : PEd X (.Compare a [op, op'] [b, c] pos) (mChain G G' f g h) := by
  obtain ⟨r, h1, h2⟩ := ho
  obtain ⟨r', h1', h2'⟩ := ho'
  exact PE.imp (pe_chain h1 h1' ha hb hc hm) fun σ H Q hh => tE_chain h2 h2' hh

/-! ### tests -/
def mTst (f : ME) : MT := fun M => (f M).bind fun t M => bool1 t M
/-- a value that is a bool, as a test -/
theorem tT_val {K : PySem.W.Frag} {f : ME} {σ : St} {H : Hp} {Q : Bool → Hp → Prop} (h : tT K (mTst f) σ H Q) : tE K f σ H fun x H' => ∃ k, x = .bl k ∧ Q k H' := by
  obtain ⟨M, O, rel, h⟩ := h
  refine ⟨M, O, rel, (RR.bind rel h).imp fun t B es r1 e1 q v tr _ => ?_⟩
  obtain ⟨k, ek, q'⟩ := bool1_ok r1 tr q
  exact ⟨k, ek, q'⟩
theorem d_tcmp {op : CmpOp} {G : G2} {f g : ME} (ho : OpD X (compareOp op) G) (ha : PEd X a f) (hb : PEd X b g) (hm : behindInMarks op b = false) : PTd X (.Compare a [op] [b] pos) (mTst (mOp G f g)) := by
  obtain ⟨r, h1, h2⟩ := ho
  refine PT.imp (pt_cmpR h1 ha hb hm) fun σ H Q h => ?_
  exact tE_op h2 (tT_val h)
theorem d_tchain {op op' : CmpOp} {G G' : G2} {f g h : ME} (ho : OpD X (compareOp op) G) (ho' : OpD X (compareOp op') G') (ha : PEd X a f) (hb : PEd X b g) (hc : PEd X c h)
    (hm : lastMarks [op, op'] [b, c] = false := by with_unfolding_all rfl) : PTd X (.Compare a [op, op'] [b, c] pos) (mTst (mChain G G' f g h)) := by
  obtain ⟨r, h1, h2⟩ := ho
  obtain ⟨r', h1', h2'⟩ := ho'
  exact PT.imp (pt_chain h1 h1' ha hb hc hm) fun σ H Q hh => tE_chain h2 h2' (tT_val hh)
/-- any value's truth -/
def D.truth : D → Option Bool
  | .non => some false
  | .bl b => some b
  | .int i => some (i != 0)
  | .str x => if x.length ≤ sizeLine then some ((x.length : Int) != 0) else none
  | .tup xs => some (!xs.isEmpty)
  | .lst xs => some (!xs.isEmpty)
  | .scr xs => some (!xs.isEmpty)
def mTru (f : ME) : MT := fun M => (f M).bind fun t M => (Res.opt (t.see M) M).bind fun d M => Res.opt d.truth M
theorem truV {K : PySem.W.Frag} {O : OS} {H : Hp} {d : D} {v : V} {k : Bool} (h : RepT K O H d v) (e : d.truth = some k) : TruV K v H k := by
  cases d with
  | non => simp only [RepT, Rep] at h; subst h; cases e; rfl
  | bl b => simp only [RepT, Rep] at h; subst h; cases e; rfl
  | int i => simp only [RepT, Rep] at h; subst h; cases e; rfl
  | str x =>
    simp only [RepT, Rep] at h; subst h
    simp only [D.truth] at e
    split at e
    · rename_i z; cases e; exact ⟨z, rfl⟩
    · cases e
  | tup xs =>
    simp only [RepT, Rep] at h
    obtain ⟨a, ys, rfl, h1, h2⟩ := h
    cases e
    refine .inr (.inl ⟨ys, h1, ?_⟩)
    have := h2.length
    cases xs <;> cases ys <;> simp_all
  | lst xs =>
    simp only [RepT] at h
    obtain ⟨a, ys, rfl, h1, h2⟩ := h
    cases e
    refine .inl ⟨ys, SqL.of h1, ?_⟩
    have := h2.length
    cases xs <;> cases ys <;> simp_all
  | scr xs =>
    simp only [RepT, Rep] at h
    obtain ⟨a, ys, rfl, h1, h2⟩ := h
    cases e
    refine .inl ⟨ys, h1.sq, ?_⟩
    have := h2.length
    cases xs <;> cases ys <;> simp_all
theorem d_tru {f : ME} (ha : PEd X a f) (he : ∀ whole, isTrue a X.env whole = (do let v ← whole; standAt a.pos; holding [v] (truthy v)) := by intro _; rfl) : PTd X a (mTru f) := by
  refine PT.imp (pt_truth ha he) fun σ H Q h => ?_
  obtain ⟨M, O, rel, h⟩ := h
  refine ⟨M, O, rel, (RR.bind rel h).imp fun t B es r1 e1 q v tr _ => ?_⟩
  cases e2 : t.see B.M with
  | none => rw [e2] at q; exact q.elim
  | some d =>
    rw [e2, Res.opt_some, Res.bind_ok] at q
    cases e3 : d.truth with
    | none => rw [e3] at q; exact q.elim
    | some k =>
      rw [e3] at q
      exact ⟨k, truV (tr.see r1 e2) e3, RR.now r1 q⟩
def mAndT (f g : MT) : MT := fun M => (f M).bind fun b M => if b = true then g M else .ok false M
def mOrT (f g : MT) : MT := fun M => (f M).bind fun b M => if b = true then .ok true M else g M
def mNotT (f : MT) : MT := fun M => (f M).bind fun b M => .ok (!b) M
theorem w_and1 {f : MT} (ha : PTd X a f) : PWd X (.BoolOp .And [a] pos) f := pw_and1 ha
theorem w_or1 {f : MT} (ha : PTd X a f) : PWd X (.BoolOp .Or [a] pos) f := pw_or1 ha
theorem w_and {f g : MT} (ha : PTd X a f) (hb : PWd X (.BoolOp .And (b :: rest) pos) g) : PWd X (.BoolOp .And (a :: b :: rest) pos) (mAndT f g) := by
  refine PW.imp (pw_and ha hb) fun σ H Q h => ?_
  obtain ⟨M, O, rel, h⟩ := h
  refine ⟨M, O, rel, (RR.bind rel h).imp fun k B es r1 e1 q => ?_⟩
  cases B with | mk σ1 M1 H1 O1 =>
  cases es
  cases k with
  | false =>
    rw [if_neg Bool.false_ne_true] at q ⊢
    exact RR.now r1 q
  | true =>
    rw [if_pos rfl] at q ⊢
    exact ⟨M1, O1, r1, q⟩
theorem w_or {f g : MT} (ha : PTd X a f) (hb : PWd X (.BoolOp .Or (b :: rest) pos) g) : PWd X (.BoolOp .Or (a :: b :: rest) pos) (mOrT f g) := by
  refine PW.imp (pw_or ha hb) fun σ H Q h => ?_
  obtain ⟨M, O, rel, h⟩ := h
  refine ⟨M, O, rel, (RR.bind rel h).imp fun k B es r1 e1 q => ?_⟩
  cases B with | mk σ1 M1 H1 O1 =>
  cases es
  cases k with
  | false =>
    rw [if_neg Bool.false_ne_true] at q ⊢
    exact ⟨M1, O1, r1, q⟩
  | true =>
    rw [if_pos rfl] at q ⊢
    exact RR.now r1 q
theorem d_tnot {f : MT} (ha : PTd X a f) : PTd X (.UnaryOp .Not a pos) (mNotT f) := by
  refine PT.imp (pt_not ha) fun σ H Q h => ?_
  obtain ⟨M, O, rel, h⟩ := h
  exact ⟨M, O, rel, (RR.bind rel h).imp fun k B es r1 e1 q => RR.now r1 q⟩

/-! ### and, or, not as values (bools); x if c else y -/
def mAndV (f g : ME) : ME := fun M => (f M).bind fun t M => (bool1 t M).bind fun b M => if b = true then g M else .ok (.val (.bl false) false) M
def mOrV (f g : ME) : ME := fun M => (f M).bind fun t M => (bool1 t M).bind fun b M => if b = true then .ok (.val (.bl true) false) M else g M
def mNotV (f : ME) : ME := fun M => (f M).bind fun t M => (bool1 t M).bind fun b M => .ok (.val (.bl (!b)) false) M
def mIfV (c : MT) (f g : ME) : ME := fun M => (c M).bind fun b M => if b = true then f M else g M
theorem d_one {op} {f : ME} (ha : PEd X a f) : PEd X (.BoolOp op [a] pos) f := pe_one ha
/-- the end of a part is the end of the whole -/
theorem tail_to {K : PySem.W.Frag} {A B : Sd} {f : ME} {Q : VK} (es : A.sg = B.sg) (r : RelM K B) (e : Evo A B) (h : RR K B (f B.M) fun t C => ∀ v, TRel K C v t → Fresh A.H v t → Q v C.H) : tE K f A.sg B.H Q := by
  cases B with | mk σ1 M1 H1 O1 =>
  cases A with | mk σ0 M0 H0 O0 =>
  cases es
  refine ⟨M1, O1, r, h.imp fun t C _ _ e2 q v tr fr => q v tr ?_⟩
  cases t with
  | val d o =>
    cases o with
    | false => trivial
    | true => exact fun a z => e.new (fr a z)
  | var i => trivial
theorem d_and {f g : ME} (ha : PEd X a f) (hb : PEd X (.BoolOp .And (b :: rest) pos) g) : PEd X (.BoolOp .And (a :: b :: rest) pos) (mAndV f g) := by
  refine PE.imp (pe_and ha hb) fun σ H Q h => ?_
  obtain ⟨M, O, rel, h⟩ := h
  refine ⟨M, O, rel, (RR.bind rel h).imp fun t B es r1 e1 q v tr _ => ?_⟩
  obtain ⟨k, ek, q'⟩ := bool1_ok r1 tr (RR.bind r1 q)
  refine ⟨k, ek, ?_⟩
  cases k with
  | false =>
    rw [if_neg Bool.false_ne_true] at q' ⊢
    exact RR.now r1 q' (.bl false) (by show Rep _ _ _ _ _; simp only [Rep]) trivial
  | true =>
    rw [if_pos rfl] at q' ⊢
    exact tail_to (A := ⟨σ, M, H, O⟩) es r1 e1 q'
theorem d_or {f g : ME} (ha : PEd X a f) (hb : PEd X (.BoolOp .Or (b :: rest) pos) g) : PEd X (.BoolOp .Or (a :: b :: rest) pos) (mOrV f g) := by
  refine PE.imp (pe_or ha hb) fun σ H Q h => ?_
  obtain ⟨M, O, rel, h⟩ := h
  refine ⟨M, O, rel, (RR.bind rel h).imp fun t B es r1 e1 q v tr _ => ?_⟩
  obtain ⟨k, ek, q'⟩ := bool1_ok r1 tr (RR.bind r1 q)
  refine ⟨k, ek, ?_⟩
  cases k with
  | false =>
    rw [if_neg Bool.false_ne_true] at q' ⊢
    exact tail_to (A := ⟨σ, M, H, O⟩) es r1 e1 q'
  | true =>
    rw [if_pos rfl] at q' ⊢
    exact RR.now r1 q' (.bl true) (by show Rep _ _ _ _ _; simp only [Rep]) trivial
theorem d_not {f : ME} (ha : PEd X a f) : PEd X (.UnaryOp .Not a pos) (mNotV f) := by
  refine PE.imp (pe_not ha) fun σ H Q h => ?_
  obtain ⟨M, O, rel, h⟩ := h
  refine ⟨M, O, rel, (RR.bind rel h).imp fun t B es r1 e1 q v tr _ => ?_⟩
  obtain ⟨k, ek, q'⟩ := bool1_ok r1 tr (RR.bind r1 q)
  exact ⟨k, ek, RR.now r1 q' _ (by show Rep _ _ _ _ _; simp only [Rep]) trivial⟩
theorem d_ifV {tc : MT} {f g : ME} (hc : PTd X c tc) (ha : PEd X a f) (hb : PEd X b g) : PEd X (.IfExp c a b pos) (mIfV tc f g) := by
  refine PE.imp (pe_ifExp hc ha hb) fun σ H Q h => ?_
  obtain ⟨M, O, rel, h⟩ := h
  refine ⟨M, O, rel, (RR.bind rel h).imp fun k B es r1 e1 q => ?_⟩
  cases k with
  | false =>
    rw [if_neg Bool.false_ne_true] at q ⊢
    exact tail_to (A := ⟨σ, M, H, O⟩) es r1 e1 q
  | true =>
    rw [if_pos rfl] at q ⊢
    exact tail_to (A := ⟨σ, M, H, O⟩) es r1 e1 q
end
end Mw
set_option Elab.async false
set_option linter.all false
set_option maxRecDepth 100000
/-! MIRROR, part C: argument lists, displays, subscripts, calls. -/
namespace Mw
open PySem L2

section
variable {α β : Type} {K : PySem.W.Frag} {A B : Sd}
theorem RR.bindA {r : Res α} {f : α → MS → Res β} {k : β → Sd → Prop} (h : RR K A (r.bind f) k) : RR K A r fun a B => RR K A (f a B.M) k := by
  cases r with
  | ok a M' => exact fun H' O' r1 e1 => h
  | exc c M' => exact h
  | bad => exact h
theorem RR.pre {r : Res α} {k : α → Sd → Prop} (rel : RelM K A) (es : A.sg = B.sg) (e : Evo A B) (h : RR K A r k) : RR K B r k := by
  cases r with
  | ok a M' =>
    intro H' O' r1 e1
    cases B with | mk σ1 M1 H1 O1 =>
    cases es
    exact h H' O' r1 (e.trans e1 rel.sub)
  | exc c M' => exact h
  | bad => exact h
theorem opt_ok {o : Option α} {M : MS} {f : α → MS → Res β} {k : β → Sd → Prop} (h : RR K A ((Res.opt o M).bind f) k) : ∃ a, o = some a ∧ RR K A (f a M) k := by
  cases o with
  | none => exact h.elim
  | some a => exact ⟨a, rfl, h⟩
end

def fits (n : Nat) : Bool := Nat.ble n 16777216
theorem fits_of {n : Nat} (h : fits n = true) : n ≤ sizeLine := by
  have := Nat.le_of_ble_eq_true h
  exact this
theorem fits_le {n : Nat} (h : n ≤ 16777216) : fits n = true := Nat.ble_eq_true_of_le h
/-- a check -/
def Res.chk {α : Type} (b : Bool) (r : Res α) : Res α := match b with
  | true => r
  | false => .bad
@[simp] theorem Res.chk_true {α : Type} (r : Res α) : Res.chk true r = r := rfl
theorem chk_ok {α : Type} {K : PySem.W.Frag} {A : Sd} {b : Bool} {r : Res α} {k : α → Sd → Prop} (h : RR K A (Res.chk b r) k) : b = true ∧ RR K A r k := by
  cases b with
  | false => exact h.elim
  | true => exact ⟨rfl, h⟩

section
variable {X : Cx} {e a b : Expr} {es rest : List Expr} {pos p p2 : Pos}
/-! ### argument lists: each is stored as soon as it is there -/
def mNil : MA := fun M => .ok [] M
def mCons (f : ME) (g : MA) : MA := fun M => (f M).bind fun t M => (Res.opt (t.take M) M).bind fun p _ => (g p.2).bind fun ds M => .ok (p.1 :: ds) M
theorem a_nil : PAd X [] mNil := PA.imp pa_nil fun σ H Q h => by
  obtain ⟨M, O, rel, h⟩ := h
  exact RR.now (A := ⟨σ, M, H, O⟩) rel h [] Reps.nil
theorem tA_cons {K : PySem.W.Frag} {f : ME} {g : MA} {σ : St} {H : Hp} {Q : List V → Hp → Prop} (h : tA K (mCons f g) σ H Q) : tCons (tE K f) (tA K g) σ H Q := by
  obtain ⟨M, O, rel, h⟩ := h
  refine ⟨M, O, rel, (RR.bindA h).imp fun t B es r1 e1 q v tr fr => ?_⟩
  cases B with | mk σ1 M1 H1 O1 =>
  cases es
  obtain ⟨⟨d, M'⟩, ep, q⟩ := opt_ok q
  obtain ⟨O', r2, e2, rp⟩ := tr.take r1 ep e1 rel.sub fr
  refine ⟨M', O', r2, (RR.bind r2 (RR.pre rel rfl e2 q)).imp fun ds C es3 r3 e3 q3 vs rs => ?_⟩
  exact RR.now r3 q3 _ (.cons (Rep.evo r2 e3 rp) rs)
theorem a_cons {f : ME} {g : MA} (ha : PEd X e f) (hr : PAd X es g) (hs : starEach (e :: es) X.env = (false, eval e X.env) :: starEach es X.env := by rfl) : PAd X (e :: es) (mCons f g) :=
  PA.imp (pa_cons ha hr hs) fun σ H Q h => tA_cons h

/-! ### displays -/
def mTup (f : MA) : ME := fun M => (f M).bind fun ds M => Res.chk (fits ds.length) (.ok (.val (.tup ds) false) M)
def mLst (f : MA) : ME := fun M => (f M).bind fun ds M => Res.chk (fits ds.length) (.ok (.val (.lst ds) true) M)
theorem d_tup {f : MA} {x1} (h : PAd X es f) : PEd X (.Tuple es x1 pos) (mTup f) := PE.imp (pe_tup h) fun σ H Q h => by
  obtain ⟨M, O, rel, h⟩ := h
  refine ⟨M, O, rel, (RR.bind rel h).imp fun ds B es r1 e1 q vs rs => ?_⟩
  obtain ⟨z, q⟩ := chk_ok q
  refine ⟨by rw [← rs.length]; exact fits_of z, fun p hp => ?_⟩
  exact out_to (A0 := ⟨σ, M, H, O⟩) r1 e1 q _ _ _ (Grow.new hp) (Out.tup r1 hp rs)
theorem d_lst {f : MA} (h : PAd X es f) : PEd X (.List es pos) (mLst f) := PE.imp (pe_lst h) fun σ H Q h => by
  obtain ⟨M, O, rel, h⟩ := h
  refine ⟨M, O, rel, (RR.bind rel h).imp fun ds B es r1 e1 q vs rs => ?_⟩
  obtain ⟨z, q⟩ := chk_ok q
  refine ⟨by rw [← rs.length]; exact fits_of z, fun p hp => ?_⟩
  exact out_to (A0 := ⟨σ, M, H, O⟩) r1 e1 q _ _ _ (Grow.newOwn hp) (Out.lst r1 hp rs)

/-! ### a[b] -/
def GoodR (X : Cx) (r : R2) (G : G2) : Prop := ∀ (A : Sd) (x y : V) (d1 d2 d : D) (o : Bool) (Q : VK), RelM X.K A → RepT X.K A.O A.H d1 x → RepT X.K A.O A.H d2 y → G d1 d2 = some (d, o) →
    (∀ v H' O', Grow A H' O' → Out X.K A H' O' v d o → Q v H') → r x y A.H Q
theorem atI_Reps {K : PySem.W.Frag} {O : OS} {H : Hp} {ds : List D} {xs : List V} {i : Int} {d : D} (r : Reps K O H ds xs) (h : atI ds i = some d) : ∃ x, atI xs i = some x ∧ Rep K O H d x := by
  unfold atI at h ⊢
  rw [← r.length]
  cases e : ixN ds.length i with
  | none => rw [e] at h; cases h
  | some j =>
    rw [e] at h
    exact r.get h
def gIx : G2
  | .tup xs, .int i => (atI xs i).map fun d => (d, false)
  | .lst xs, .int i => (atI xs i).map fun d => (d, false)
  | .scr xs, .int i => (atI xs i).map fun d => (d, false)
  | .str x, .int i => if x.length ≤ sizeLine then (atI x.cps.toList i).map fun c => (.str ⟨#[c]⟩, false) else none
  | _, _ => none
theorem good_ix : GoodR X (rIx X.K) gIx := by
  intro A x y d1 d2 d o Q rel q1 q2 e k
  unfold gIx at e
  split at e
  · rename_i xs i
    simp only [RepT, Rep] at q1 q2
    obtain ⟨a, ys, rfl, h1, h2⟩ := q1
    cases z : atI xs i with
    | none => rw [z] at e; cases e
    | some d' =>
      rw [z] at e; cases e
      obtain ⟨v, e1, e2⟩ := atI_Reps h2 z
      exact .inr (.inl ⟨a, ys, i, v, rfl, q2, h1, e1, k _ _ _ (Grow.refl A) (Out.same e2)⟩)
  · rename_i xs i
    simp only [RepT, Rep] at q1 q2
    obtain ⟨a, ys, rfl, h1, h2⟩ := q1
    cases z : atI xs i with
    | none => rw [z] at e; cases e
    | some d' =>
      rw [z] at e; cases e
      obtain ⟨v, e1, e2⟩ := atI_Reps h2 z
      exact .inl ⟨a, ys, i, v, rfl, q2, SqL.of h1, e1, k _ _ _ (Grow.refl A) (Out.same e2)⟩
  · rename_i xs i
    simp only [RepT, Rep] at q1 q2
    obtain ⟨a, ys, rfl, h1, h2⟩ := q1
    cases z : atI xs i with
    | none => rw [z] at e; cases e
    | some d' =>
      rw [z] at e; cases e
      obtain ⟨v, e1, e2⟩ := atI_Reps h2 z
      exact .inl ⟨a, ys, i, v, rfl, q2, h1.sq, e1, k _ _ _ (Grow.refl A) (Out.same e2)⟩
  · rename_i x' i
    simp only [RepT, Rep] at q1 q2
    split at e
    · rename_i hz
      cases z : atI x'.cps.toList i with
      | none => rw [z] at e; cases e
      | some c =>
        rw [z] at e; cases e
        exact .inr (.inr ⟨x', i, c, q1, q2, hz, z, k _ _ _ (Grow.refl A) (Out.same (by simp only [Rep]))⟩)
    · cases e
  · cases e
theorem d_ix {f g : ME} (ha : PEd X a f) (hb : PEd X b g) (hs : PlainIx b := by exact fun _ _ => rfl) : PEd X (.Subscript a b pos) (mOp gIx f g) :=
  PE.imp (pe_ix ix_seq ha hb hs) fun σ H Q h => tE_op good_ix h

/-! ### slices -/
abbrev MO := MS → Res (Option Int)
def tO (K : PySem.W.Frag) (f : MO) : TO := fun σ H Q => ∃ M O, RelM K ⟨σ, M, H, O⟩ ∧ RR K ⟨σ, M, H, O⟩ (f M) fun o B => Q o B.H
def POd (X : Cx) (e : Option Expr) (f : MO) : Prop := PO X e (tO X.K f)
theorem PO.imp {o : Option Expr} {t t' : TO} (h : PO X o t) (i : ∀ σ H Q, t' σ H Q → t σ H Q) : PO X o t' := fun pins s σ H Q I q => h pins s σ H Q I (i σ H Q q)
def mNoPart : MO := fun M => .ok none M
def int1 (t : T) (M : MS) : Res Int := match t.see M with
  | some (.int i) => .ok i M
  | _ => .bad
theorem int1_ok {K : PySem.W.Frag} {A : Sd} {t : T} {v : V} {k : Int → Sd → Prop} (rel : RelM K A) (h1 : TRel K A v t) (h : RR K A (int1 t A.M) k) : ∃ i, v = .int i ∧ k i A := by
  unfold int1 at h
  split at h
  · rename_i i e
    have q := h1.see rel e
    exact ⟨i, by simpa only [RepT, Rep] using q, RR.now rel h⟩
  · exact h.elim
def mPart (f : ME) : MO := fun M => (f M).bind fun t M => (int1 t M).bind fun i M => .ok (some i) M
theorem o_none : POd X none mNoPart := PO.imp po_none fun σ H Q h => by
  obtain ⟨M, O, rel, h⟩ := h
  exact RR.now (A := ⟨σ, M, H, O⟩) rel h
theorem o_some {f : ME} (h : PEd X e f) : POd X (some e) (mPart f) := PO.imp (po_some h) fun σ H Q h => by
  obtain ⟨M, O, rel, h⟩ := h
  refine ⟨M, O, rel, (RR.bind rel h).imp fun t B es r1 e1 q v tr _ => ?_⟩
  obtain ⟨i, ei, q'⟩ := int1_ok r1 tr (RR.bind r1 q)
  exact ⟨i, ei, RR.now r1 q'⟩
def cut {α : Type} (xs : List α) (lo hi : Option Int) : List α := (xs.drop (HT.sIx xs.length 0 lo)).take (HT.sIx xs.length xs.length hi - HT.sIx xs.length 0 lo)
theorem cut_Reps {K : PySem.W.Frag} {O : OS} {H : Hp} {ds : List D} {xs : List V} {lo hi : Option Int} (r : Reps K O H ds xs) : Reps K O H (cut ds lo hi) (cutV xs lo hi) := by
  unfold cut cutV
  rw [r.length]
  exact (r.drop _).take _
def G3 := D → Option Int → Option Int → Option (D × Bool)
def GoodSl (X : Cx) (r : V → Option Int → Option Int → Hp → VK → Prop) (G : G3) : Prop := ∀ (A : Sd) (x : V) (lo hi : Option Int) (d1 d : D) (o : Bool) (Q : VK), RelM X.K A → RepT X.K A.O A.H d1 x → G d1 lo hi = some (d, o) →
    (∀ v H' O', Grow A H' O' → Out X.K A H' O' v d o → Q v H') → r x lo hi A.H Q
def mSl (G : G3) (f : ME) (fl fu : MO) : ME := fun M => (f M).bind fun t M => (fl M).bind fun lo M => (fu M).bind fun hi M => (Res.opt (t.see M) M).bind fun d M => (Res.opt (G d lo hi) M).bind fun p M => .ok (.val p.1 p.2) M
theorem d_sl {r : V → Option Int → Option Int → Hp → VK → Prop} {G : G3} {f : ME} {fl fu : MO} {lo hi : Option Expr} (hr : SlR X r) (hg : GoodSl X r G) (he : PEd X e f) (hl : POd X lo fl) (hu : POd X hi fu) :
    PEd X (.Subscript e (.Slice lo hi none p2) pos) (mSl G f fl fu) := PE.imp (pe_slice hr he hl hu) fun σ H Q h => by
  obtain ⟨M, O, rel, h⟩ := h
  refine ⟨M, O, rel, (RR.bind rel h).imp fun t B es r1 e1 q v tr _ => ?_⟩
  cases B with | mk σ1 M1 H1 O1 =>
  cases es
  refine ⟨M1, O1, r1, (RR.bind r1 q).imp fun l B es r2 e2 q => ?_⟩
  cases B with | mk σ2 M2 H2 O2 =>
  cases es
  refine ⟨M2, O2, r2, (RR.bind r2 q).imp fun u B es r3 e3 q => ?_⟩
  cases B with | mk σ3 M3 H3 O3 =>
  cases es
  obtain ⟨d, ed, q⟩ := opt_ok q
  obtain ⟨⟨d', o⟩, ed', q⟩ := opt_ok q
  have ev := (e1.trans e2 rel.sub).trans e3 rel.sub
  exact hg _ v l u d d' o Q r3 (((tr.evo r1 e2 rfl).evo r2 e3 rfl).see r3 ed) ed' (out_to (A0 := ⟨σ, M, H, O⟩) r3 ev q)

/-! ### built-in functions of one argument (it is read only) -/
abbrev G1 := D → Option (D × Bool)
def GoodC (X : Cx) (r : List V → Hp → VK → Prop) (G : G1) : Prop := ∀ (A : Sd) (x : V) (d1 d : D) (o : Bool) (Q : VK), RelM X.K A → RepT X.K A.O A.H d1 x → G d1 = some (d, o) →
    (∀ v H' O', Grow A H' O' → Out X.K A H' O' v d o → Q v H') → r [x] A.H Q
def mC1 (G : G1) (f : ME) : ME := fun M => (f M).bind fun t M => (Res.opt (t.see M) M).bind fun d M => (Res.opt (G d) M).bind fun p M => .ok (.val p.1 p.2) M
theorem tE_c1 {K : PySem.W.Frag} {r : List V → Hp → VK → Prop} {G : G1} {f : ME} (hg : ∀ (A : Sd) (x : V) (d1 d : D) (o : Bool) (Q : VK), RelM K A → RepT K A.O A.H d1 x → G d1 = some (d, o) →
    (∀ v H' O', Grow A H' O' → Out K A H' O' v d o → Q v H') → r [x] A.H Q) {σ : St} {H : Hp} {Q : VK} (h : tE K (mC1 G f) σ H Q) : tCB r (tCons (tE K f) tNil) σ H Q := by
  obtain ⟨M, O, rel, h⟩ := h
  refine ⟨M, O, rel, (RR.bind rel h).imp fun t B es r1 e1 q v tr _ => ?_⟩
  obtain ⟨d, ed, q⟩ := opt_ok q
  obtain ⟨⟨d', o⟩, ed', q⟩ := opt_ok q
  exact hg B v d d' o Q r1 (tr.see r1 ed) ed' (out_to (A0 := ⟨σ, M, H, O⟩) r1 e1 q)
theorem d_callB {x : Str} {id : String} {r : List V → Hp → VK → Prop} {G : G1} {f : ME} (hc : CallR X (.builtin id) r) (hG : GoodC X r G) (hg : Gl X x) (hm : X.mg x = none) (hv : bootBuiltins x = some (.builtin id)) (ha : PEd X e f)
    (hn : x ≠ "__name__" := by decide) (hdb : (x == ("__debug__" : Str)) = false := by decide) (he : starEach [e] X.env = (false, eval e X.env) :: starEach [] X.env := by rfl) : PEd X (.Call (.Name x p) [e] [] pos) (mC1 G f) :=
  PE.imp (pe_callB hc hg hm hv (pa_cons ha pa_nil he) hn hdb he) fun σ H Q h => tE_c1 hG h
theorem d_callTy {x : Str} {T : String} {r : List V → Hp → VK → Prop} {G : G1} {f : ME} (hc : CallR X (.type T) r) (hG : GoodC X r G) (hg : Gl X x) (hm : X.mg x = none) (hv : bootBuiltins x = some (.type T)) (ha : PEd X e f)
    (hn : x ≠ "__name__" := by decide) (hdb : (x == ("__debug__" : Str)) = false := by decide) (he : starEach [e] X.env = (false, eval e X.env) :: starEach [] X.env := by rfl) : PEd X (.Call (.Name x p) [e] [] pos) (mC1 G f) :=
  PE.imp (pe_callTy hc hg hm hv (pa_cons ha pa_nil he) hn hdb he) fun σ H Q h => tE_c1 hG h
def gLen : G1
  | .tup xs => some (.int xs.length, false)
  | .lst xs => some (.int xs.length, false)
  | .scr xs => some (.int xs.length, false)
  | .str x => if fits x.length = true then some (.int x.length, false) else none
  | _ => none
theorem good_len : GoodC X (fun xs H Q => (∃ p ys, xs = [.ref p] ∧ (SqL X.K H p ys ∨ SqT X.K H p ys) ∧ Q (.int ys.length) H) ∨ ∃ z, xs = [.str z] ∧ z.length ≤ sizeLine ∧ Q (.int z.length) H) gLen := by
  intro A x d1 d o Q rel q1 e k
  unfold gLen at e
  split at e
  · rename_i xs
    cases e
    simp only [RepT, Rep] at q1
    obtain ⟨a, ys, rfl, h1, h2⟩ := q1
    exact .inl ⟨a, ys, rfl, .inr h1, k _ _ _ (Grow.refl A) (Out.same (by rw [h2.length]; simp only [Rep]))⟩
  · rename_i xs
    cases e
    simp only [RepT] at q1
    obtain ⟨a, ys, rfl, h1, h2⟩ := q1
    exact .inl ⟨a, ys, rfl, .inl (SqL.of h1), k _ _ _ (Grow.refl A) (Out.same (by rw [h2.length]; simp only [Rep]))⟩
  · rename_i xs
    cases e
    simp only [RepT, Rep] at q1
    obtain ⟨a, ys, rfl, h1, h2⟩ := q1
    exact .inl ⟨a, ys, rfl, .inl h1.sq, k _ _ _ (Grow.refl A) (Out.same (by rw [h2.length]; simp only [Rep]))⟩
  · rename_i x'
    split at e
    · rename_i hz
      cases e
      simp only [RepT, Rep] at q1
      exact .inr ⟨x', by rw [q1], fits_of hz, k _ _ _ (Grow.refl A) (Out.same (by simp only [Rep]))⟩
    · cases e
  · cases e
def gList : G1
  | .tup xs => some (.lst xs, true)
  | .lst xs => some (.lst xs, true)
  | .scr xs => some (.lst xs, true)
  | _ => none
theorem good_list : GoodC X (fun xs H Q => ∃ p ys, xs = [.ref p] ∧ (SqL X.K H p ys ∨ SqT X.K H p ys) ∧ ∀ l, H l = none → Q (.ref l) (upd H l (.lst ys))) gList := by
  intro A x d1 d o Q rel q1 e k
  unfold gList at e
  split at e
  · rename_i xs
    cases e
    simp only [RepT, Rep] at q1
    obtain ⟨a, ys, rfl, h1, h2⟩ := q1
    exact ⟨a, ys, rfl, .inr h1, fun l hl => k _ _ _ (Grow.newOwn hl) (Out.lst rel hl h2)⟩
  · rename_i xs
    cases e
    simp only [RepT] at q1
    obtain ⟨a, ys, rfl, h1, h2⟩ := q1
    exact ⟨a, ys, rfl, .inl (SqL.of h1), fun l hl => k _ _ _ (Grow.newOwn hl) (Out.lst rel hl h2)⟩
  · rename_i xs
    cases e
    simp only [RepT, Rep] at q1
    obtain ⟨a, ys, rfl, h1, h2⟩ := q1
    exact ⟨a, ys, rfl, .inl h1.sq, fun l hl => k _ _ _ (Grow.newOwn hl) (Out.lst rel hl h2)⟩
  · cases e
def gTuple : G1
  | .tup xs => some (.tup xs, false)
  | .lst xs => some (.tup xs, false)
  | .scr xs => some (.tup xs, false)
  | _ => none
theorem good_tuple : GoodC X (fun xs H Q => ∃ p ys, xs = [.ref p] ∧ ((SqL X.K H p ys ∧ ∀ l, H l = none → Q (.ref l) (upd H l (.tup ys))) ∨ (SqT X.K H p ys ∧ Q (.ref p) H))) gTuple := by
  intro A x d1 d o Q rel q1 e k
  unfold gTuple at e
  split at e
  · rename_i xs
    cases e
    have q1' : Rep X.K A.O A.H (.tup xs) x := q1
    simp only [RepT, Rep] at q1
    obtain ⟨a, ys, rfl, h1, h2⟩ := q1
    exact ⟨a, ys, rfl, .inr ⟨h1, k _ _ _ (Grow.refl A) (Out.same q1')⟩⟩
  · rename_i xs
    cases e
    simp only [RepT] at q1
    obtain ⟨a, ys, rfl, h1, h2⟩ := q1
    exact ⟨a, ys, rfl, .inl ⟨SqL.of h1, fun l hl => k _ _ _ (Grow.new hl) (Out.tup rel hl h2)⟩⟩
  · rename_i xs
    cases e
    simp only [RepT, Rep] at q1
    obtain ⟨a, ys, rfl, h1, h2⟩ := q1
    exact ⟨a, ys, rfl, .inl ⟨h1.sq, fun l hl => k _ _ _ (Grow.new hl) (Out.tup rel hl h2)⟩⟩
  · cases e
end
end Mw
set_option Elab.async false
set_option linter.all false
set_option maxRecDepth 100000
/-! MIRROR, part D: statements, defs, calls of defs. -/
namespace Mw
open PySem L2

inductive SR where
  | nx (M : MS)
  | ret (d : D) (own : Bool)
  | brk (M : MS)
  | ct (M : MS)
  | exc (c : Nat) (M : MS)
  | bad
/-- what is handed back -/
def Back (K : PySem.W.Frag) (A B : Sd) (v : V) (d : D) : Bool → Prop
  | false => Rep K B.O B.H d v
  | true => ∃ a xs ds, d = .lst ds ∧ v = .ref a ∧ (SO A a ∨ A.H a = none) ∧ B.O a ∧ B.H a = some (.lst xs) ∧ Reps K B.O B.H ds xs
def RS (K : PySem.W.Frag) (A : Sd) (r : SR) (Z : Ends) : Prop := match r with
  | .nx M' => ∀ σ' H' O', RelM K ⟨σ', M', H', O'⟩ → Evo A ⟨σ', M', H', O'⟩ → Z.nx σ' H'
  | .brk M' => ∀ σ' H' O', RelM K ⟨σ', M', H', O'⟩ → Evo A ⟨σ', M', H', O'⟩ → Z.bk σ' H'
  | .ct M' => ∀ σ' H' O', RelM K ⟨σ', M', H', O'⟩ → Evo A ⟨σ', M', H', O'⟩ → Z.ct σ' H'
  | .ret d o => ∀ B v, Evo A B → Back K A B v d o → Z.rt v B.H
  | .exc _ _ => False
  | .bad => False
abbrev MSt := MS → SR
def tS (K : PySem.W.Frag) (g : MSt) : TS := fun D σ H => ∃ M O, RelM K ⟨σ, M, H, O⟩ ∧ RS K ⟨σ, M, H, O⟩ (g M) D
def PSd (X : Cx) (st : Stmt) (g : MSt) : Prop := PS X st (tS X.K g)
def PSsd (X : Cx) (st : List Stmt) (g : MSt) : Prop := PSs X st (tS X.K g)
def Res.to {α : Type} (r : Res α) (f : α → MS → SR) : SR := match r with
  | .ok a M => f a M
  | .exc c M => .exc c M
  | .bad => .bad
@[simp] theorem Res.to_ok {α : Type} (a : α) (M : MS) (f : α → MS → SR) : (Res.ok a M).to f = f a M := rfl
@[simp] theorem Res.to_bad {α : Type} (f : α → MS → SR) : (Res.bad : Res α).to f = .bad := rfl

section
variable {K : PySem.W.Frag} {A B : Sd} {Z : Ends} {r : SR}
theorem Back.pre {C : Sd} {v : V} {d : D} {o : Bool} (e : Evo A B) (h : Back K B C v d o) : Back K A C v d o := by
  cases o with
  | false => exact h
  | true =>
    obtain ⟨a, xs, ds, rfl, rfl, h0, h1⟩ := h
    exact ⟨a, xs, ds, rfl, rfl, h0.elim (fun z => e.own a z) (fun z => .inr (e.new z)), h1⟩
theorem RS.pre (rel : RelM K A) (e : Evo A B) (h : RS K A r Z) : RS K B r Z := by
  cases r with
  | nx M' => exact fun σ' H' O' r1 e1 => h σ' H' O' r1 (e.trans e1 rel.sub)
  | brk M' => exact fun σ' H' O' r1 e1 => h σ' H' O' r1 (e.trans e1 rel.sub)
  | ct M' => exact fun σ' H' O' r1 e1 => h σ' H' O' r1 (e.trans e1 rel.sub)
  | ret d o => exact fun C v e1 b => h C v (e.trans e1 rel.sub) (b.pre e)
  | exc c M => exact h
  | bad => exact h
theorem RS.imp {Z' : Ends} (h : RS K A r Z) (h1 : ∀ M' σ' H' O', r = .nx M' → RelM K ⟨σ', M', H', O'⟩ → Evo A ⟨σ', M', H', O'⟩ → Z.nx σ' H' → Z'.nx σ' H') (h2 : ∀ v H', Z.rt v H' → Z'.rt v H')
    (h3 : ∀ σ' H', Z.bk σ' H' → Z'.bk σ' H') (h4 : ∀ σ' H', Z.ct σ' H' → Z'.ct σ' H') : RS K A r Z' := by
  cases r with
  | nx M' => exact fun σ' H' O' r1 e1 => h1 M' σ' H' O' rfl r1 e1 (h σ' H' O' r1 e1)
  | brk M' => exact fun σ' H' O' r1 e1 => h3 _ _ (h σ' H' O' r1 e1)
  | ct M' => exact fun σ' H' O' r1 e1 => h4 _ _ (h σ' H' O' r1 e1)
  | ret d o => exact fun C v e1 b => h2 _ _ (h C v e1 b)
  | exc c M => exact h
  | bad => exact h
/-- an expression's result, then on -/
theorem RS.of {α : Type} {q : Res α} {f : α → MS → SR} (h : RS K A (q.to f) Z) : RR K A q fun a B => RS K A (f a B.M) Z := by
  cases q with
  | ok a M' => exact fun H' O' r1 e1 => h
  | exc c M' => exact h
  | bad => exact h
end

section
variable {X : Cx} {st : Stmt} {rest body els : List Stmt} {e c : Expr} {pos : Pos}
theorem PS.imp {t t' : TS} (h : PS X st t) (i : ∀ D σ H, t' D σ H → t D σ H) : PS X st t' := fun pins s σ H D I q => h pins s σ H D I (i D σ H q)
theorem PSs.imp {t t' : TS} (h : PSs X rest t) (i : ∀ D σ H, t' D σ H → t D σ H) : PSs X rest t' := fun pins s σ H D I q => h pins s σ H D I (i D σ H q)

def mNext : MSt := fun M => .nx M
def mSeq (f g : MSt) : MSt := fun M => match f M with
  | .nx M' => g M'
  | r => r
theorem ss_nil : PSsd X [] mNext := PSs.imp pss_nil fun D σ H h => by
  obtain ⟨M, O, rel, h⟩ := h
  exact h σ H O rel (Evo.refl _)
theorem ss_one {f : MSt} (h : PSd X st f) : PSsd X [st] f := pss_one h
theorem ss_cons {f g : MSt} (h1 : PSd X st f) (h2 : PSsd X rest g) : PSsd X (st :: rest) (mSeq f g) := PSs.imp (pss_cons h1 h2) fun D σ H h => by
  obtain ⟨M, O, rel, h⟩ := h
  refine ⟨M, O, rel, ?_⟩
  unfold mSeq at h
  cases z : f M with
  | nx M' =>
    rw [z] at h
    exact fun σ' H' O' r1 e1 => ⟨M', O', r1, RS.pre rel e1 h⟩
  | ret d o => rw [z] at h; exact h
  | brk M' => rw [z] at h; exact h
  | ct M' => rw [z] at h; exact h
  | exc c M' => rw [z] at h; exact h
  | bad => rw [z] at h; exact h
def mBrk : MSt := fun M => .brk M
def mCt : MSt := fun M => .ct M
theorem s_pass : PSd X (.Pass pos) mNext := PS.imp ps_pass fun D σ H h => by
  obtain ⟨M, O, rel, h⟩ := h
  exact h σ H O rel (Evo.refl _)
theorem s_brk : PSd X (.Break pos) mBrk := PS.imp ps_break fun D σ H h => by
  obtain ⟨M, O, rel, h⟩ := h
  exact h σ H O rel (Evo.refl _)
theorem s_ct : PSd X (.Continue pos) mCt := PS.imp ps_continue fun D σ H h => by
  obtain ⟨M, O, rel, h⟩ := h
  exact h σ H O rel (Evo.refl _)
def mDrop (f : ME) : MSt := fun M => (f M).to fun _ M => .nx M
theorem s_expr {f : ME} (he : PEd X e f) (hs : swapsWith e none pos.line X.env = pure false := by rfl) : PSd X (.Expr e pos) (mDrop f) := PS.imp (ps_expr he hs) fun D σ H h => by
  obtain ⟨M, O, rel, h⟩ := h
  refine ⟨M, O, rel, (RS.of h).imp fun t B es r1 e1 q v tr _ => ?_⟩
  cases B with | mk σ1 M1 H1 O1 =>
  cases es
  exact q σ H1 O1 r1 e1
def mIf (c : MT) (f g : MSt) : MSt := fun M => (c M).to fun b M => if b = true then f M else g M
theorem s_if {tc : MT} {f g : MSt} (hc : PTd X c tc) (ha : PSsd X body f) (hb : PSsd X els g) : PSd X (.If c body els pos) (mIf tc f g) := PS.imp (ps_if hc ha hb) fun D σ H h => by
  obtain ⟨M, O, rel, h⟩ := h
  refine ⟨M, O, rel, (RS.of h).imp fun b B es r1 e1 q => ?_⟩
  cases B with | mk σ1 M1 H1 O1 =>
  cases es
  cases b with
  | false =>
    rw [if_neg Bool.false_ne_true] at q ⊢
    exact ⟨M1, O1, r1, RS.pre rel e1 q⟩
  | true =>
    rw [if_pos rfl] at q ⊢
    exact ⟨M1, O1, r1, RS.pre rel e1 q⟩
def mRet (f : ME) : MSt := fun M => (f M).to fun t M => match t.give M with
  | some (d, o) => .ret d o
  | none => .bad
theorem TRel.give {K : PySem.W.Frag} {A B : Sd} {v : V} {t : T} {d : D} {o : Bool} (rel : RelM K B) (ev : Evo A B) (tr : TRel K B v t) (fr : Fresh A.H v t) (h : t.give B.M = some (d, o)) : Back K A B v d o := by
  cases t with
  | val d' o' =>
    cases h
    cases o with
    | false => exact tr
    | true =>
      obtain ⟨a, xs, ds, rfl, rfl, h1, h2, h3, h4⟩ := tr
      exact ⟨a, xs, ds, rfl, rfl, .inr (fr a rfl), h1, h3, h4⟩
  | var i =>
    have h' : B.sg[i]? = some (some v) := tr
    simp only [T.give] at h
    split at h
    · rename_i d' o' q
      cases h
      cases o with
      | false =>
        obtain ⟨u, h1, h2⟩ := rel.shr i d q
        rw [h'] at h1; cases h1
        exact h2
      | true =>
        obtain ⟨a, xs, ds, rfl, h1, h2, h3, h4⟩ := rel.own i d q
        rw [h'] at h1; cases h1
        exact ⟨a, xs, ds, rfl, rfl, ev.own a ⟨i, _, q, h'⟩, h2, h3, h4⟩
    · cases h
theorem s_ret {f : ME} (he : PEd X e f) : PSd X (.Return (some e) pos) (mRet f) := PS.imp (ps_ret he) fun D σ H h => by
  obtain ⟨M, O, rel, h⟩ := h
  refine ⟨M, O, rel, (RS.of h).imp fun t B es r1 e1 q v tr fr => ?_⟩
  cases z : t.give B.M with
  | none => rw [z] at q; exact q.elim
  | some p =>
    obtain ⟨d, o⟩ := p
    rw [z] at q
    exact q B v e1 (tr.give r1 e1 fr z)
def mRetN : MSt := fun _ => .ret .non false
theorem s_retN : PSd X (.Return none pos) mRetN := PS.imp ps_retN fun D σ H h => by
  obtain ⟨M, O, rel, h⟩ := h
  exact h ⟨σ, M, H, O⟩ .non (Evo.refl _) (by show Rep _ _ _ _ _; simp only [Rep])

/-! ### a name is stored -/
theorem getset' {σ : St} {i j : Nat} {c e : Option V} (h : (σ.set i c)[j]? = some e) : (i = j ∧ e = c) ∨ (i ≠ j ∧ σ[j]? = some e) := by
  by_cases q : i = j
  · subst q
    rw [List.getElem?_set] at h
    rw [if_pos rfl] at h
    split at h
    · cases h; exact .inl ⟨rfl, rfl⟩
    · cases h
  · rw [List.getElem?_set_ne q] at h
    exact .inr ⟨q, h⟩
theorem set_same {σ : St} {i : Nat} {c : Option V} (h : i < σ.length) : (σ.set i c)[i]? = some c := by rw [List.getElem?_set_self h]
/-- a value that is shared -/
theorem RelM.setS {K : PySem.W.Frag} {A : Sd} {i : Nat} {d : D} {v : V} (r : RelM K A) (h : Rep K A.O A.H d v) : RelM K ⟨A.sg.set i (some v), A.M.set i (some (d, false)), A.H, A.O⟩ := by
  have lt : ∀ {j : Nat} {e}, A.M[j]? = some e → j < A.sg.length := fun {j e} q => by rw [← r.len]; exact (List.getElem?_eq_some_iff.mp q).1
  have ltm : ∀ {j : Nat} {e c}, (A.M.set j c)[j]? = some e → j < A.sg.length := fun {j e c} q => by
    have := (List.getElem?_eq_some_iff.mp q).1
    rw [List.length_set, r.len] at this
    exact this
  refine ⟨by rw [List.length_set, List.length_set]; exact r.len, fun j e q => ?_, fun j e q => ?_, fun j k e1 e2 b q1 q2 q3 q4 => ?_, r.sub⟩
  · rcases getset q with ⟨z, z2⟩ | ⟨hne, z⟩
    · subst z; cases z2
      exact ⟨v, set_same (ltm q), h⟩
    · obtain ⟨u, h1, h2⟩ := r.shr j e z
      exact ⟨u, by show (A.sg.set i _)[j]? = _; rw [List.getElem?_set_ne hne]; exact h1, h2⟩
  · rcases getset q with ⟨z, z2⟩ | ⟨hne, z⟩
    · cases z2
    · obtain ⟨a, xs, ds, h0, h1, h2⟩ := r.own j e z
      exact ⟨a, xs, ds, h0, by show (A.sg.set i _)[j]? = _; rw [List.getElem?_set_ne hne]; exact h1, h2⟩
  · rcases getset q1 with ⟨_, z⟩ | ⟨n1, z⟩
    · cases z
    · rcases getset q2 with ⟨_, z'⟩ | ⟨n2, z'⟩
      · cases z'
      · have q3' : (A.sg.set i _)[j]? = _ := q3
        have q4' : (A.sg.set i _)[k]? = _ := q4
        rw [List.getElem?_set_ne n1] at q3'
        rw [List.getElem?_set_ne n2] at q4'
        exact r.inj j k e1 e2 b z z' q3' q4'
theorem RelM.setS_evo {K : PySem.W.Frag} {A A0 : Sd} {i : Nat} {d : D} {v : V} (ev : Evo A0 A) : Evo A0 ⟨A.sg.set i (some v), A.M.set i (some (d, false)), A.H, A.O⟩ :=
  ⟨ev.keep, ev.there, ev.sub, ev.sup, fun b ⟨j, e, q1, q2⟩ => by
    rcases getset q1 with ⟨_, z⟩ | ⟨n1, z⟩
    · cases z
    · have q2' : (A.sg.set i _)[j]? = _ := q2
      rw [List.getElem?_set_ne n1] at q2'
      exact ev.own b ⟨j, e, z, q2'⟩⟩
/-- a new list that nothing else holds -/
theorem RelM.setO {K : PySem.W.Frag} {A : Sd} {i : Nat} {ds : List D} {a : Addr} {xs : List V} (r : RelM K A) (h1 : A.O a) (h2 : ¬ SO A a) (h3 : A.H a = some (.lst xs)) (h4 : Reps K A.O A.H ds xs) :
    RelM K ⟨A.sg.set i (some (.ref a)), A.M.set i (some (.lst ds, true)), A.H, A.O⟩ := by
  have ltm : ∀ {j : Nat} {e c}, (A.M.set j c)[j]? = some e → j < A.sg.length := fun {j e c} q => by
    have := (List.getElem?_eq_some_iff.mp q).1
    rw [List.length_set, r.len] at this
    exact this
  refine ⟨by rw [List.length_set, List.length_set]; exact r.len, fun j e q => ?_, fun j e q => ?_, fun j k e1 e2 b q1 q2 q3 q4 => ?_, r.sub⟩
  · rcases getset q with ⟨z, z2⟩ | ⟨hne, z⟩
    · cases z2
    · obtain ⟨u, h1, h2⟩ := r.shr j e z
      exact ⟨u, by show (A.sg.set i _)[j]? = _; rw [List.getElem?_set_ne hne]; exact h1, h2⟩
  · rcases getset q with ⟨z, z2⟩ | ⟨hne, z⟩
    · subst z; cases z2
      exact ⟨a, xs, ds, rfl, set_same (ltm q), h1, h3, h4⟩
    · obtain ⟨b, ys, es, y0, y1, y2⟩ := r.own j e z
      exact ⟨b, ys, es, y0, by show (A.sg.set i _)[j]? = _; rw [List.getElem?_set_ne hne]; exact y1, y2⟩
  · have q3' : (A.sg.set i _)[j]? = _ := q3
    have q4' : (A.sg.set i _)[k]? = _ := q4
    rcases getset q1 with ⟨z1, _⟩ | ⟨n1, z⟩
    · rcases getset q2 with ⟨z2, _⟩ | ⟨n2, z'⟩
      · rw [← z1, ← z2]
      · exfalso
        subst z1
        rw [set_same (ltm q1)] at q3'
        rw [List.getElem?_set_ne n2] at q4'
        cases q3'
        exact h2 ⟨k, e2, z', q4'⟩
    · rcases getset q2 with ⟨z2, _⟩ | ⟨n2, z'⟩
      · exfalso
        subst z2
        rw [set_same (ltm q2)] at q4'
        rw [List.getElem?_set_ne n1] at q3'
        cases q4'
        exact h2 ⟨j, e1, z, q3'⟩
      · rw [List.getElem?_set_ne n1] at q3'
        rw [List.getElem?_set_ne n2] at q4'
        exact r.inj j k e1 e2 b z z' q3' q4'
theorem RelM.setO_evo {A A0 : Sd} {i : Nat} {ds : List D} {a : Addr} (ev : Evo A0 A) (hn : A0.H a = none) : Evo A0 ⟨A.sg.set i (some (.ref a)), A.M.set i (some (.lst ds, true)), A.H, A.O⟩ :=
  ⟨ev.keep, ev.there, ev.sub, ev.sup, fun b ⟨j, e, q1, q2⟩ => by
    have q2' : (A.sg.set i _)[j]? = _ := q2
    rcases getset q1 with ⟨z1, z⟩ | ⟨n1, z⟩
    · subst z1
      rcases getset' q2' with ⟨_, y⟩ | ⟨y, _⟩
      · cases y; exact .inr hn
      · exact absurd rfl y
    · rw [List.getElem?_set_ne n1] at q2'
      exact ev.own b ⟨j, e, z, q2'⟩⟩
def put (i : Nat) (t : T) (M : MS) : Option MS := match t with
  | .val d o => some (M.set i (some (d, o)))
  | .var j => (T.take M (.var j)).map fun p => p.2.set i (some (p.1, false))
theorem put_ok {K : PySem.W.Frag} {A B : Sd} {i : Nat} {t : T} {v : V} {M' : MS} (rel : RelM K B) (s0 : ∀ a, A.O a → A.H a ≠ none) (ev : Evo A B) (tr : TRel K B v t) (fr : Fresh A.H v t) (h : put i t B.M = some M') :
    ∃ O', RelM K ⟨B.sg.set i (some v), M', B.H, O'⟩ ∧ Evo A ⟨B.sg.set i (some v), M', B.H, O'⟩ := by
  cases t with
  | val d o =>
    cases h
    cases o with
    | false => exact ⟨B.O, rel.setS tr, RelM.setS_evo (K := K) ev⟩
    | true =>
      obtain ⟨a, xs, ds, rfl, rfl, h1, h2, h3, h4⟩ := tr
      exact ⟨B.O, rel.setO h1 h2 h3 h4, RelM.setO_evo ev (fr a rfl)⟩
  | var j =>
    replace h : (T.take B.M (.var j)).map (fun p => p.2.set i (some (p.1, false))) = some M' := h
    cases z : T.take B.M (.var j) with
    | none => rw [z] at h; cases h
    | some p =>
      rw [z] at h; cases h
      obtain ⟨O', r1, e1, rp⟩ := tr.take rel z ev s0 fr
      exact ⟨O', r1.setS rp, RelM.setS_evo (K := K) e1⟩
def mSet (i : Nat) (f : ME) : MSt := fun M => (f M).to fun t M => match put i t M with
  | some M' => .nx M'
  | none => .bad
theorem s_set (i : Nat) {x : Str} {f : ME} {pos' : Pos} (hN : X.N.Nodup) (he : PEd X e f) (hi : X.N[i]? = some x := by rfl) (hx : Loc X.env.scope x := by first | exact Or.inl rfl | exact Or.inr rfl) (hs : swapsWith e (some (.Name x pos')) pos.line X.env = pure false := by rfl)
    (hf : X.fn x = true ∨ X.env.scope.names.lookup x = some .local := by first | exact .inl rfl | exact .inr rfl) :
    PSd X (.Assign [.Name x pos'] e pos) (mSet i f) := PS.imp (ps_set hN hi hx he hs hf) fun D σ H h => by
  obtain ⟨M, O, rel, h⟩ := h
  refine ⟨M, O, rel, (RS.of h).imp fun t B es r1 e1 q v tr fr => ?_⟩
  cases B with | mk σ1 M1 H1 O1 =>
  cases es
  cases z : put i t M1 with
  | none => rw [z] at q; exact q.elim
  | some M' =>
    rw [z] at q
    obtain ⟨O', r2, e2⟩ := put_ok r1 rel.sub e1 tr fr z
    exact q _ H1 O' r2 e2

/-! ### targets: a shared value is stored; ts: the slots that are stored into -/
abbrev MG := D → MS → Option MS
def tG (K : PySem.W.Frag) (g : MG) (ts : List Nat) : TG := fun v σ H Q => ∃ d M O, RelM K ⟨σ, M, H, O⟩ ∧ Rep K O H d v ∧ ∃ M', g d M = some M' ∧
  ∀ σ', RelM K ⟨σ', M', H, O⟩ → (∀ A0, Evo A0 ⟨σ, M, H, O⟩ → Evo A0 ⟨σ', M', H, O⟩) → (∀ j : Nat, j ∉ ts → σ'[j]? = σ[j]?) → Q σ' H
def PGd (X : Cx) (tg : Expr) (g : MG) (ts : List Nat) : Prop := PG X tg (tG X.K g ts)
theorem PG.imp {tg : Expr} {t t' : TG} (h : PG X tg t) (i : ∀ v σ H Q, t' v σ H Q → t v σ H Q) : PG X tg t' := fun pins s σ H v u Q I r q => h pins s σ H v u Q I r (i v σ H Q q)
def gNm (i : Nat) : MG := fun d M => some (M.set i (some (d, false)))
theorem g_name (i : Nat) {x : Str} (hN : X.N.Nodup) (hi : X.N[i]? = some x := by rfl) (hx : Loc X.env.scope x := by first | exact Or.inl rfl | exact Or.inr rfl) (hf : X.fn x = true ∨ X.env.scope.names.lookup x = some .local := by first | exact .inl rfl | exact .inr rfl) : PGd X (.Name x pos) (gNm i) [i] :=
  PG.imp (pg_name hN hi hx hf) fun v σ H Q h => by
    obtain ⟨d, M, O, rel, rp, M', e, h⟩ := h
    cases e
    exact h _ (rel.setS (A := ⟨σ, M, H, O⟩) rp) (fun A0 ev => RelM.setS_evo (K := X.K) (A := ⟨σ, M, H, O⟩) ev) fun j hj => List.getElem?_set_ne (fun z => hj (by rw [z]; exact List.mem_singleton.mpr rfl))
/-- several names, one after another -/
def tGs (K : PySem.W.Frag) (g : List D → MS → Option MS) (ts : List Nat) : TGs := fun vs σ H Q => ∃ ds M O, RelM K ⟨σ, M, H, O⟩ ∧ Reps K O H ds vs ∧ ∃ M', g ds M = some M' ∧
  ∀ σ', RelM K ⟨σ', M', H, O⟩ → (∀ A0, Evo A0 ⟨σ, M, H, O⟩ → Evo A0 ⟨σ', M', H, O⟩) → (∀ j : Nat, j ∉ ts → σ'[j]? = σ[j]?) → Q σ' H
def PGsd (X : Cx) (es : List Expr) (g : List D → MS → Option MS) (ts : List Nat) : Prop := PGs X es (tGs X.K g ts)
theorem PGs.imp {ts : List Expr} {t t' : TGs} (h : PGs X ts t) (i : ∀ vs σ H Q, t' vs σ H Q → t vs σ H Q) : PGs X ts t' := fun pins s σ H v u Q I r q => h pins s σ H v u Q I r (i v σ H Q q)
def gsNil : List D → MS → Option MS
  | [], M => some M
  | _ :: _, _ => none
def gsCons (g : MG) (gs : List D → MS → Option MS) : List D → MS → Option MS
  | [], _ => none
  | d :: ds, M => (g d M).bind fun M' => gs ds M'
theorem gs_nil : PGsd X [] gsNil [] := PGs.imp pgs_nil fun vs σ H Q h => by
  obtain ⟨ds, M, O, rel, rp, M', e, h⟩ := h
  cases ds with
  | nil =>
    cases e
    exact ⟨rp.nil_inv, h σ rel (fun _ z => z) fun _ _ => rfl⟩
  | cons d ds => cases e
theorem gs_cons {e : Expr} {es : List Expr} {g : MG} {gs : List D → MS → Option MS} {t1 t2 : List Nat} (h1 : PGd X e g t1) (h2 : PGsd X es gs t2)
    (hs : (assignEach (e :: es) X.env).map (·.2) = assign e X.env :: (assignEach es X.env).map (·.2) := by rfl) : PGsd X (e :: es) (gsCons g gs) (t1 ++ t2) := PGs.imp (pgs_cons h1 h2 hs) fun vs σ H Q h => by
  obtain ⟨ds, M, O, rel, rp, M', e, h⟩ := h
  cases ds with
  | nil => cases e
  | cons d ds =>
    obtain ⟨v, r, rfl, h1, h2⟩ := rp.cons_inv
    have e' : (g d M).bind (fun M' => gs ds M') = some M' := e
    cases z : g d M with
    | none => rw [z] at e'; cases e'
    | some M1 =>
      rw [z] at e'
      refine ⟨v, r, rfl, d, M, O, rel, h1, M1, z, fun σ1 r1 k1 s1 => ?_⟩
      exact ⟨ds, M1, O, r1, h2, M', e', fun σ2 r2 k2 s2 => h σ2 r2 (fun A0 ev => k2 A0 (k1 A0 ev)) fun j hj => (s2 j fun z => hj (List.mem_append_right _ z)).trans (s1 j fun z => hj (List.mem_append_left _ z))⟩
def gUn (n : Nat) (gs : List D → MS → Option MS) : MG := fun d M => match d with
  | .tup ds => if ds.length = n then gs ds M else none
  | _ => none
theorem g_tup {es : List Expr} {k : Nat} {gs : List D → MS → Option MS} {n : Nat} {ts : List Nat} (hc : X.calm = true) (h : PGsd X es gs ts) (hn : (assignEach es X.env).length = n := by rfl) (hst : (assignEach es X.env).findIdx? (·.1) = none := by rfl) :
    PGd X (.Tuple es k pos) (gUn n gs) ts := PG.imp (pg_tup hc h hn hst) fun v σ H Q h => by
  obtain ⟨d, M, O, rel, rp, M', e, h⟩ := h
  cases d with
  | tup ds =>
    simp only [Rep] at rp
    obtain ⟨a, xs, rfl, h1, h2⟩ := rp
    simp only [gUn] at e
    split at e
    · rename_i hl
      exact ⟨a, xs, rfl, h1, by rw [← h2.length]; exact hl, ds, M, O, rel, h2, M', e, h⟩
    · cases e
  | _ => cases e
def mAsg (g : MG) (f : ME) : MSt := fun M => (f M).to fun t M => match t.take M with
  | some (d, M') => (match g d M' with
    | some M'' => .nx M''
    | none => .bad)
  | none => .bad
theorem s_asg {tg e : Expr} {f : ME} {g : MG} {ts : List Nat} (he : PEd X e f) (hg : PGd X tg g ts) (hs : swapsWithSole [tg] e pos.line X.env = pure false := by rfl) (hw : swappedStores [tg] e X.env = pure none := by rfl)
    (h1 : (assignEach [tg] X.env).map (·.2) = [assign tg X.env] := by rfl) : PSd X (.Assign [tg] e pos) (mAsg g f) := PS.imp (ps_asg he hg hs hw h1) fun D σ H h => by
  obtain ⟨M, O, rel, h⟩ := h
  refine ⟨M, O, rel, (RS.of h).imp fun t B es r1 e1 q v tr fr => ?_⟩
  cases B with | mk σ1 M1 H1 O1 =>
  cases es
  cases z : t.take M1 with
  | none => rw [z] at q; exact q.elim
  | some p =>
    obtain ⟨d, M'⟩ := p
    rw [z] at q
    obtain ⟨O', r2, e2, rp⟩ := tr.take r1 z e1 rel.sub fr
    cases y : g d M' with
    | none => dsimp only at q; rw [y] at q; exact q.elim
    | some M'' =>
      dsimp only at q
      rw [y] at q
      exact ⟨d, M', O', r2, rp, M'', y, fun σ' r3 k _ => q σ' H1 O' r3 (k _ e2)⟩
end
end Mw
set_option Elab.async false
set_option linter.all false
set_option maxRecDepth 100000
/-! MIRROR, part E: what is walked, for, while; defs and their calls. -/
namespace Mw
open PySem PySem.Spec PyProof.Rows L2

/-! ### what is walked -/
def Walk (K : PySem.W.Frag) (B : Sd) (J : It) (ds : List D) : Prop := ∀ C, RelM K C → Evo B C →
  (∀ (i : Nat) (d : D), ds[i]? = some d → J.go i C.H ∧ ∀ x H', J.yld i C.H x H' → ∃ O', Grow C H' O' ∧ Rep K O' H' d x) ∧ J.stop ds.length C.H
def tI (K : PySem.W.Frag) (f : MA) : TI := fun σ H R => ∃ M O, RelM K ⟨σ, M, H, O⟩ ∧ RR K ⟨σ, M, H, O⟩ (f M) fun ds B => ∀ J, Walk K B J ds → R J B.H
def PId (X : Cx) (tg e : Expr) (f : MA) : Prop := PI X tg e (tI X.K f)
section
variable {X : Cx} {tg e l : Expr} {pos p : Pos}
theorem PI.imp {t t' : TI} (h : PI X tg e t) (i : ∀ σ H R, t' σ H R → t σ H R) : PI X tg e t' := fun pins s σ H R I q => h pins s σ H R I (i σ H R q)
def iSeq (K : PySem.W.Frag) (tl : TE) : TI := fun σ H R => tl σ H fun x H1 => ∃ a, x = .ref a ∧ (((∃ xs, SqL K H1 a xs) ∧ R (Itl K a) H1) ∨ ((∃ xs, SqT K H1 a xs) ∧ R (Itt K a) H1))
/-- a list or a tuple -/
theorem pi_seq {tl : TE} (hl : PE X l tl) : PI X tg l (iSeq X.K tl) := by
  intro pins s σ H R I h
  refine thn (hl pins s σ H _ I h) fun v s1 ⟨x, H1, I1, r1, q1⟩ => ?_
  obtain ⟨a, e, q1⟩ := q1
  subst e
  cases r1
  rcases q1 with ⟨⟨xs, hq⟩, q⟩ | ⟨⟨xs, hq⟩, q⟩
  · obtain ⟨its, rv, p, hz⟩ := I1.list hq
    refine wpAny_pyIter_list p.isList ?_
    refine ⟨s1.heap.objs.size, [s1.heap.objs.size], _, _, H1, rfl, I1.kept (t' := s1.toks) fun b o e => Heap.get?_push_of_some _ e, turn_list a _, ⟨_, Heap.get?_push_size _ rfl, rfl, rfl⟩, fun b hb => ?_, q⟩
    have e : b = s1.heap.objs.size := by simpa using hb
    subst e
    exact I1.fpOk (Nat.le_refl _) (I1.hok.fresh (Nat.le_refl _))
  · obtain ⟨its, rv, p, hz⟩ := I1.tuple hq
    refine wpAny_pyIter_tuple (show s1.heap.IsTuple a its.toArray from p) ?_
    refine ⟨s1.heap.objs.size, [s1.heap.objs.size], _, _, H1, rfl, I1.kept (t' := s1.toks) fun b o e => Heap.get?_push_of_some _ e, turn_tuple a _, ⟨_, Heap.get?_push_size _ rfl, rfl, rfl⟩, fun b hb => ?_, q⟩
    have e : b = s1.heap.objs.size := by simpa using hb
    subst e
    exact I1.fpOk (Nat.le_refl _) (I1.hok.fresh (Nat.le_refl _))
def D.items : D → Option (List D)
  | .tup ds => some ds
  | .lst ds => some ds
  | .scr ds => some ds
  | _ => none
def mIter (f : ME) : MA := fun M => (f M).bind fun t M => (Res.opt (t.take M) M).bind fun p _ => Res.opt p.1.items p.2
theorem walk_list {K : PySem.W.Frag} {B : Sd} {a : Addr} {ds : List D} (h : ∀ C, RelM K C → Evo B C → ∃ xs, SqL K C.H a xs ∧ Reps K C.O C.H ds xs) : Walk K B (Itl K a) ds := fun C rC eC => by
  obtain ⟨xs, h1, h2⟩ := h C rC eC
  refine ⟨fun i d q => ?_, xs, h1, by rw [h2.length]; exact Nat.le_refl _⟩
  obtain ⟨x, e1, e2⟩ := h2.get q
  refine ⟨⟨xs, x, h1, e1⟩, fun y H' ⟨eH, z⟩ => ?_⟩
  subst eH
  have := z xs h1
  rw [e1] at this; cases this
  exact ⟨C.O, Grow.refl C, e2⟩
theorem walk_tup {K : PySem.W.Frag} {B : Sd} {a : Addr} {ds : List D} (h : ∀ C, RelM K C → Evo B C → ∃ xs, SqT K C.H a xs ∧ Reps K C.O C.H ds xs) : Walk K B (Itt K a) ds := fun C rC eC => by
  obtain ⟨xs, h1, h2⟩ := h C rC eC
  refine ⟨fun i d q => ?_, xs, h1, by rw [h2.length]; exact Nat.le_refl _⟩
  obtain ⟨x, e1, e2⟩ := h2.get q
  refine ⟨⟨xs, x, h1, e1⟩, fun y H' ⟨eH, z⟩ => ?_⟩
  subst eH
  have := z xs h1
  rw [e1] at this; cases this
  exact ⟨C.O, Grow.refl C, e2⟩
theorem i_seq {f : ME} (hl : PEd X l f) : PId X tg l (mIter f) := PI.imp (pi_seq hl) fun σ H R h => by
  obtain ⟨M, O, rel, h⟩ := h
  refine ⟨M, O, rel, (RR.bindA h).imp fun t B es r1 e1 q v tr fr => ?_⟩
  cases B with | mk σ1 M1 H1 O1 =>
  cases es
  obtain ⟨⟨d, M'⟩, ep, q⟩ := opt_ok q
  obtain ⟨O', r2, e2, rp⟩ := tr.take r1 ep e1 rel.sub fr
  cases d with
  | tup ds =>
    have rp' := rp
    simp only [Rep] at rp'
    obtain ⟨a, xs, rfl, h1, h2⟩ := rp'
    refine ⟨a, rfl, .inr ⟨⟨xs, h1⟩, ?_⟩⟩
    refine (q : RR _ _ (.ok ds M') _) H1 O' r2 e2 _ (walk_tup fun C rC eC => ?_)
    have z := Rep.evo r2 eC rp
    simp only [Rep] at z
    obtain ⟨b, ys, eb, h3, h4⟩ := z
    cases eb
    exact ⟨ys, h3, h4⟩
  | lst ds =>
    have rp' := rp
    simp only [Rep] at rp'
    obtain ⟨a, xs, rfl, h1, h1', h2⟩ := rp'
    refine ⟨a, rfl, .inl ⟨⟨xs, SqL.of h1⟩, ?_⟩⟩
    refine (q : RR _ _ (.ok ds M') _) H1 O' r2 e2 _ (walk_list fun C rC eC => ?_)
    have z := Rep.evo r2 eC rp
    simp only [Rep] at z
    obtain ⟨b, ys, eb, h3, h3', h4⟩ := z
    cases eb
    exact ⟨ys, SqL.of h3, h4⟩
  | scr ds =>
    have rp' := rp
    simp only [Rep] at rp'
    obtain ⟨a, xs, rfl, h1, h2⟩ := rp'
    refine ⟨a, rfl, .inl ⟨⟨xs, h1.sq⟩, ?_⟩⟩
    refine (q : RR _ _ (.ok ds M') _) H1 O' r2 e2 _ (walk_list fun C rC eC => ?_)
    have z := Rep.evo r2 eC rp
    simp only [Rep] at z
    obtain ⟨b, ys, eb, h3, h4⟩ := z
    cases eb
    exact ⟨ys, h3.sq, h4⟩
  | non => exact False.elim q
  | bl b => exact False.elim q
  | int i => exact False.elim q
  | str x => exact False.elim q
/-- 0, 1, .. -/
def upTo (n : Int) : List D := (List.range n.toNat).map fun (k : Nat) => D.int (k : Int)
def mRange (f : ME) : MA := fun M => (f M).bind fun t M => (int1 t M).bind fun n M => Res.chk (decide (-(2 ^ 62) ≤ n) && decide (n < 2 ^ 62)) (.ok (upTo n) M)
theorem walk_range {K : PySem.W.Frag} {B : Sd} {n : Int} : Walk K B (Itr 0 n.toNat) (upTo n) := fun C rC eC => by
  have hl : (upTo n).length = n.toNat := by simp [upTo]
  refine ⟨fun i d q => ?_, by rw [hl]; exact Nat.le_refl _⟩
  have hi : i < n.toNat := by rw [← hl]; exact (List.getElem?_eq_some_iff.mp q).1
  have hd : d = .int (i : Int) := by
    simp only [upTo, List.getElem?_map, List.getElem?_range hi, Option.map_some] at q
    cases q; rfl
  refine ⟨hi, fun x H' ⟨eH, ex⟩ => ?_⟩
  subst eH; subst ex; subst hd
  exact ⟨C.O, Grow.refl C, by simp only [Rep]; rw [Int.zero_add]⟩
theorem i_range {f : ME} (hg : Gl X "range") (hm : X.mg "range" = none) (ha : PEd X e f) (hs : starEach [e] X.env = [(false, eval e X.env)] := by rfl) : PId X tg (.Call (.Name "range" p) [e] [] pos) (mRange f) :=
  PI.imp (pi_range1 hg hm (pa_cons ha pa_nil hs) hs) fun σ H R h => by
    obtain ⟨M, O, rel, h⟩ := h
    refine ⟨M, O, rel, (RR.bind rel h).imp fun t B es r1 e1 q v tr fr => ?_⟩
    obtain ⟨n, en, q⟩ := int1_ok r1 tr (RR.bind r1 q)
    obtain ⟨z, q⟩ := chk_ok q
    simp only [Bool.and_eq_true, decide_eq_true_eq] at z
    exact ⟨n, by rw [en], z.1, z.2, RR.now r1 q _ walk_range⟩

/-! ### for -/
def mLoop (g : MG) (body : MSt) : List D → MS → SR
  | [], M => .nx M
  | d :: ds, M => match g d M with
    | none => .bad
    | some M1 => match body M1 with
      | .nx M2 => mLoop g body ds M2
      | .ct M2 => mLoop g body ds M2
      | .brk M2 => .nx M2
      | .ret d o => .ret d o
      | .exc c M2 => .exc c M2
      | .bad => .bad
def mFor (f : MA) (g : MG) (body : MSt) : MSt := fun M => (f M).to fun ds M => mLoop g body ds M
theorem s_for {body : List Stmt} {iter : Expr} {f : MA} {g : MG} {ts : List Nat} {fb : MSt} (hp : PassesOwn (model X.prog X.w) X.A X.env X.xe) (hc : X.calm = true) (hi : PId X tg iter f) (hg : PGd X tg g ts) (hb : PSsd X body fb)
    (hs : ∀ x, foldedSetIterable iter X.env x = pure x := by intro _; rfl) : PSd X (.For tg iter body [] pos) (mFor f g fb) := PS.imp (ps_for hp hc hi hg hb hs) fun Z σ H h => by
  obtain ⟨M, O, rel, h⟩ := h
  refine ⟨M, O, rel, (RS.of h).imp fun ds B es r1 e1 q J wk => ?_⟩
  refine ⟨fun i m σ' H' => i ≤ ds.length ∧ m = ds.length - i ∧ ∃ M' O', RelM X.K ⟨σ', M', H', O'⟩ ∧ Evo B ⟨σ', M', H', O'⟩ ∧ RS X.K ⟨σ', M', H', O'⟩ (mLoop g fb (ds.drop i) M') Z,
    ⟨ds.length, Nat.zero_le _, rfl, B.M, B.O, ?_⟩, fun i m σ' H' w => ?_⟩
  · cases B with | mk σ1 M1 H1 O1 =>
    cases es
    exact ⟨r1, Evo.refl _, RS.pre rel e1 q⟩
  · obtain ⟨hi, rfl, M', O', rC, eC, qC⟩ := w
    obtain ⟨w1, w2⟩ := wk _ rC eC
    by_cases hlt : i < ds.length
    · refine .inr ?_
      have hd : ds.drop i = ds[i] :: ds.drop (i + 1) := List.drop_eq_getElem_cons hlt
      rw [hd] at qC
      obtain ⟨go, yl⟩ := w1 i ds[i] (List.getElem?_eq_getElem hlt)
      refine ⟨go, fun σ'' H'' => ∃ m', m' < ds.length - i ∧ (i + 1 ≤ ds.length ∧ m' = ds.length - (i + 1) ∧ ∃ M' O', RelM X.K ⟨σ'', M', H'', O'⟩ ∧ Evo B ⟨σ'', M', H'', O'⟩ ∧ RS X.K ⟨σ'', M', H'', O'⟩ (mLoop g fb (ds.drop (i + 1)) M') Z), fun _ _ z => z, fun x H2 y => ?_⟩
      obtain ⟨O2, gr, rp⟩ := yl x H2 y
      unfold mLoop at qC
      cases z : g ds[i] M' with
      | none => rw [z] at qC; exact qC.elim
      | some M1 =>
        rw [z] at qC
        dsimp only at qC
        refine ⟨ds[i], M', O2, gr.rel rC, rp, M1, z, fun σ2 r2 k2 _ => ⟨M1, O2, r2, ?_⟩⟩
        have e2 := k2 _ gr.evo
        have fin : ∀ {M2 : MS} {σ3 : L2.St} {H3 : Hp} {O3 : OS}, RS X.K ⟨σ', M', H', O'⟩ (mLoop g fb (ds.drop (i + 1)) M2) Z → RelM X.K ⟨σ3, M2, H3, O3⟩ → Evo ⟨σ2, M1, H2, O2⟩ ⟨σ3, M2, H3, O3⟩ →
            ∃ m', m' < ds.length - i ∧ (i + 1 ≤ ds.length ∧ m' = ds.length - (i + 1) ∧ ∃ M' O', RelM X.K ⟨σ3, M', H3, O'⟩ ∧ Evo B ⟨σ3, M', H3, O'⟩ ∧ RS X.K ⟨σ3, M', H3, O'⟩ (mLoop g fb (ds.drop (i + 1)) M') Z) := fun {M2 σ3 H3 O3} qq r3 e3 => by
          have e23 := e2.trans e3 rC.sub
          exact ⟨ds.length - (i + 1), by omega, hlt, rfl, M2, O3, r3, eC.trans e23 r1.sub, RS.pre rC e23 qq⟩
        cases y : fb M1 with
        | nx M2 =>
          rw [y] at qC
          exact fun σ3 H3 O3 r3 e3 => fin qC r3 e3
        | ct M2 =>
          rw [y] at qC
          exact fun σ3 H3 O3 r3 e3 => fin qC r3 e3
        | brk M2 =>
          rw [y] at qC
          exact fun σ3 H3 O3 r3 e3 => qC σ3 H3 O3 r3 (e2.trans e3 rC.sub)
        | ret d o =>
          rw [y] at qC
          exact RS.pre (r := .ret d o) rC e2 qC
        | exc c M2 => rw [y] at qC; exact qC.elim
        | bad => rw [y] at qC; exact qC.elim
    · have he : i = ds.length := Nat.le_antisymm hi (Nat.le_of_not_lt hlt)
      subst he
      rw [List.drop_length] at qC
      exact .inl ⟨w2, qC σ' H' O' rC (Evo.refl _)⟩

/-! ### while: as many turns as n at most -/
def mWhl (c : MT) (body : MSt) : Nat → MS → SR
  | 0, _ => .bad
  | n + 1, M => (c M).to fun b M1 => if b = true then (match body M1 with
    | .nx M2 => mWhl c body n M2
    | .ct M2 => mWhl c body n M2
    | .brk M2 => .nx M2
    | .ret d o => .ret d o
    | .exc c M2 => .exc c M2
    | .bad => .bad) else .nx M1
theorem s_while (n : Nat) {c : Expr} {body : List Stmt} {tc : MT} {fb : MSt} (hp : PassesOwn (model X.prog X.w) X.A X.env X.xe) (hc : PTd X c tc) (hb : PSsd X body fb) : PSd X (.While c body [] pos) (mWhl tc fb n) := PS.imp (ps_while hp hc hb) fun Z σ H h => by
  obtain ⟨M, O, rel, h⟩ := h
  refine ⟨fun m σ' H' => ∃ M' O', RelM X.K ⟨σ', M', H', O'⟩ ∧ RS X.K ⟨σ', M', H', O'⟩ (mWhl tc fb m M') Z, ⟨n, M, O, rel, h⟩, fun m σ' H' w => ?_⟩
  obtain ⟨M', O', rC, qC⟩ := w
  cases m with
  | zero => exact qC.elim
  | succ m =>
    unfold mWhl at qC
    refine ⟨M', O', rC, (RS.of qC).imp fun b B es r1 e1 q => ?_⟩
    cases B with | mk σ1 M1 H1 O1 =>
    cases es
    cases b with
    | false =>
      rw [if_neg Bool.false_ne_true] at q ⊢
      exact q σ' H1 O1 r1 e1
    | true =>
      rw [if_pos rfl] at q ⊢
      refine ⟨fun σ'' H'' => ∃ m', m' < m + 1 ∧ ∃ M' O', RelM X.K ⟨σ'', M', H'', O'⟩ ∧ RS X.K ⟨σ'', M', H'', O'⟩ (mWhl tc fb m' M') Z, fun _ _ z => z, M1, O1, r1, ?_⟩
      dsimp only at q
      cases y : fb M1 with
      | nx M2 =>
        rw [y] at q
        exact fun σ3 H3 O3 r3 e3 => ⟨m, Nat.lt_succ_self m, M2, O3, r3, RS.pre rC (e1.trans e3 rC.sub) q⟩
      | ct M2 =>
        rw [y] at q
        exact fun σ3 H3 O3 r3 e3 => ⟨m, Nat.lt_succ_self m, M2, O3, r3, RS.pre rC (e1.trans e3 rC.sub) q⟩
      | brk M2 =>
        rw [y] at q
        exact fun σ3 H3 O3 r3 e3 => q σ3 H3 O3 r3 (e1.trans e3 rC.sub)
      | ret d o =>
        rw [y] at q
        exact RS.pre (r := .ret d o) rC e1 q
      | exc c M2 => rw [y] at q; exact q.elim
      | bad => rw [y] at q; exact q.elim
end

/-! ### defs -/
inductive CR where
  | ok (d : D) (own : Bool)
  | exc (c : Nat)
  | bad
def spD (K : PySem.W.Frag) (n : Nat) (mf : List D → CR) : Sp := fun vs H Q _ => vs.length = n ∧ ∃ ds O, (∀ a, O a → H a ≠ none) ∧ Reps K O H ds vs ∧ match mf ds with
  | .ok d o => ∀ v H' O', Grow ⟨[], [], H, O⟩ H' O' → Out K ⟨[], [], H, O⟩ H' O' v d o → Q v H'
  | _ => False
/-- the entry -/
def mStart (n : Nat) (ds : List D) : MS := ds.map (fun d => some (d, false)) ++ List.replicate (n - ds.length) none
def mFun (n : Nat) (g : MSt) : List D → CR := fun ds => match g (mStart n ds) with
  | .ret d o => .ok d o
  | .nx _ => .ok .non false
  | .exc c _ => .exc c
  | _ => .bad
theorem start_rel {K : PySem.W.Frag} {N : List Str} {ds : List D} {vs : List V} {H : Hp} {O : OS} (hO : ∀ a, O a → H a ≠ none) (h : Reps K O H ds vs) : RelM K ⟨L2.start N vs, mStart N.length ds, H, O⟩ := by
  have hl := h.length
  have get : ∀ (i : Nat) (d : D) (o : Bool), (mStart N.length ds)[i]? = some (some (d, o)) → o = false ∧ ds[i]? = some d := fun i d o q => by
    unfold mStart at q
    by_cases hi : i < ds.length
    · rw [List.getElem?_append_left (by simpa using hi), List.getElem?_map, List.getElem?_eq_getElem hi] at q
      simp only [Option.map_some, Option.some.injEq, Prod.mk.injEq] at q
      exact ⟨q.2.symm, by rw [List.getElem?_eq_getElem hi, q.1]⟩
    · rw [List.getElem?_append_right (by simpa using hi)] at q
      rw [List.getElem?_replicate] at q
      split at q <;> cases q
  refine ⟨?_, fun i d q => ?_, fun i d q => ?_, fun i j d e a q => ?_, hO⟩
  · show (mStart N.length ds).length = (L2.start N vs).length
    simp only [mStart, L2.start, List.length_append, List.length_map, List.length_replicate, hl]
  · obtain ⟨_, e⟩ := get i d false q
    obtain ⟨v, e1, e2⟩ := h.get e
    refine ⟨v, ?_, e2⟩
    show (L2.start N vs)[i]? = _
    have hi : i < vs.length := (List.getElem?_eq_some_iff.mp e1).1
    unfold L2.start
    rw [List.getElem?_append_left (by simpa using hi), List.getElem?_map, e1]
    rfl
  · exact absurd (get i d true q).1 (by decide)
  · exact absurd (get i d true q).1 (by decide)
theorem mStart_no {n : Nat} {ds : List D} {σ : L2.St} {H : Hp} {O : OS} {a : Addr} : ¬ SO ⟨σ, mStart n ds, H, O⟩ a := fun ⟨i, d, q, _⟩ => by
  have q' : (mStart n ds)[i]? = some (some (d, true)) := q
  unfold mStart at q'
  by_cases hi : i < ds.length
  · rw [List.getElem?_append_left (by simpa using hi), List.getElem?_map, List.getElem?_eq_getElem hi] at q'
    simp only [Option.map_some, Option.some.injEq, Prod.mk.injEq] at q'
    exact absurd q'.2 (by decide)
  · rw [List.getElem?_append_right (by simpa using hi), List.getElem?_replicate] at q'
    split at q' <;> cases q'
theorem fn_reads {K : PySem.W.Frag} {N : List Str} {n : Nat} {g : MSt} {vs : List V} {H : Hp} {Q : VK} {E : XK} (h : spD K n (mFun N.length g) vs H Q E) : tS K g { nx := fun _ H' => Q .non H', rt := Q } (L2.start N vs) H := by
  obtain ⟨_, ds, O, hO, rs, h⟩ := h
  refine ⟨mStart N.length ds, O, start_rel hO rs, ?_⟩
  unfold mFun at h
  have grow : ∀ B : Sd, Evo ⟨L2.start N vs, mStart N.length ds, H, O⟩ B → Grow ⟨[], [], H, O⟩ B.H O := fun B ev => ⟨fun a o q => ev.keep a o q mStart_no, fun a q => .inl q, fun a q => q⟩
  cases z : g (mStart N.length ds) with
  | nx M' =>
    rw [z] at h
    exact fun σ' H' O' r1 e1 => h .non H' O (grow _ e1) (by show Rep _ _ _ _ _; simp only [Rep])
  | ret d o =>
    rw [z] at h
    intro B v ev bk
    cases o with
    | false => exact h v B.H O (grow B ev) (Rep.less (fun a q => ev.sup a q mStart_no) bk)
    | true =>
      obtain ⟨a, xs, es, rfl, rfl, h0, h1, h2, h3⟩ := bk
      have h0' : H a = none := h0.elim (fun z => absurd z mStart_no) fun z => z
      have le : ∀ b, (O b ∨ b = a) → B.O b := fun b q => q.elim (fun q => ev.sup b q mStart_no) fun q => by subst q; exact h1
      exact h (.ref a) B.H (fun b => O b ∨ b = a) ⟨fun b o q => ev.keep b o q mStart_no, fun b q => q.elim .inl fun q => by subst q; exact .inr ⟨h0', by rw [h2]; exact fun z => by cases z⟩, fun b q => .inl q⟩
        ⟨a, xs, es, rfl, rfl, h0', .inr rfl, h2, h3.less le⟩
  | brk M' => rw [z] at h; exact h.elim
  | ct M' => rw [z] at h; exact h.elim
  | exc c M' => rw [z] at h; exact h.elim
  | bad => rw [z] at h; exact h.elim
section
variable {P : Program} {w : World} {K : PySem.W.Frag} {mg : Str → Option Value} {base : Heap}
/-- THE RULE for a def -/
theorem fn_d {x qual : Str} {st : Stmt} {f : Addr} {fd : FuncData} {N ps : List Str} {k : Nat} {g : MSt} (F : Fun K x qual st f fd) (S : FnScope N ps (defScope st))
    (hb : ∀ (cdv : Value) (A : Around) (outer : List Env) (s : Shared) (H : Hp) (E : XK), Room k (A.deeper (envOfC qual (defScope st) s.heap.objs.size f cdv)) →
      PSsd (cxOf CX0 P w K mg base N qual (defScope st) f cdv A outer s H E).nox (defBody st) g) : FnOk P w K mg base CX0 (k + 1) f fd ps (spD K ps.length (mFun N.length g)) :=
  F.ok S (fun vs H Q E h => h.1) fun cdv A outer s H vs Q E hr h => ⟨_, hb cdv A outer s H E hr, fn_reads h⟩
end
section
variable {X : Cx} {k : Nat} {f : Addr} {fd : FuncData} {ps : List Str} {x : Str} {p pos : Pos} {e : Expr} {es : List Expr}
def mCall (mf : List D → CR) (fa : MA) : ME := fun M => (fa M).bind fun ds M => match mf ds with
  | .ok d o => .ok (.val d o) M
  | .exc c => .exc c M
  | .bad => .bad
theorem d_call {n : Nat} {mf : List D → CR} {fa : MA} (F : FnOk X.prog X.w X.K X.mg X.base CX0 k f fd ps (spD X.K n mf)) (hn : (e :: es).length = n) (hr : Room k X.A) (hg : Gl X x) (hm : X.mg x = some (.ref f)) (hk : PySem.W.keepIn X.K (.ref f) = true) (hb : Binds X.K fd ps [])
    (ha : PAd X (e :: es) fa) (hl : ∀ M ds M', fa M = .ok ds M' → ds.length = n) (hdb : (x == ("__debug__" : Str)) = false := by decide) (he : starEach (e :: es) X.env = (false, eval e X.env) :: starEach es X.env := by rfl) (hpl : (backTo pos (starEach es X.env)).any (·.1) = false := by rfl) :
    PEd X (.Call (.Name x p) (e :: es) [] pos) (mCall mf fa) := PE.imp (pe_call (E := E0) (dvs := []) F hr hg hm hk hb .nil pass0 ha hdb he hpl) fun σ H Q h => by
  obtain ⟨M, O, rel, h⟩ := h
  have h0 := RR.bind rel h
  cases z : fa M with
  | ok ds M1 =>
    refine ⟨M, O, rel, ?_⟩
    rw [z] at h0 ⊢
    intro H' O' r1 e1 vs rs
    have q := h0 H' O' r1 e1
    rw [List.append_nil]
    refine ⟨by rw [← rs.length]; exact hl _ _ _ z, ds, O', r1.sub, rs, ?_⟩
    cases y : mf ds with
    | ok d o =>
      have q' : RR X.K ⟨σ, M1, H', O'⟩ (match mf ds with | .ok d o => Res.ok (T.val d o) M1 | .exc c => .exc c M1 | .bad => .bad) _ := q
      rw [y] at q'
      exact fun v H2 O2 gr w => out_to (A := ⟨σ, M1, H', O'⟩) (A0 := ⟨σ, M, H, O⟩) r1 e1 q' v H2 O2 ⟨gr.keep, gr.sub, gr.sup⟩ (by cases o <;> exact w)
    | exc c =>
      have q' : RR X.K ⟨σ, M1, H', O'⟩ (match mf ds with | .ok d o => Res.ok (T.val d o) M1 | .exc c => .exc c M1 | .bad => .bad) _ := q
      rw [y] at q'
      exact q'.elim
    | bad =>
      have q' : RR X.K ⟨σ, M1, H', O'⟩ (match mf ds with | .ok d o => Res.ok (T.val d o) M1 | .exc c => .exc c M1 | .bad => .bad) _ := q
      rw [y] at q'
      exact q'.elim
  | exc c M1 => rw [z] at h0; exact h0.elim
  | bad => rw [z] at h0; exact h0.elim
theorem len_nil {M M' : MS} {ds : List D} (h : mNil M = .ok ds M') : ds.length = 0 := by cases h; rfl
theorem len_cons {f : ME} {g : MA} {n : Nat} (hg : ∀ M ds M', g M = .ok ds M' → ds.length = n) (M : MS) (ds : List D) (M' : MS) (h : mCons f g M = .ok ds M') : ds.length = n + 1 := by
  unfold mCons at h
  cases z : f M with
  | ok t M1 =>
    rw [z, Res.bind_ok] at h
    cases y : t.take M1 with
    | none => rw [y] at h; cases h
    | some p =>
      rw [y, Res.opt_some, Res.bind_ok] at h
      cases w : g p.2 with
      | ok es M2 =>
        rw [w, Res.bind_ok] at h
        cases h
        rw [List.length_cons, hg _ _ _ w]
      | exc c M2 => rw [w] at h; cases h
      | bad => rw [w] at h; cases h
  | exc c M1 => rw [z] at h; cases h
  | bad => rw [z] at h; cases h
end
end Mw
set_option Elab.async false
set_option linter.all false
set_option maxRecDepth 100000
/-! MIRROR, part F: a list comprehension of one clause. -/
namespace Mw
open PySem PySem.Spec PyProof.Rows L2

/-! ### the block's cells are the def's -/
def clOf (names : List (Str × NameKind)) (cells : List (Str × Addr)) : List (Str × Addr) := ((names.filter fun y => y.2 == .free).map fun y => (y.1, (cells.lookup y.1).getD 0)).reverse
theorem closure_aux {env : Env} : ∀ (names : List (Str × NameKind)) (cs : List (Str × Addr)), (∀ y ∈ names, y.2 = .free → ∃ c, env.cells.lookup y.1 = some c) →
    (forIn names cs fun (x : Str × NameKind) (r : List (Str × Addr)) => (match x with
      | (name, kind) => if (kind == .free) = true then do let a ← cellOf env name; pure (ForInStep.yield ((name, a) :: r)) else pure (ForInStep.yield r) : Sem (ForInStep (List (Str × Addr))))) = pure (clOf names env.cells ++ cs)
  | [], cs, h => rfl
  | (n, k) :: r, cs, h => by
    rw [List.forIn_cons]
    have hr : ∀ y ∈ r, y.2 = .free → ∃ c, env.cells.lookup y.1 = some c := fun y hy => h y (List.mem_cons_of_mem _ hy)
    by_cases hk : k = .free
    · subst hk
      obtain ⟨c, hc⟩ := h (n, .free) List.mem_cons_self rfl
      have e1 : cellOf env n = pure c := by unfold cellOf; rw [hc]
      simp only [beq_self_eq_true, if_true, e1, pure_bind]
      rw [closure_aux r _ hr]
      simp only [clOf, List.filter_cons, beq_self_eq_true, if_true, List.map_cons, List.reverse_cons, hc, Option.getD_some, List.append_assoc, List.cons_append, List.nil_append]
    · have hb : (k == NameKind.free) = false := by simpa using hk
      simp only [hb, Bool.false_eq_true, if_false, pure_bind]
      rw [closure_aux r cs hr]
      simp only [clOf, List.filter_cons, hb, Bool.false_eq_true, if_false]
theorem closure_ok {scope : Scope} {env : Env} (h : ∀ y ∈ scope.names, y.2 = .free → ∃ c, env.cells.lookup y.1 = some c) : closureFor scope env = pure (clOf scope.names env.cells) := by
  have := closure_aux (env := env) scope.names [] h
  rw [List.append_nil] at this
  unfold closureFor
  first
    | (rw [this]; rfl)
    | (simp only [this]; rfl)
    | exact (congrArg (fun t => t >>= fun r => pure r) this).trans rfl

/-! ### the block's names -/
def relS (sc osc : Scope) : List (Str × NameKind) := sc.names.map fun (n, k) => if (k == .free && osc.kind == .function && osc.names.lookup n == some .cell) then (n, .cell) else (n, k)
def visB (names : List (Str × NameKind)) (x : Str) : Bool := match names.lookup x with
  | some .local => true
  | some .cell => true
  | some .free => true
  | _ => false
def compOkB (osc sc : Scope) (own N N' : List Str) : Bool :=
  (match sc.kind with | .function => true | _ => false) &&
  sc.names.all (fun y => match y.2 with
    | .cell => false
    | .local => (match sc.names.lookup y.1 with | some .local => true | _ => false)
    | .free => (match osc.names.lookup y.1 with | some .cell => true | some .free => true | _ => false)
    | _ => true) &&
  (N'.length == own.length + N.length) &&
  ((N'.drop own.length).zip N).all (fun p => !visB (relS sc osc) p.1 || (p.1 == p.2 && (match sc.names.lookup p.1 with | some .free => true | _ => false)))
structure CompOk (osc sc : Scope) (own N N' : List Str) : Prop where
  kind : sc.kind = .function
  nocell : ∀ y ∈ sc.names, y.2 ≠ .cell
  locs : ∀ y ∈ sc.names, y.2 = .local → sc.names.lookup y.1 = some .local
  frees : ∀ y ∈ sc.names, y.2 = .free → osc.names.lookup y.1 = some .cell ∨ osc.names.lookup y.1 = some .free
  len : N'.length = own.length + N.length
  vis : ∀ (i : Nat) (x : Str), N'[own.length + i]? = some x → visB (relS sc osc) x = true → N[i]? = some x ∧ sc.names.lookup x = some .free
theorem CompOk.of {osc sc : Scope} {own N N' : List Str} (h : compOkB osc sc own N N' = true) : CompOk osc sc own N N' := by
  unfold compOkB at h
  simp only [Bool.and_eq_true] at h
  obtain ⟨⟨⟨h1, h2⟩, h3⟩, h4⟩ := h
  rw [List.all_eq_true] at h2 h4
  have hl : N'.length = own.length + N.length := by simpa using h3
  refine ⟨?_, fun y hy e => ?_, fun y hy e => ?_, fun y hy e => ?_, hl, fun i x e v => ?_⟩
  · split at h1
    · assumption
    · cases h1
  · have := h2 y hy
    rw [e] at this
    cases this
  · have := h2 y hy
    rw [e] at this
    dsimp only at this
    split at this
    · assumption
    · cases this
  · have := h2 y hy
    rw [e] at this
    dsimp only at this
    split at this
    · rename_i q; exact .inl q
    · rename_i q; exact .inr q
    · cases this
  · have hi : own.length + i < N'.length := (List.getElem?_eq_some_iff.mp e).1
    have hi' : i < N.length := by omega
    have m : (x, N[i]) ∈ (N'.drop own.length).zip N := by
      rw [List.mem_iff_getElem?]
      refine ⟨i, ?_⟩
      rw [List.getElem?_zip_eq_some]
      exact ⟨by rw [List.getElem?_drop]; exact e, List.getElem?_eq_getElem hi'⟩
    have := h4 _ m
    dsimp only at this
    rw [v] at this
    simp only [Bool.not_true, Bool.false_or, Bool.and_eq_true, beq_iff_eq] at this
    obtain ⟨q1, q2⟩ := this
    refine ⟨by rw [q1]; exact List.getElem?_eq_getElem hi', ?_⟩
    split at q2
    · assumption
    · cases q2
theorem lookup_map {φ : Str → Addr} {x : Str} {c : Addr} : ∀ {l : List (Str × Addr)}, (∀ p ∈ l, p.2 = φ p.1) → l.lookup x = some c → c = φ x
  | [], _, h => by simp at h
  | (n, a) :: r, hl, h => by
    rw [List.lookup_cons] at h
    split at h
    · rename_i q
      have q' : x = n := by simpa using q
      cases h
      rw [q']
      exact hl (n, c) List.mem_cons_self
    · exact lookup_map (fun p hp => hl p (List.mem_cons_of_mem _ hp)) h
theorem lookup_has {x : Str} : ∀ {l : List (Str × Addr)}, x ∈ l.map (·.1) → ∃ c, l.lookup x = some c
  | [], h => by simp at h
  | (n, a) :: r, h => by
    rw [List.lookup_cons]
    split
    · exact ⟨a, rfl⟩
    · rename_i q
      have q' : x ≠ n := by simpa using q
      refine lookup_has ?_
      rw [List.map_cons, List.mem_cons] at h
      exact h.resolve_left q'
theorem lookup_mem {α : Type} {x : Str} {k : α} : ∀ {l : List (Str × α)}, l.lookup x = some k → (x, k) ∈ l
  | [], h => by simp at h
  | (n, a) :: r, h => by
    rw [List.lookup_cons] at h
    split at h
    · rename_i q
      have q' : x = n := by simpa using q
      cases h
      rw [q']
      exact List.mem_cons_self
    · exact List.mem_cons_of_mem _ (lookup_mem h)
theorem cl_lookup {names : List (Str × NameKind)} {cells : List (Str × Addr)} {x : Str} {c : Addr} (hf : ∀ y ∈ names, y.2 = .free → ∃ c, cells.lookup y.1 = some c) (h : (clOf names cells).lookup x = some c) : cells.lookup x = some c := by
  have hm := lookup_mem h
  unfold clOf at hm
  rw [List.mem_reverse, List.mem_map] at hm
  obtain ⟨y, hy, e⟩ := hm
  rw [List.mem_filter] at hy
  obtain ⟨c', hc'⟩ := hf y hy.1 (by simpa using hy.2)
  have e1 : y.1 = x := congrArg Prod.fst e
  have e2 : (cells.lookup y.1).getD 0 = c := congrArg Prod.snd e
  rw [hc'] at e2
  rw [← e1, hc']
  exact congrArg some e2
theorem cl_has {names : List (Str × NameKind)} {cells : List (Str × Addr)} {x : Str} (h : names.lookup x = some .free) : ∃ c, (clOf names cells).lookup x = some c := by
  refine lookup_has ?_
  unfold clOf
  rw [List.map_reverse, List.mem_reverse, List.map_map, List.mem_map]
  exact ⟨(x, .free), List.mem_filter.mpr ⟨lookup_mem h, rfl⟩, rfl⟩
theorem rel_aux {c : NameKind → Str → Bool} {x : Str} : ∀ l : List (Str × NameKind), (l.map fun (y : Str × NameKind) => if c y.2 y.1 = true then (y.1, NameKind.cell) else (y.1, y.2)).lookup x = (l.lookup x).map fun k => if c k x = true then .cell else k
  | [] => rfl
  | (n, k) :: r => by
    have ih := rel_aux (c := c) (x := x) r
    rw [List.map_cons]
    have e : (if c k n = true then (n, NameKind.cell) else (n, k)) = (n, if c k n = true then .cell else k) := by split <;> rfl
    show List.lookup x ((if c k n = true then (n, NameKind.cell) else (n, k)) :: _) = _
    rw [e, List.lookup_cons, List.lookup_cons]
    by_cases hx : x = n
    · subst hx; simp
    · have hb : (x == n) = false := by simpa using hx
      rw [hb]
      exact ih
theorem rel_lookup {sc osc : Scope} {x : Str} : (relS sc osc).lookup x = (sc.names.lookup x).map fun k => if (k == .free && osc.kind == .function && osc.names.lookup x == some .cell) = true then .cell else k :=
  rel_aux (c := fun k n => k == .free && osc.kind == .function && osc.names.lookup n == some .cell) sc.names
end Mw
set_option Elab.async false
set_option linter.all false
set_option maxRecDepth 100000
/-! MIRROR, part G: a list comprehension of one clause: its block runs. -/
namespace Mw
open PySem PySem.Spec PyProof.Rows L2

/-- the context of the block: its own names first, then the def's (those that it hides under another name) -/
def compCx (X : Cx) (sc : Scope) (N' : List Str) (C : Addr) (s : Shared) (H : Hp) (ex : List Addr) (pn : List (Addr × Obj)) : Cx where
  prog := X.prog
  w := X.w
  K := X.K
  mg := X.mg
  base := X.base
  A := X.A
  N := N'
  s₀ := s
  H₀ := H
  env := compEnvC sc (clOf sc.names X.env.cells) C X.env
  outer := X.stack
  stack := X.stack
  ex := ex
  fn := fun _ => false
  calm := X.calm
  pn := pn
  xe := fun _ _ => False

section
variable {X : Cx} {pins : List (Addr × Obj)} {σ : L2.St} {H : Hp} {s : Shared} {sc : Scope} {own N' : List Str} {ex : List Addr}
theorem frees_cells (I : Inv X pins σ H s) (CO : CompOk X.env.scope sc own X.N N') : ∀ y ∈ sc.names, y.2 = .free → ∃ c, X.env.cells.lookup y.1 = some c := fun y hy e =>
  I.ok.has y.1 (CO.frees y hy e)
theorem comp_inv {h' : Heap} {tk : Nat} (I : Inv X pins σ H s) (CO : CompOk X.env.scope sc own X.N N') (hex : ∀ b ∈ ex, FpOk X pins H b) (hexo : ∀ b ∈ ex, ∃ o, s.heap.get? b = some o)
    (hns : h'.Ns s.heap.objs.size (fun _ => none)) (kp : ∀ b o, s.heap.get? b = some o → h'.get? b = some o) :
    Inv (compCx X sc N' s.heap.objs.size s H ex (X.pn ++ pins)) [] (List.replicate own.length none ++ σ) H { s with heap := h', toks := tk } := by
  have fc := frees_cells I CO
  have ne : ∀ b o, s.heap.get? b = some o → b ≠ s.heap.objs.size := fun b o e z => by
    have := Heap.lt_size e
    rw [z] at this
    exact Nat.lt_irrefl _ this
  have rl : (compCx X sc N' s.heap.objs.size s H ex (X.pn ++ pins)).env.scope.names = relS sc X.env.scope := rfl
  have st := I.stkSub
  have ok : (compCx X sc N' s.heap.objs.size s H ex (X.pn ++ pins)).Ok := {
    mod := I.mod
    kind := CO.kind
    glob := I.ok.glob
    blt := I.ok.blt
    above := Nat.le_refl _
    inj := fun x y c h1 h2 => I.ok.inj x y c (cl_lookup fc h1) (cl_lookup fc h2)
    has := ?has
    cab := fun x c z => absurd z Bool.false_ne_true
    hd := I.ok.hd
    frames := I.ok.frames
    stk := .inl rfl
    exf := fun b hb => ⟨?exf, fun x c e => (hex b hb).2.2.2.2.1 x c (cl_lookup fc e)⟩
    bs := I.bs
    bsz := Nat.le_trans I.ok.bsz I.sz
    noex := ?noex
    exfs := ?exfs
    funs := I.stack
    frf := I.stkFree }
  case has =>
    intro x h
    have h' : (relS sc X.env.scope).lookup x = some .cell ∨ (relS sc X.env.scope).lookup x = some .free := h
    rw [rel_lookup] at h'
    refine cl_has ?_
    cases q : sc.names.lookup x with
    | none => rw [q] at h'; rcases h' with z | z <;> cases z
    | some k =>
      rw [q] at h'
      have hk := lookup_mem q
      cases k with
      | free => rfl
      | cell => exact absurd rfl (CO.nocell _ hk)
      | _ => rcases h' with z | z <;> cases z
  case exf =>
    obtain ⟨o, e⟩ := hexo b hb
    exact ne b o e
  case noex =>
    intro b o e hb
    rcases (hex b hb).2.2.2.1 with z | z
    · exact I.ok.noex b o e z
    · have := Heap.lt_size e
      exact Nat.lt_irrefl _ (Nat.lt_of_lt_of_le (Nat.lt_of_lt_of_le this I.ok.bsz) z)
  case exfs =>
    intro b hb z
    rcases List.mem_cons.mp (st b z) with q | q
    · exact (hex b hb).2.1 q
    · exact (hex b hb).2.2.1 q
  refine { ok := ok, os := rfl, bare := I.bare, base := Un.kept kp, loc := ⟨_, hns, fun i x v hN hσ hv => ?_⟩, cell := fun x c e => ?_, free := I.hok.fresh (Nat.le_refl _), freeC := fun x c e => I.freeC x c (cl_lookup fc e), pin := fun p hp => ?_, hok := I.hok.kept kp, len := ?_ }
  · have hN' : N'[i]? = some x := hN
    have hlen := CO.len
    by_cases hi : i < own.length
    · rw [List.getElem?_append_left (by simpa using hi), List.getElem?_replicate] at hσ
      split at hσ <;> cases hσ
    · obtain ⟨j, rfl⟩ : ∃ j, i = own.length + j := ⟨i - own.length, by omega⟩
      rw [List.getElem?_append_right (by simp), List.length_replicate] at hσ
      have hj : own.length + j - own.length = j := by omega
      rw [hj] at hσ
      have hv' : visB (relS sc X.env.scope) x = true := by
        unfold visB
        have hv2 : (relS sc X.env.scope).lookup x = some .local ∨ (relS sc X.env.scope).lookup x = some .cell ∨ (relS sc X.env.scope).lookup x = some .free := hv
        rcases hv2 with z | z | z <;> rw [z]
      obtain ⟨hx, hf⟩ := CO.vis j x hN' hv'
      have hof := CO.frees _ (lookup_mem hf) rfl
      obtain ⟨m, nsm, look⟩ := I.loc
      obtain ⟨u, ru, lk⟩ := look j x v hx hσ (hof.elim (fun z => .inr (.inl z)) fun z => .inr (.inr z))
      refine ⟨u, ru, .inr ⟨?_, ?_⟩⟩
      · show (relS sc X.env.scope).lookup x = some .cell ∨ (relS sc X.env.scope).lookup x = some .free
        rw [rel_lookup, hf, Option.map_some]
        by_cases hc : (NameKind.free == NameKind.free && X.env.scope.kind == .function && X.env.scope.names.lookup x == some .cell) = true
        · rw [if_pos hc]; exact .inl rfl
        · rw [if_neg hc]; exact .inr rfl
      · obtain ⟨c, hc⟩ := cl_has (cells := X.env.cells) hf
        refine ⟨c, hc, ?_⟩
        have hc' := cl_lookup fc hc
        rcases lk with ⟨z, _⟩ | ⟨_, c2, e2, o2, e3, e4⟩
        · rcases hof with y | y
          · have z' : X.env.scope.names.lookup x = some .local := z
            rw [y] at z'; cases z'
          · have z' : X.env.scope.names.lookup x = some .local := z
            rw [y] at z'; cases z'
        · rw [hc'] at e2; cases e2
          exact ⟨o2, kp _ _ e3, e4⟩
  · obtain ⟨v, o, e1, e2⟩ := I.cell x c (cl_lookup fc e)
    exact ⟨v, o, kp _ _ e1, e2⟩
  · rw [List.append_nil] at hp
    obtain ⟨p1, p2, p3, p4, p5⟩ := I.pin p hp
    refine ⟨kp _ _ p1, p2, ne _ _ p1, fun z => ?_, p5⟩
    rcases List.mem_cons.mp (st p.1 z) with q | q
    · exact p3 q
    · exact p4 q
  · show (List.replicate own.length none ++ σ).length = N'.length
    rw [List.length_append, List.length_replicate, CO.len, I.len]
/-- behind the block -/
theorem comp_back {H' : Hp} {σc : L2.St} {s' : Shared} {h'' : Heap} (I : Inv X pins σ H s) (hex : ∀ b ∈ ex, FpOk X pins H b) (J : Inv (compCx X sc N' s.heap.objs.size s H ex (X.pn ++ pins)) [] σc H' s') (hs : Heap.SameBut s.heap.objs.size s'.heap h'') :
    Inv X pins σ H' { s' with heap := h'' } := by
  have hC : H' s.heap.objs.size = none := J.free
  have k : ∀ b o, b ≠ s.heap.objs.size → s'.heap.get? b = some o → h''.get? b = some o := fun b o n e => hs.extBut b o n e
  have u : Un (frs X.stack) ex H H' s.heap s'.heap := J.base
  have ne : ∀ b o, s.heap.get? b = some o → b ≠ s.heap.objs.size := fun b o e z => by
    have := Heap.lt_size e
    rw [z] at this
    exact Nat.lt_irrefl _ this
  have u' : Un (frs X.stack) ex H H' s.heap h'' := by
    refine ⟨fun b o q n hb hx => k b o (ne b o q) (u.keep b o q n hb hx), fun b o q n hb hx => ?_, u.free, fun b o q hx => ?_, u.tups, u.frzs, u.tbls⟩
    · obtain ⟨sl, e⟩ := u.slot b o q n hb hx
      exact ⟨sl, k b _ (ne b o q) e⟩
    · obtain ⟨o', e⟩ := u.there b o q hx
      exact ⟨o', k b _ (ne b o q) e⟩
  refine I.call' (ch := ex) J.os u' (fun a o e => ?_) J.bare fun b hb => ⟨(hex b hb).2.2.2.1, (hex b hb).2.1, (hex b hb).2.2.2.2.1, (hex b hb).2.2.2.2.2⟩
  exact (J.hok a o e).stay (fun b o' hb q => k b o' (by
    rintro rfl
    rcases hb with z | z
    · rw [← z, hC] at e; cases e
    · rw [hC] at z; cases z) q) (fun _ q => q) fun _ _ q => q
end

/-! ### the tests of a clause -/
def PIf (X : Cx) (ifs : List Expr) (t : TT) : Prop :=
  ∀ (pins : List (Addr × Obj)) (s : Shared) (σ : L2.St) (H : Hp) (Q : Bool → Hp → Prop), Inv X pins σ H s → t σ H Q →
    wpAny (model X.prog X.w) X.A (forIn ifs true fun c r => if r = true then do let ok ← isTrue c X.env (eval c X.env); pure (ForInStep.yield ok) else pure (ForInStep.yield r)) (TP X pins σ Q) X.xe s
theorem pif_nil {X : Cx} : PIf X [] (fun _ H Q => Q true H) := fun pins s σ H Q I q => wpAny_tests_nil ⟨H, I, q⟩
theorem pif_one {X : Cx} {c : Expr} {t : TT} (h : PT X c t) : PIf X [c] t := fun pins s σ H Q I q => wpAny_tests_one (h pins s σ H Q I q)

section
variable {prog : Program} {w : World} {A : Around} {E : Value → Shared → Prop} {R : Result → Shared → Prop} {s : Shared}
theorem compLoop_gen {elt target iter : Expr} {ifs : List Expr} {scope : Scope} {pos : Pos} {it acc : Value} {env : Env} (I : Nat → Shared → Prop)
    (turn : ∀ n s, I n s → wpAny (model prog w) A (pyNext it) (fun r s₁ => match r with
      | none => R (.ok .next) s₁
      | some v => wpAny (model prog w) A (letOwnedTupleGo target it v) (fun _ s₁' => wpAny (model prog w) A (assign target env v) (fun _ s₂ =>
          wpAny (model prog w) A (forIn ifs true fun c r => if r = true then do let ok ← isTrue c env (eval c env); pure (ForInStep.yield ok) else pure (ForInStep.yield r)) (fun ok s₃ =>
            if ok = true then wpAny (model prog w) A (eval elt env) (fun x s₄ =>
              wpAny (model prog w) A (call (.builtin "list.append") [acc, x]) (fun _ s₅ => ∃ m, m < n ∧ I m s₅) (fun _ _ => False) s₄) (fun _ _ => False) s₃
            else ∃ m, m < n ∧ I m s₃) (fun _ _ => False) s₂) (fun _ _ => False) s₁') (fun _ _ => False) s₁) (fun _ _ => False) s)
    (n : Nat) (h : I n s) : codeAny (model prog w) A (.compLoop (.ListComp elt [⟨target, iter, ifs, 0⟩] scope pos) 0 it acc env) R s := by
  refine codeAny_loop rfl I (fun n s hI => ?_) n h
  show wpAny _ A ((compTurn (.ListComp elt [⟨target, iter, ifs, 0⟩] scope pos) 0 it acc env).onRaise (fun x => do noteFrame x env; theTreesLotGoes x)) _ _ s
  refine wpAny_noted ?_
  rw [compTurn_list]
  refine wpAny_noRaise ?_
  refine wpAny_bind (wpAny_standAt (wpAny_bind (wpAny_mono (turn n s hI) (fun r s₁ h₁ => ?_) fun _ _ h' => h')))
  cases r with
  | none => exact wpAny_pure h₁
  | some v =>
    refine wpAny_bind (wpAny_mono h₁ (fun _ s₁' h₁' => ?_) fun _ _ h' => h')
    refine wpAny_bind (wpAny_mono h₁' (fun _ s₂ h₂ => wpAny_bind (wpAny_mono h₂ (fun ok s₃ h₃ => ?_) fun _ _ h' => h')) fun _ _ h' => h')
    cases ok with
    | false => exact wpAny_pure ⟨rfl, h₃⟩
    | true =>
      exact wpAny_bind (wpAny_bind (wpAny_mono h₃ (fun x s₄ h₄ => wpAny_bind (wpAny_mono h₄ (fun _ s₅ h₅ => wpAny_pure (wpAny_pure ⟨rfl, h₅⟩)) fun _ _ h' => h')) fun _ _ h' => h'))
end

/-- the block's reading. n: how many names it has of its own; p: the list that is made -/
def tComp (n : Nat) (wi : TI) (g : TG) (tt : TT) (te : TE) : TE := fun σ H Q => wi σ H fun J H1 => ∀ p, H1 p = none → ∃ W : Nat → Nat → L2.St → Hp → Prop, (∃ m, W 0 m (List.replicate n none ++ σ) (upd H1 p (.lst []))) ∧
  ∀ i m σ' H', W i m σ' H' → (J.stop i H' ∧ Q (.ref p) H') ∨ (J.go i H' ∧ ∀ x H2, J.yld i H' x H2 → g x σ' H2 fun σ2 H3 => tt σ2 H3 fun b H4 =>
    if b = true then te σ2 H4 fun y H5 => ∃ acc, H5 p = some (.lst acc) ∧ acc.length < sizeLine ∧ ∃ m', m' < m ∧ W (i + 1) m' σ2 (upd H5 p (.lst (acc ++ [y]))) else ∃ m', m' < m ∧ W (i + 1) m' σ2 H4)

section
variable {X : Cx} {elt tg iter : Expr} {ifs : List Expr} {sc : Scope} {pos : Pos} {own N' : List Str} {wi : TI} {g : TG} {tt : TT} {te : TE}
/-- the list, the block's frame, the loop -/
theorem comp_core {pins : List (Addr × Obj)} {σ : L2.St} {H : Hp} {s : Shared} {J : It} {fp : List Addr} {it : Addr} {tn : Nat → Heap → Prop} {Q : VK} {E : Value → Shared → Prop} {RR : Value → Addr → Result → Shared → Prop}
    (hc : X.calm = true) (I : Inv X pins σ H s) (CO : CompOk X.env.scope sc own X.N N') (T : Turn X.prog X.w X.K tg J fp it tn) (t0 : tn 0 s.heap) (hfp : ∀ b ∈ fp, FpOk X pins H b)
    (hg : ∀ C s H ex pn, PG (compCx X sc N' C s H ex pn) tg g) (ht : ∀ C s H ex pn, PIf (compCx X sc N' C s H ex pn) ifs tt) (he : ∀ C s H ex pn, PE (compCx X sc N' C s H ex pn) elt te)
    (q : ∀ p, H p = none → ∃ W : Nat → Nat → L2.St → Hp → Prop, (∃ m, W 0 m (List.replicate own.length none ++ σ) (upd H p (.lst []))) ∧
      ∀ i m σ' H', W i m σ' H' → (J.stop i H' ∧ Q (.ref p) H') ∨ (J.go i H' ∧ ∀ x H2, J.yld i H' x H2 → g x σ' H2 fun σ2 H3 => tt σ2 H3 fun b H4 =>
        if b = true then te σ2 H4 fun y H5 => ∃ acc, H5 p = some (.lst acc) ∧ acc.length < sizeLine ∧ ∃ m', m' < m ∧ W (i + 1) m' σ2 (upd H5 p (.lst (acc ++ [y]))) else ∃ m', m' < m ∧ W (i + 1) m' σ2 H4))
    (hR : ∀ p s3 σc H' s', Inv X pins σ (upd H p (.lst [])) s3 → (∀ b ∈ fp, FpOk X pins (upd H p (.lst [])) b) → Inv (compCx X sc N' s3.heap.objs.size s3 (upd H p (.lst [])) fp (X.pn ++ pins)) [] σc H' s' → Q (.ref p) H' → RR (.ref p) s3.heap.objs.size (.ok .next) s') :
    wpAny (model X.prog X.w) X.A (newList []) (fun acc s₃ => wpAny (model X.prog X.w) X.A (newFunctionEnv sc X.env.globals (clOf sc.names X.env.cells) [] X.env.qual none .none (some X.env)) (fun cenv s₄ =>
      codeAny (model X.prog X.w) X.A (.compStart (.ListComp elt [⟨tg, iter, ifs, 0⟩] sc pos) 0 (.ref it) acc { cenv with scope := relabel sc X.env }) (RR acc cenv.locals) s₄) E s₃) E s := by
  have hp0 : H s.heap.objs.size = none := I.hok.fresh (Nat.le_refl _)
  have I3 : Inv X pins σ (upd H s.heap.objs.size (.lst [])) { s with heap := s.heap.push { cls := .type "list", dict := none, data := .seq ([] : List Value).toArray } } := I.lnew (t' := s.toks) .nil (Nat.zero_le _)
  have hfo : ∀ b ∈ fp, ∃ o, s.heap.get? b = some o := fun b hb => by
    obtain ⟨o, e, _⟩ := T.obj 0 _ t0 b hb
    exact ⟨o, e⟩
  have hne : ∀ b ∈ fp, b ≠ s.heap.objs.size := fun b hb z => by
    obtain ⟨o, e⟩ := hfo b hb
    have := Heap.lt_size e
    rw [z] at this
    exact Nat.lt_irrefl _ this
  have hfp3 : ∀ b ∈ fp, FpOk X pins (upd H s.heap.objs.size (.lst [])) b := fun b hb => ⟨by rw [upd_ne (hne b hb)]; exact (hfp b hb).1, (hfp b hb).2⟩
  obtain ⟨W, ⟨m0, w0⟩, turn⟩ := q _ hp0
  refine wpAny_newObj_type (wpAny_newFunctionEnv CO.nocell (by intro y hy; simp at hy) (fun h₁ hns₁ hsb₁ => ?_) CO.kind)
  generalize hs3 : ({ s with heap := s.heap.push { cls := .type "list", dict := none, data := .seq ([] : List Value).toArray } } : Shared) = s3 at I3 hns₁ hsb₁ ⊢
  have kp : ∀ b o, s3.heap.get? b = some o → h₁.get? b = some o := fun b o e => hsb₁.extBut b o (fun z => by
    have := Heap.lt_size e
    rw [z] at this
    exact Nat.lt_irrefl _ this) (Heap.get?_push_of_some _ e)
  have kp0 : ∀ b o, s.heap.get? b = some o → s3.heap.get? b = some o := fun b o e => by rw [← hs3]; exact Heap.get?_push_of_some _ e
  have ns : h₁.Ns s3.heap.objs.size (fun _ => none) := hns₁
  have J0 := comp_inv (ex := fp) (tk := s3.toks + ([] : List (Str × Value)).length) I3 CO hfp3 (fun b hb => by obtain ⟨o, e⟩ := hfo b hb; exact ⟨o, kp0 b o e⟩) ns kp
  have t1 : tn 0 h₁ := T.keep 0 _ _ t0 fun b hb o e => kp b o (kp0 b o e)
  have fpc : ∀ {H' : Hp} (b), b ∈ fp → H' b = none → FpOk (compCx X sc N' s3.heap.objs.size s3 (upd H s.heap.objs.size (.lst [])) fp (X.pn ++ pins)) [] H' b := fun {H'} b hb hn => by
    obtain ⟨_, h2, h3, h4, h5, h6⟩ := hfp3 b hb
    obtain ⟨o, e⟩ := hfo b hb
    refine ⟨hn, fun z => ?_, fun z => ?_, .inl hb, fun x c e => h5 x c (cl_lookup (frees_cells I3 CO) e), fun p hp => h6 p (by have hp' : p ∈ (X.pn ++ pins) ++ [] := hp; simpa using hp')⟩
    · have := Heap.lt_size (kp0 b o e)
      have z' : b = s3.heap.objs.size := z
      rw [z'] at this
      exact Nat.lt_irrefl _ this
    · rcases List.mem_cons.mp (I3.stkSub b z) with y | y
      · exact h2 y
      · exact h3 y
  have loop : codeAny (model X.prog X.w) X.A (.compLoop (.ListComp elt [⟨tg, iter, ifs, 0⟩] sc pos) 0 (.ref it) (.ref s.heap.objs.size) (compEnvC sc (clOf sc.names X.env.cells) s3.heap.objs.size X.env)) (RR (.ref s.heap.objs.size) s3.heap.objs.size)
      { s3 with heap := h₁, toks := s3.toks + ([] : List (Str × Value)).length } := by
    refine compLoop_gen (fun n s' => ∃ i σ' H', Inv (compCx X sc N' s3.heap.objs.size s3 (upd H s.heap.objs.size (.lst [])) fp (X.pn ++ pins)) [] σ' H' s' ∧ tn i s'.heap ∧ (∀ b ∈ fp, H' b = none) ∧ W i n σ' H') ?_ m0
      ⟨0, _, _, J0, t1, fun b hb => (hfp3 b hb).1, w0⟩
    rintro n s5 ⟨i, σ5, H5, I5, st5, fr5, w5⟩
    rcases turn i n σ5 H5 w5 with ⟨stop, qn⟩ | ⟨go, step⟩
    · refine thn (T.done (compCx X sc N' s3.heap.objs.size s3 (upd H s.heap.objs.size (.lst [])) fp (X.pn ++ pins)) rfl rfl rfl hc i [] s5 σ5 H5 (fun _ _ => False) I5 (fun b hb => fpc b hb (fr5 b hb)) st5 stop) fun r s6 ⟨hr, I6⟩ => ?_
      subst hr
      exact hR _ s3 σ5 H5 s6 I3 hfp3 I6 qn
    · refine thn (T.item (compCx X sc N' s3.heap.objs.size s3 (upd H s.heap.objs.size (.lst [])) fp (X.pn ++ pins)) rfl rfl rfl hc i [] s5 σ5 H5 (fun _ _ => False) I5 (fun b hb => fpc b hb (fr5 b hb)) st5 go) fun r s6 ⟨u, hr, h6⟩ => ?_
      subst hr
      refine thn h6 fun _ s7 ⟨x, H7, I7, r7, y7, st7, fr7⟩ => ?_
      have I7' := I7.pinned (fun b hb => fpc b hb (fr7 b hb)) (T.obj _ _ st7)
      refine thn (hg _ _ _ _ _ _ s7 σ5 H7 x u _ I7' r7 (step x H7 y7)) fun _ s8 ⟨σ8, H8, I8, q8⟩ => ?_
      refine thn (ht _ _ _ _ _ _ s8 σ8 H8 _ I8 q8) fun b s9 ⟨H9, I9, q9⟩ => ?_
      have again : ∀ {σ7' : L2.St} {H7' : Hp} {s7' : Shared} {m' : Nat}, Inv (compCx X sc N' s3.heap.objs.size s3 (upd H s.heap.objs.size (.lst [])) fp (X.pn ++ pins)) ([] ++ pinsAt fp s7.heap) σ7' H7' s7' → m' < n → W (i + 1) m' σ7' H7' →
          ∃ m, m < n ∧ ∃ i σ' H', Inv (compCx X sc N' s3.heap.objs.size s3 (upd H s.heap.objs.size (.lst [])) fp (X.pn ++ pins)) [] σ' H' s7' ∧ tn i s7'.heap ∧ (∀ b ∈ fp, H' b = none) ∧ W i m σ' H' := fun {σ7' H7' s7' m'} I' hm w' => by
        refine ⟨m', hm, i + 1, σ7', H7', I'.unpinned, T.keep _ _ _ st7 fun b hb o e => (I'.pin (b, o) (List.mem_append_right _ (List.mem_append_right _ (mem_pinsAt hb e)))).1, fun b hb => ?_, w'⟩
        obtain ⟨o, e, d⟩ := T.obj _ _ st7 b hb
        exact (I'.pin (b, o) (List.mem_append_right _ (List.mem_append_right _ (mem_pinsAt hb e)))).2.1
      cases b with
      | false =>
        rw [if_neg Bool.false_ne_true] at q9 ⊢
        obtain ⟨m', hm, w'⟩ := q9
        exact again I9 hm w'
      | true =>
        rw [if_pos rfl] at q9 ⊢
        refine thn (he _ _ _ _ _ _ s9 σ8 H9 _ I9 q9) fun y s10 ⟨yv, H10, I10, r10, acc, ha, hl, m', hm, w'⟩ => ?_
        refine thn (mt_append (X := compCx X sc N' s3.heap.objs.size s3 (upd H s.heap.objs.size (.lst [])) fp (X.pn ++ pins)) _ s10 σ8 H10 (.ref s.heap.objs.size) [yv] (.ref s.heap.objs.size) [y] (fun _ H' => H' = upd H10 s.heap.objs.size (.lst (acc ++ [yv]))) I10 rfl (.cons r10 .nil)
          ⟨_, acc, yv, rfl, rfl, ha, hl, rfl⟩) fun _ s11 ⟨_, H11, I11, _, e11⟩ => ?_
        subst e11
        exact again I11 hm w'
  exact codeAny_compStart_list loop (T.self _ 0 _ _ _ t1 loop)
end
end Mw
set_option Elab.async false
set_option linter.all false
set_option maxRecDepth 100000
/-! MIRROR, part H: a list comprehension, by data. -/
namespace Mw
open PySem PySem.Spec PyProof.Rows L2

section
variable {X : Cx} {elt tg iter : Expr} {ifs : List Expr} {sc : Scope} {pos : Pos} {own N' : List Str}
section
variable {wi : TI} {g : TG} {tt : TT} {te : TE}
theorem pe_comp (hc : X.calm = true) (CO : CompOk X.env.scope sc own X.N N') (hi : PI X tg iter wi) (hg : ∀ C s H ex pn, PG (compCx X sc N' C s H ex pn) tg g) (ht : ∀ C s H ex pn, PIf (compCx X sc N' C s H ex pn) ifs tt) (he : ∀ C s H ex pn, PE (compCx X sc N' C s H ex pn) elt te)
    (hs : ∀ x, foldedSetIterable iter X.env x = pure x := by intro _; rfl) : PE X (.ListComp elt [⟨tg, iter, ifs, 0⟩] sc pos) (tComp own.length wi g tt te) := by
  intro pins s σ H Q I h
  rw [eval_ListComp]
  refine wpAny_comprehension_free (use := none) rfl hs (closure_ok (frees_cells I CO)) CO.kind CO.locs ?_
  refine thn (hi pins s σ H _ I h) fun v s1 h1 => thn h1 fun itv s2 h2 => ?_
  obtain ⟨it, fp, tn, J, H2, e, I2, T, st2, f2, q⟩ := h2
  subst e
  refine comp_core (RR := fun acc C => compPost (model X.prog X.w) X.A X.xe none (EP X pins σ Q) acc C) hc I2 CO T st2 f2 hg ht he q ?_
  intro p s3 σc H' s' I3 f3 J' q'
  obtain ⟨m, ns, _⟩ := J'.loc
  exact ⟨m, ns, fun h'' hs'' => ⟨.ref p, H', comp_back I3 f3 J' hs'', rfl, q'⟩⟩
/-- name = [..]: the name is stored ahead of the block's names' end -/
theorem ps_setComp {i : Nat} {y : Str} {py spos : Pos} (hc : X.calm = true) (CO : CompOk X.env.scope sc own X.N N') (hi : PI X tg iter wi) (hg : ∀ C s H ex pn, PG (compCx X sc N' C s H ex pn) tg g) (ht : ∀ C s H ex pn, PIf (compCx X sc N' C s H ex pn) ifs tt) (he : ∀ C s H ex pn, PE (compCx X sc N' C s H ex pn) elt te)
    (hN : X.N.Nodup) (hy : X.N[i]? = some y) (hl : X.env.scope.names.lookup y = some .local) (hsw : swapsWith (.ListComp elt [⟨tg, iter, ifs, 0⟩] sc pos) (some (.Name y py)) spos.line X.env = pure true)
    (hs : ∀ x, foldedSetIterable iter X.env x = pure x := by intro _; rfl) : PS X (.Assign [.Name y py] (.ListComp elt [⟨tg, iter, ifs, 0⟩] sc pos) spos) (tAsg (tComp own.length wi g tt te) (gName i)) := by
  intro pins s σ H Z I h
  rw [exec_Assign_Name_used _ _ _ _ hsw]
  refine wpAny_bind (wpAny_standAt (wpAny_bind ?_))
  show wpAny _ X.A (do let _ ← comprehension (.ListComp elt [⟨tg, iter, ifs, 0⟩] sc pos) sc X.env _ (newList []) false (eval iter X.env) (some (assign (.Name y py) X.env))) _ _ s
  refine wpAny_bind (wpAny_mono (wpAny_comprehension_free (use := some (assign (.Name y py) X.env)) (Q := fun _ s' => SP X pins Z .next s') rfl hs (closure_ok (frees_cells I CO)) CO.kind CO.locs ?_) (fun _ s' hq => wpAny_pure (wpAny_pure hq)) fun _ _ e => e)
  refine thn (hi pins s σ H _ I h) fun v s1 h1 => thn h1 fun itv s2 h2 => ?_
  obtain ⟨it, fp, tn, J, H2, e, I2, T, st2, f2, q⟩ := h2
  subst e
  refine comp_core (Q := fun x H1 => gName i x σ H1 Z.nx) (RR := fun acc C => compPost (model X.prog X.w) X.A X.xe (some (assign (.Name y py) X.env)) (fun _ s' => SP X pins Z .next s') acc C) hc I2 CO T st2 f2 hg ht he q ?_
  intro p s3 σc H' s' I3 f3 J' q'
  obtain ⟨m, ns, _⟩ := J'.loc
  have I' : Inv X pins σ H' s' := comp_back I3 f3 J' (Heap.SameBut.refl ..)
  have lt : ∀ b o, s3.heap.get? b = some o → b ≠ s3.heap.objs.size := fun b o e z => by
    have := Heap.lt_size e
    rw [z] at this
    exact Nat.lt_irrefl _ this
  have cne : ∀ x c, X.env.cells.lookup x = some c → c ≠ s3.heap.objs.size := fun x c e => by
    obtain ⟨v, o, e1, _⟩ := I3.cell x c e
    exact lt c o e1
  have lne : X.env.locals ≠ s3.heap.objs.size := Nat.ne_of_lt I3.lt
  show wpAny _ X.A (assign (.Name y py) X.env (.ref p)) _ _ _
  refine wpAny_assign_Name (store_ok2 I' hN hy (.inl hl) (v := .ref p) rfl (fun s'' I'' hh => ?_) (.inr hl))
  obtain ⟨a, sb, ha⟩ := hh
  have hane : s3.heap.objs.size ≠ a := by
    rcases ha with z | z
    · rw [z]; exact Ne.symm lne
    · exact Ne.symm (cne _ _ z)
  refine ⟨m, ns.sameBut sb hane, fun h'' hs'' => ⟨σ.set i (some (.ref p)), H', ?_, q'⟩⟩
  refine I''.turned (it := s3.heap.objs.size) (t' := s''.toks) (fun b o n e => hs''.extBut b o n e) J'.free (Ne.symm lne) (.inr I3.sz) cne fun pp hp => ?_
  obtain ⟨p1, _⟩ := I3.pin pp hp
  exact lt _ _ p1
end

/-! ### by data -/
def PIfd (X : Cx) (ifs : List Expr) (f : MT) : Prop := PIf X ifs (tT X.K f)
def mNoIf : MT := fun M => .ok true M
theorem if_nil : PIfd X [] mNoIf := fun pins s σ H Q I h => by
  obtain ⟨M, O, rel, h⟩ := h
  exact pif_nil pins s σ H Q I (RR.now (A := ⟨σ, M, H, O⟩) rel h)
theorem if_one {c : Expr} {f : MT} (h : PTd X c f) : PIfd X [c] f := pif_one h
def cLoop (g : MG) (tt : MT) (te : ME) : List D → MS → Res (List D)
  | [], M => .ok [] M
  | d :: ds, M => (Res.opt (g d M) M).bind fun M1 _ => (tt M1).bind fun b M2 => if b = true then (te M2).bind fun t M3 => (Res.opt (t.take M3) M3).bind fun p _ => (cLoop g tt te ds p.2).bind fun r M' => .ok (p.1 :: r) M' else cLoop g tt te ds M2
def mComp (n : Nat) (fi : MA) (g : MG) (tt : MT) (te : ME) : ME := fun M => (fi M).bind fun ds M1 => Res.chk (fits ds.length) ((cLoop g tt te ds (List.replicate n none ++ M1)).bind fun r Mc => .ok (.val (.lst r) true) (Mc.drop n))

section
variable {K : PySem.W.Frag} {A B : Sd}
theorem Evo.conv (hH : A.H = B.H) (hO : A.O = B.O) (hS : ∀ a, SO B a → SO A a) : Evo A B :=
  ⟨fun a o h _ => by rw [← hH]; exact h, fun a h => by rw [← hH]; exact h, fun a h => .inl (by rw [hO]; exact h), fun a h _ => by rw [← hO]; exact h, fun a h => .inl (hS a h)⟩
theorem pad_get {α : Type} {n i : Nat} {l : List (Option α)} {e : α} (h : (List.replicate n none ++ l)[i]? = some (some e)) : ∃ j, i = n + j ∧ l[j]? = some (some e) := by
  by_cases hi : i < n
  · rw [List.getElem?_append_left (by simpa using hi), List.getElem?_replicate] at h
    split at h <;> cases h
  · refine ⟨i - n, by omega, ?_⟩
    rw [List.getElem?_append_right (by simpa using hi), List.length_replicate] at h
    exact h
theorem pad_at {α : Type} {n j : Nat} {l : List (Option α)} : (List.replicate n none ++ l)[n + j]? = l[j]? := by
  rw [List.getElem?_append_right (by simp), List.length_replicate]
  congr 1
  omega
theorem pad_so {n : Nat} {σ : L2.St} {M : MS} {H H' : Hp} {O O' : OS} {a : Addr} (h : SO ⟨List.replicate n none ++ σ, List.replicate n none ++ M, H, O⟩ a) : SO ⟨σ, M, H', O'⟩ a := by
  obtain ⟨i, d, h1, h2⟩ := h
  obtain ⟨j, rfl, h3⟩ := pad_get h1
  exact ⟨j, d, h3, by have h2' : (List.replicate n none ++ σ)[n + j]? = _ := h2; rw [pad_at] at h2'; exact h2'⟩
theorem pad_rel {n : Nat} {σ : L2.St} {M : MS} {H : Hp} {O : OS} (r : RelM K ⟨σ, M, H, O⟩) : RelM K ⟨List.replicate n none ++ σ, List.replicate n none ++ M, H, O⟩ := by
  refine ⟨?_, fun i d q => ?_, fun i d q => ?_, fun i j d e a q1 q2 q3 q4 => ?_, r.sub⟩
  · have := r.len
    show (List.replicate n none ++ M).length = (List.replicate n none ++ σ).length
    rw [List.length_append, List.length_append, List.length_replicate, List.length_replicate]
    exact congrArg (n + ·) this
  · obtain ⟨j, rfl, h⟩ := pad_get q
    obtain ⟨v, h1, h2⟩ := r.shr j d h
    exact ⟨v, by show (List.replicate n none ++ σ)[n + j]? = _; rw [pad_at]; exact h1, h2⟩
  · obtain ⟨j, rfl, h⟩ := pad_get q
    obtain ⟨a, xs, ds, h0, h1, h2⟩ := r.own j d h
    exact ⟨a, xs, ds, h0, by show (List.replicate n none ++ σ)[n + j]? = _; rw [pad_at]; exact h1, h2⟩
  · obtain ⟨i', rfl, h1⟩ := pad_get q1
    obtain ⟨j', rfl, h2⟩ := pad_get q2
    have q3' : (List.replicate n none ++ σ)[n + i']? = _ := q3
    have q4' : (List.replicate n none ++ σ)[n + j']? = _ := q4
    rw [pad_at] at q3' q4'
    rw [r.inj i' j' d e a h1 h2 q3' q4']
theorem drop_so {n : Nat} {σ' : L2.St} {M : MS} {H H' : Hp} {O O' : OS} {a : Addr} (h : SO ⟨σ'.drop n, M.drop n, H, O⟩ a) : SO ⟨σ', M, H', O'⟩ a := by
  obtain ⟨i, d, h1, h2⟩ := h
  have h1' : (M.drop n)[i]? = _ := h1
  have h2' : (σ'.drop n)[i]? = _ := h2
  rw [List.getElem?_drop] at h1' h2'
  exact ⟨n + i, d, h1', h2'⟩
theorem drop_rel {n : Nat} {σ' : L2.St} {M : MS} {H : Hp} {O : OS} (r : RelM K ⟨σ', M, H, O⟩) : RelM K ⟨σ'.drop n, M.drop n, H, O⟩ := by
  refine ⟨?_, fun i d q => ?_, fun i d q => ?_, fun i j d e a q1 q2 q3 q4 => ?_, r.sub⟩
  · show (M.drop n).length = (σ'.drop n).length
    rw [List.length_drop, List.length_drop]
    exact congrArg (· - n) r.len
  · have q' : (M.drop n)[i]? = _ := q
    rw [List.getElem?_drop] at q'
    obtain ⟨v, h1, h2⟩ := r.shr (n + i) d q'
    exact ⟨v, by show (σ'.drop n)[i]? = _; rw [List.getElem?_drop]; exact h1, h2⟩
  · have q' : (M.drop n)[i]? = _ := q
    rw [List.getElem?_drop] at q'
    obtain ⟨a, xs, ds, h0, h1, h2⟩ := r.own (n + i) d q'
    exact ⟨a, xs, ds, h0, by show (σ'.drop n)[i]? = _; rw [List.getElem?_drop]; exact h1, h2⟩
  · have q1' : (M.drop n)[i]? = _ := q1
    have q2' : (M.drop n)[j]? = _ := q2
    have q3' : (σ'.drop n)[i]? = _ := q3
    have q4' : (σ'.drop n)[j]? = _ := q4
    rw [List.getElem?_drop] at q1' q2' q3' q4'
    have := r.inj (n + i) (n + j) d e a q1' q2' q3' q4'
    omega
/-- a list that nobody reaches is rewritten -/
theorem Rep.updP {O : OS} {H : Hp} {p : Addr} {xs ys : List V} (hO : O p) (hp : H p = some (.lst xs)) {d : D} {v : V} (h : Rep K O H d v) : Rep K O (upd H p (.lst ys)) d v := by
  have k : ∀ a o, H a = some o → (∀ xs, o ≠ .lst xs) → upd H p (.lst ys) a = some o := fun a o q n => by
    rw [upd_ne (fun z => by subst z; rw [hp] at q; cases q; exact n xs rfl)]; exact q
  exact Rep.mono (fun a xs => SqT_of k) (fun a zs q n => ⟨by rw [upd_ne (fun z => by subst z; exact n hO)]; exact q, n⟩) (fun a xs => SqF_of k) d v h
theorem Reps.updP {O : OS} {H : Hp} {p : Addr} {xs ys : List V} (hO : O p) (hp : H p = some (.lst xs)) {ds : List D} {vs : List V} (h : Reps K O H ds vs) : Reps K O (upd H p (.lst ys)) ds vs := by
  have k : ∀ a o, H a = some o → (∀ xs, o ≠ .lst xs) → upd H p (.lst ys) a = some o := fun a o q n => by
    rw [upd_ne (fun z => by subst z; rw [hp] at q; cases q; exact n xs rfl)]; exact q
  exact Reps.mono (fun a xs => SqT_of k) (fun a zs q n => ⟨by rw [upd_ne (fun z => by subst z; exact n hO)]; exact q, n⟩) (fun a xs => SqF_of k) ds vs h
theorem RelM.updP {p : Addr} {xs ys : List V} (r : RelM K A) (hO : A.O p) (hS : ¬ SO A p) (hp : A.H p = some (.lst xs)) : RelM K ⟨A.sg, A.M, upd A.H p (.lst ys), A.O⟩ where
  len := r.len
  shr := fun i d q => by
    obtain ⟨v, h1, h2⟩ := r.shr i d q
    exact ⟨v, h1, h2.updP hO hp⟩
  own := fun i d q => by
    obtain ⟨a, zs, ds, h0, h1, h2, h3, h4⟩ := r.own i d q
    exact ⟨a, zs, ds, h0, h1, h2, by show upd A.H p _ a = _; rw [upd_ne (fun z => by subst z; exact hS ⟨i, d, q, h1⟩)]; exact h3, h4.updP hO hp⟩
  inj := r.inj
  sub := fun a h z => by
    have z' : upd A.H p (.lst ys) a = none := z
    by_cases q : a = p
    · subst q; rw [upd_same] at z'; cases z'
    · rw [upd_ne q] at z'; exact r.sub a h z'
end

theorem tE_comp {K : PySem.W.Frag} {n : Nat} {fi : MA} {g : MG} {ts : List Nat} {tt : MT} {te : ME} (hts : ∀ t ∈ ts, t < n) {σ : L2.St} {H : Hp} {Q : VK} (h : tE K (mComp n fi g tt te) σ H Q) :
    tComp n (tI K fi) (tG K g ts) (tT K tt) (tE K te) σ H Q := by
  obtain ⟨M, O, rel, h⟩ := h
  refine ⟨M, O, rel, (RR.bindA h).imp fun ds B es r1 e1 q J wk p hp => ?_⟩
  cases B with | mk σ1 M1 H1 O1 =>
  cases es
  replace hp : H1 p = none := hp
  obtain ⟨z, q⟩ := chk_ok q
  have zl := fits_of z
  -- the states of the block
  refine ⟨fun i m σ' H' => i ≤ ds.length ∧ m = ds.length - i ∧ ∃ M' O' acc xs, RelM K ⟨σ', M', H', O'⟩ ∧ Evo ⟨σ, M1, H1, O1⟩ ⟨σ', M', H', O'⟩ ∧ O' p ∧ ¬ SO ⟨σ', M', H', O'⟩ p ∧ H' p = some (.lst xs) ∧ Reps K O' H' acc xs ∧ acc.length ≤ i ∧
    σ'.drop n = σ ∧ RR K ⟨σ, M, H, O⟩ ((cLoop g tt te (ds.drop i) M').bind fun r Mc => .ok (.val (.lst (acc ++ r)) true) (Mc.drop n)) fun t B => ∀ v, TRel K B v t → Fresh H v t → Q v B.H,
    ⟨ds.length, Nat.zero_le _, rfl, List.replicate n none ++ M1, fun a => O1 a ∨ a = p, [], [], ?_⟩, ?_⟩
  · have gr : Grow ⟨σ, M1, H1, O1⟩ (upd H1 p (.lst [])) (fun a => O1 a ∨ a = p) := Grow.newOwn (A := ⟨σ, M1, H1, O1⟩) hp
    have r2 := gr.rel r1
    refine ⟨pad_rel r2, ?_, .inr rfl, fun so => ?_, upd_same, Reps.nil, Nat.zero_le _, ?_, ?_⟩
    · exact gr.evo.trans (Evo.conv rfl rfl fun a so => pad_so so) r1.sub
    · obtain ⟨zs, e⟩ := r1.so_lst (A := ⟨σ, M1, H1, O1⟩) (pad_so so)
      have e' : H1 p = _ := e
      rw [hp] at e'; cases e'
    · have e : List.drop n (List.replicate n none ++ σ) = σ := by
        rw [List.drop_append_of_le_length (by simp)]
        simp
      exact e
    · exact q
  · rintro i m σ' H' ⟨hi, rfl, M', O', acc, xs, rC, eC, oP, sP, hP, rA, hA, hσ, qC⟩
    obtain ⟨w1, w2⟩ := wk _ rC eC
    by_cases hlt : i < ds.length
    · refine .inr ?_
      have hd : ds.drop i = ds[i] :: ds.drop (i + 1) := List.drop_eq_getElem_cons hlt
      rw [hd] at qC
      obtain ⟨go, yl⟩ := w1 i ds[i] (List.getElem?_eq_getElem hlt)
      refine ⟨go, fun x H2 y => ?_⟩
      obtain ⟨O2, gr, rp⟩ := yl x H2 y
      unfold cLoop at qC
      cases zg : g ds[i] M' with
      | none => rw [zg] at qC; exact qC.elim
      | some Ma =>
        rw [zg, Res.opt_some, Res.bind_ok] at qC
        have rG := gr.rel rC
        refine ⟨ds[i], M', O2, rG, rp, Ma, zg, fun σ2 r2 k2 s2 => ?_⟩
        have e2 : Evo ⟨σ', M', H2, O2⟩ ⟨σ2, Ma, H2, O2⟩ := k2 _ (Evo.refl _)
        have eC2 : Evo ⟨σ', M', H', O'⟩ ⟨σ2, Ma, H2, O2⟩ := gr.evo.trans e2 rC.sub
        have hσ2 : σ2.drop n = σ := by
          rw [← hσ]
          apply List.ext_getElem?
          intro j
          rw [List.getElem?_drop, List.getElem?_drop]
          exact s2 (n + j) fun z => absurd (hts _ z) (by omega)
        have oP2 : O2 p := gr.sup p oP
        have sP2 : ¬ SO ⟨σ2, Ma, H2, O2⟩ p := fun so => (eC2.own p so).elim sP fun q => by have q' : H' p = none := q; rw [hP] at q'; cases q'
        have hP2 : H2 p = some (.lst xs) := gr.keep p _ hP
        have rA2 : Reps K O2 H2 acc xs := Reps.evo rC eC2 rA
        cases zt : tt Ma with
        | exc c Mb => rw [zt] at qC; exact qC.elim
        | bad => rw [zt] at qC; exact qC.elim
        | ok b Mb =>
          rw [zt, Res.bind_ok] at qC
          refine ⟨Ma, O2, r2, ?_⟩
          rw [zt]
          intro H3 O3 r3 e3
          have eC3 := eC2.trans e3 rC.sub
          have oP3 : O3 p := e3.sup p oP2 sP2
          have sP3 : ¬ SO ⟨σ2, Mb, H3, O3⟩ p := fun so => (eC3.own p so).elim sP fun q => by have q' : H' p = none := q; rw [hP] at q'; cases q'
          have hP3 : H3 p = some (.lst xs) := e3.keep p _ hP2 sP2
          have rA3 : Reps K O3 H3 acc xs := Reps.evo r2 e3 rA2
          cases b with
          | false =>
            rw [if_neg Bool.false_ne_true] at qC
            show if false = true then _ else _
            rw [if_neg Bool.false_ne_true]
            exact ⟨ds.length - (i + 1), by omega, hlt, rfl, Mb, O3, acc, xs, r3, eC.trans eC3 r1.sub, oP3, sP3, hP3, rA3, by omega, hσ2, qC⟩
          | true =>
            rw [if_pos rfl] at qC
            show if true = true then _ else _
            rw [if_pos rfl]
            cases ze : te Mb with
            | exc c Mc => rw [ze] at qC; exact qC.elim
            | bad => rw [ze] at qC; exact qC.elim
            | ok t Mc =>
              rw [ze, Res.bind_ok] at qC
              refine ⟨Mb, O3, r3, ?_⟩
              rw [ze]
              intro H4 O4 r4 e4 v tr fr
              cases zk : t.take Mc with
              | none => rw [zk] at qC; exact qC.elim
              | some pr =>
                obtain ⟨d', Md⟩ := pr
                rw [zk, Res.opt_some, Res.bind_ok] at qC
                obtain ⟨O5, r5, e5, rp5⟩ := tr.take r4 zk e4 r3.sub fr
                have eC5 := eC3.trans e5 rC.sub
                have oP5 : O5 p := e5.sup p oP3 sP3
                have sP5 : ¬ SO ⟨σ2, Md, H4, O5⟩ p := fun so => (eC5.own p so).elim sP fun q => by have q' : H' p = none := q; rw [hP] at q'; cases q'
                have hP5 : H4 p = some (.lst xs) := e5.keep p _ hP3 sP3
                have rA5 : Reps K O5 H4 acc xs := Reps.evo r3 e5 rA3
                have r6 : RelM K ⟨σ2, Md, upd H4 p (.lst (xs ++ [v])), O5⟩ := r5.updP oP5 sP5 hP5
                have rA6 : Reps K O5 (upd H4 p (.lst (xs ++ [v]))) (acc ++ [d']) (xs ++ [v]) := (rA5.append (.cons rp5 .nil)).updP oP5 hP5
                have e15 := eC.trans eC5 r1.sub
                have e6 : Evo ⟨σ, M1, H1, O1⟩ ⟨σ2, Md, upd H4 p (.lst (xs ++ [v])), O5⟩ := by
                  refine ⟨fun a o q n => ?_, fun a q => ?_, e15.sub, e15.sup, e15.own⟩
                  · show upd H4 p _ a = _
                    rw [upd_ne (fun z => by subst z; have q' : H1 a = some o := q; rw [hp] at q'; cases q')]
                    exact e15.keep a o q n
                  · show upd H4 p _ a ≠ _
                    rw [upd_ne (fun z => by subst z; exact q hp)]
                    exact e15.there a q
                have hl := rA.length
                refine ⟨xs, hP5, by omega, ds.length - (i + 1), by omega, hlt, rfl, Md, O5, acc ++ [d'], xs ++ [v], r6, e6, oP5, sP5, upd_same, rA6, by rw [List.length_append, List.length_singleton]; omega, hσ2, ?_⟩
                cases zc : cLoop g tt te (ds.drop (i + 1)) Md with
                | exc c Mf => rw [zc] at qC; exact qC.elim
                | bad => rw [zc] at qC; exact qC.elim
                | ok r Mf =>
                  rw [zc] at qC
                  have qC' : RR K ⟨σ, M, H, O⟩ (Res.ok (T.val (.lst (acc ++ d' :: r)) true) (Mf.drop n)) _ := qC
                  rw [Res.bind_ok, List.append_assoc]
                  exact qC'
    · have he : i = ds.length := Nat.le_antisymm hi (Nat.le_of_not_lt hlt)
      subst he
      rw [List.drop_length] at qC
      refine .inl ⟨w2, ?_⟩
      have qC' : RR K ⟨σ, M, H, O⟩ (Res.ok (T.val (.lst (acc ++ [])) true) (M'.drop n)) _ := qC
      rw [List.append_nil] at qC'
      have rE : RelM K ⟨σ, M'.drop n, H', O'⟩ := by rw [← hσ]; exact drop_rel rC
      have so : ∀ a, SO ⟨σ, M'.drop n, H', O'⟩ a → SO ⟨σ', M', H', O'⟩ a := fun a s => by
        rw [← hσ] at s
        exact drop_so s
      have eE : Evo ⟨σ, M1, H1, O1⟩ ⟨σ, M'.drop n, H', O'⟩ := eC.trans (Evo.conv rfl rfl so) r1.sub
      refine qC' H' O' rE (e1.trans eE rel.sub) (.ref p) ⟨p, xs, acc, rfl, rfl, oP, fun s => sP (so p s), hP, rA⟩ fun a e => ?_
      cases e
      exact e1.new hp
/-- [elt for target in iter if ..] -/
theorem d_comp {fi : MA} {g : MG} {ts : List Nat} {tt : MT} {te : ME} (hc : X.calm = true) (CO : CompOk X.env.scope sc own X.N N') (hi : PId X tg iter fi) (hg : ∀ C s H ex pn, PGd (compCx X sc N' C s H ex pn) tg g ts) (ht : ∀ C s H ex pn, PIfd (compCx X sc N' C s H ex pn) ifs tt)
    (he : ∀ C s H ex pn, PEd (compCx X sc N' C s H ex pn) elt te) (hts : ∀ t ∈ ts, t < own.length := by decide) (hs : ∀ x, foldedSetIterable iter X.env x = pure x := by intro _; rfl) : PEd X (.ListComp elt [⟨tg, iter, ifs, 0⟩] sc pos) (mComp own.length fi g tt te) :=
  PE.imp (pe_comp (g := tG X.K g ts) (tt := tT X.K tt) (te := tE X.K te) hc CO hi hg ht he hs) fun σ H Q h => tE_comp hts h
theorem s_setComp (i : Nat) {y : Str} {py spos : Pos} {fi : MA} {g : MG} {ts : List Nat} {tt : MT} {te : ME} (hN : X.N.Nodup) (hc : X.calm = true) (CO : CompOk X.env.scope sc own X.N N') (hi : PId X tg iter fi) (hg : ∀ C s H ex pn, PGd (compCx X sc N' C s H ex pn) tg g ts) (ht : ∀ C s H ex pn, PIfd (compCx X sc N' C s H ex pn) ifs tt)
    (he : ∀ C s H ex pn, PEd (compCx X sc N' C s H ex pn) elt te) (hts : ∀ t ∈ ts, t < own.length := by decide) (hy : X.N[i]? = some y := by rfl) (hl : X.env.scope.names.lookup y = some .local := by rfl)
    (hsw : swapsWith (.ListComp elt [⟨tg, iter, ifs, 0⟩] sc pos) (some (.Name y py)) spos.line X.env = pure true := by rfl) (hs : ∀ x, foldedSetIterable iter X.env x = pure x := by intro _; rfl) :
    PSd X (.Assign [.Name y py] (.ListComp elt [⟨tg, iter, ifs, 0⟩] sc pos) spos) (mSet i (mComp own.length fi g tt te)) := PS.imp (ps_setComp (g := tG X.K g ts) (tt := tT X.K tt) (te := tE X.K te) (i := i) hc CO hi hg ht he hN hy hl hsw hs) fun Z σ H h => by
  obtain ⟨M, O, rel, h⟩ := h
  refine tE_comp hts ⟨M, O, rel, (RS.of h).imp fun t B es r1 e1 q v tr fr => ?_⟩
  cases B with | mk σ1 M1 H1 O1 =>
  cases es
  cases z : put i t M1 with
  | none => rw [z] at q; exact q.elim
  | some M' =>
    rw [z] at q
    obtain ⟨O', r2, e2⟩ := put_ok r1 rel.sub e1 tr fr z
    exact q _ H1 O' r2 e2
end
end Mw
set_option Elab.async false
set_option linter.all false
set_option maxRecDepth 100000
/-! MIRROR, part I: more operations; a def as it stands behind the top. -/
namespace Mw
open PySem PySem.Spec PyProof.Rows L2

section
variable {X : Cx} {e a b : Expr} {es : List Expr} {pos p p2 p3 : Pos}
/-! ### unary minus -/
def GoodU (X : Cx) (r : V → Hp → VK → Prop) (G : G1) : Prop := ∀ (A : Sd) (x : V) (d1 d : D) (o : Bool) (Q : VK), RelM X.K A → RepT X.K A.O A.H d1 x → G d1 = some (d, o) →
    (∀ v H' O', Grow A H' O' → Out X.K A H' O' v d o → Q v H') → r x A.H Q
def UnD (X : Cx) (f : Value → Sem Value) (G : G1) : Prop := ∃ r, UnR X f r ∧ GoodU X r G
def gNeg : G1
  | .int i => some (.int (-i), false)
  | _ => none
theorem o_neg : UnD X (unaryOp .USub) gNeg := ⟨_, un_neg, fun A x d1 d o Q rel q1 e k => by
  unfold gNeg at e
  split at e
  · rename_i i
    cases e
    have z : x = .int i := by simpa only [RepT, Rep] using q1
    exact ⟨i, z, k _ _ _ (Grow.refl A) (Out.same (by simp only [Rep]))⟩
  · cases e⟩
abbrev mUn := mC1
theorem d_un {op : UnaryOp} {G : G1} {f : ME} (ho : UnD X (unaryOp op) G) (ha : PEd X a f) : PEd X (.UnaryOp op a pos) (mUn G f) := by
  obtain ⟨r, h1, hg⟩ := ho
  refine PE.imp (pe_un h1 ha) fun σ H Q h => ?_
  obtain ⟨M, O, rel, h⟩ := h
  refine ⟨M, O, rel, (RR.bind rel h).imp fun t B es r1 e1 q v tr _ => ?_⟩
  obtain ⟨d, ed, q⟩ := opt_ok q
  obtain ⟨⟨d', o⟩, ed', q⟩ := opt_ok q
  exact hg B v d d' o Q r1 (tr.see r1 ed) ed' (out_to (A0 := ⟨σ, M, H, O⟩) r1 e1 q)

/-! ### is True, is False, is None -/
theorem op_isB : OpR X (compareOp .Is) (fun x y H Q => ∃ b, y = .bl b ∧ Q (.bl (decide (x = .bl b))) H) := by
  intro pins s σ H x y v u Q I rx ry h
  obtain ⟨b, rfl, q⟩ := h
  cases ry
  refine wpAny_is_plain ?_ (fin_bl I q ?_)
  · cases x <;> first
      | (cases rx; rfl)
      | (obtain ⟨t, rfl⟩ := rx; rfl)
  · cases x <;> first
      | (cases rx; rename_i c; cases c <;> cases b <;> rfl)
      | (cases rx; rfl)
      | (obtain ⟨t, rfl⟩ := rx; rfl)
theorem op_isNB : OpR X (compareOp .IsNot) (fun x y H Q => ∃ b, y = .bl b ∧ Q (.bl (!decide (x = .bl b))) H) := by
  intro pins s σ H x y v u Q I rx ry h
  obtain ⟨b, rfl, q⟩ := h
  cases ry
  refine wpAny_isNot_plain ?_ (fin_bl I q ?_)
  · cases x <;> first
      | (cases rx; rfl)
      | (obtain ⟨t, rfl⟩ := rx; rfl)
  · cases x <;> first
      | (cases rx; rename_i c; cases c <;> cases b <;> rfl)
      | (cases rx; rfl)
      | (obtain ⟨t, rfl⟩ := rx; rfl)
def isB (d : D) (b : Bool) : Bool := match d with
  | .bl c => c == b
  | _ => false
def isNn (d : D) : Bool := match d with
  | .non => true
  | _ => false
def gIs : G2
  | d, .bl b => some (.bl (isB d b), false)
  | d, .non => some (.bl (isNn d), false)
  | _, _ => none
def gIsN : G2
  | d, .bl b => some (.bl (!isB d b), false)
  | d, .non => some (.bl (!isNn d), false)
  | _, _ => none
theorem isB_of {K : PySem.W.Frag} {O : OS} {H : Hp} {d : D} {x : V} (h : RepT K O H d x) (b : Bool) : decide (x = .bl b) = isB d b := by
  cases d with
  | bl c =>
    have z : x = .bl c := by simpa only [RepT, Rep] using h
    subst z
    cases c <;> cases b <;> rfl
  | non => have z : x = .non := by simpa only [RepT, Rep] using h
           subst z; rfl
  | int i => have z : x = .int i := by simpa only [RepT, Rep] using h
             subst z; rfl
  | str i => have z : x = .str i := by simpa only [RepT, Rep] using h
             subst z; rfl
  | tup ds => simp only [RepT, Rep] at h; obtain ⟨a, xs, rfl, _⟩ := h; rfl
  | lst ds => simp only [RepT] at h; obtain ⟨a, xs, rfl, _⟩ := h; rfl
  | scr ds => simp only [RepT, Rep] at h; obtain ⟨a, xs, rfl, _⟩ := h; rfl
theorem isN_of {K : PySem.W.Frag} {O : OS} {H : Hp} {d : D} {x : V} (h : RepT K O H d x) : decide (x = .non) = isNn d := by
  cases d with
  | bl c => have z : x = .bl c := by simpa only [RepT, Rep] using h
            subst z; rfl
  | non => have z : x = .non := by simpa only [RepT, Rep] using h
           subst z; rfl
  | int i => have z : x = .int i := by simpa only [RepT, Rep] using h
             subst z; rfl
  | str i => have z : x = .str i := by simpa only [RepT, Rep] using h
             subst z; rfl
  | tup ds => simp only [RepT, Rep] at h; obtain ⟨a, xs, rfl, _⟩ := h; rfl
  | lst ds => simp only [RepT] at h; obtain ⟨a, xs, rfl, _⟩ := h; rfl
  | scr ds => simp only [RepT, Rep] at h; obtain ⟨a, xs, rfl, _⟩ := h; rfl
theorem o_is : OpD X (compareOp .Is) gIs := .of (op_isB.or op_isN) fun A x y d1 d2 d o Q rel q1 q2 e k => by
  unfold gIs at e
  split at e
  · rename_i b
    cases e
    have z : y = .bl b := by simpa only [RepT, Rep] using q2
    exact .inl ⟨b, z, by rw [isB_of q1 b]; exact k _ _ _ (Grow.refl A) (Out.same (by simp only [Rep]))⟩
  · cases e
    have z : y = .non := by simpa only [RepT, Rep] using q2
    exact .inr ⟨z, by rw [isN_of q1]; exact k _ _ _ (Grow.refl A) (Out.same (by simp only [Rep]))⟩
  · cases e
theorem o_isN : OpD X (compareOp .IsNot) gIsN := .of (op_isNB.or op_notN) fun A x y d1 d2 d o Q rel q1 q2 e k => by
  unfold gIsN at e
  split at e
  · rename_i b
    cases e
    have z : y = .bl b := by simpa only [RepT, Rep] using q2
    exact .inl ⟨b, z, by rw [isB_of q1 b]; exact k _ _ _ (Grow.refl A) (Out.same (by simp only [Rep]))⟩
  · cases e
    have z : y = .non := by simpa only [RepT, Rep] using q2
    exact .inr ⟨z, by rw [isN_of q1]; exact k _ _ _ (Grow.refl A) (Out.same (by simp only [Rep]))⟩
  · cases e

/-! ### a + b -/
/-- () + u is u -/
theorem cat_tup0 {prog : Program} {w : World} {A : Around} {E : Value → Shared → Prop} {s : Shared} {t b : Addr} {ws : List Value} {Q : Value → Shared → Prop} (ht : IsTup s.heap t ([] : List Value).toArray) (hb : IsTup s.heap b ws.toArray) (h1 : Q (.ref b) s) :
    wpAny (model prog w) A (binaryOp .Add (.ref t) (.ref b)) Q E s := by
  obtain ⟨⟨cls, dd, data, sl⟩, ho, hc, n, hd⟩ := id ht
  obtain ⟨⟨cls2, dd2, data2, sl2⟩, ho2, hc2, n2, hd2⟩ := id hb
  simp only at hc hd hc2 hd2
  subst hc hd hc2 hd2
  exact concat_meets ⟨_, ho, rfl⟩ ⟨_, ho2, rfl⟩ noFill_tuple_add seq_tuple_add PySem.F.slot_tuple_add PySem.F.entry_tuple_add (PySem.F.args_tuple_add_2 _ _)
      (tuple_addW0 t b _ ws.toArray n n2 dd dd2 sl sl2 (by simp)) ⟨ho, ho2, h1⟩
theorem op_catT0 : OpR X (binaryOp .Add) (fun x y H Q => ∃ a b ys, x = .ref a ∧ y = .ref b ∧ SqT X.K H a [] ∧ SqT X.K H b ys ∧ Q (.ref b) H) := by
  intro pins s σ H x y v u Q I rx ry h
  obtain ⟨a, b, ys, rfl, rfl, ha, hb, q⟩ := h
  cases rx
  cases ry
  obtain ⟨its, r1, p1, _⟩ := I.tuple ha
  obtain ⟨its2, r2, p2, _⟩ := I.tuple hb
  cases r1
  exact cat_tup0 p1 p2 ⟨.ref b, H, I, rfl, q⟩
def gAdd : G2
  | .int i, .int j => some (.int (i + j), false)
  | .str x, .str y => if fits (x.length + y.length) = true then some (.str (x ++ y), false) else none
  | .tup xs, .tup ys => if fits (xs.length + ys.length) = true then some (.tup (xs ++ ys), false) else none
  | .lst xs, .lst ys => if fits (xs.length + ys.length) = true then some (.lst (xs ++ ys), true) else none
  | _, _ => none
theorem o_add : OpD X (binaryOp .Add) gAdd := .of (op_add.or (op_add_str.or (op_catT.or (op_catT0.or op_cat)))) fun A x y d1 d2 d o Q rel q1 q2 e k => by
  unfold gAdd at e
  split at e
  · rename_i i j
    cases e
    exact .inl ⟨i, j, by simpa only [RepT, Rep] using q1, by simpa only [RepT, Rep] using q2, k _ _ _ (Grow.refl A) (Out.same (by simp only [Rep]))⟩
  · rename_i i j
    split at e
    · rename_i hz
      cases e
      exact .inr (.inl ⟨i, j, by simpa only [RepT, Rep] using q1, by simpa only [RepT, Rep] using q2, fits_of hz, k _ _ _ (Grow.refl A) (Out.same (by simp only [Rep]))⟩)
    · cases e
  · rename_i xs ys
    split at e
    · rename_i hz
      cases e
      have q1' : Rep X.K A.O A.H (.tup xs) x := q1
      have q2' : Rep X.K A.O A.H (.tup ys) y := q2
      simp only [RepT, Rep] at q1 q2
      obtain ⟨a, us, rfl, h1, h2⟩ := q1
      obtain ⟨b, ws, rfl, h3, h4⟩ := q2
      cases xs with
      | nil =>
        have := h2.nil_inv
        subst this
        exact .inr (.inr (.inr (.inl ⟨a, b, ws, rfl, rfl, h1, h3, k _ _ _ (Grow.refl A) (Out.same q2')⟩)))
      | cons d0 ds =>
        refine .inr (.inr (.inl ⟨a, b, us, ws, rfl, rfl, h1, h3, ?_, ?_, fun z => ?_, fun z p hp => ?_⟩))
        · obtain ⟨x, r, e, _⟩ := h2.cons_inv
          rw [e]; exact fun z => by cases z
        · rw [← h2.length, ← h4.length]; exact fits_of hz
        · subst z
          have : ys = [] := List.length_eq_zero_iff.mp (by rw [h4.length]; rfl)
          subst this
          rw [List.append_nil] at k
          exact k _ _ _ (Grow.refl A) (Out.same q1')
        · exact k _ _ _ (Grow.new hp) (Out.tup rel hp (h2.append h4))
    · cases e
  · rename_i xs ys
    split at e
    · rename_i hz
      cases e
      simp only [RepT] at q1 q2
      obtain ⟨a, us, rfl, h1, h2⟩ := q1
      obtain ⟨b, ws, rfl, h3, h4⟩ := q2
      exact .inr (.inr (.inr (.inr ⟨a, b, us, ws, rfl, rfl, h1, h3, by rw [← h2.length, ← h4.length]; exact fits_of hz, fun p hp => k _ _ _ (Grow.newOwn hp) (Out.lst rel hp (h2.append h4))⟩)))
    · cases e
  · cases e

/-! ### a * b: ints, a tuple times an int -/
def gMul : G2
  | .int i, .int j => if mulOk i j = true then some (.int (i * j), false) else none
  | .tup xs, .int k => if (decide (2 ≤ k) && fits (xs.length * k.toNat) && !xs.isEmpty) = true then some (.tup (List.replicate k.toNat xs).flatten, false) else none
  | _, _ => none

/-! ### slices of lists, tuples, the script -/
theorem getItem_tuple_whole {prog : Program} {w : World} {A : Around} {E : Value → Shared → Prop} {s : Shared} {t sl : Addr} {items : Array Value} {vl vu : Value} {lo hi : Option Int} {Q : Value → Shared → Prop} (ht : IsTup s.heap t items) (hs : s.heap.IsSliceOf sl vl vu .none) (pl : IsPart vl lo) (pu : IsPart vu hi)
    (hw : HT.sIx items.size 0 lo = 0 ∧ HT.sIx items.size items.size hi = items.size) (h : Q (.ref t) s) : wpAny (model prog w) A (getItem (.ref t) (.ref sl)) Q E s := by
  obtain ⟨os, hos, hcs, hds⟩ := id hs
  have hTs : s.TypeIs (.ref sl) "slice" := ⟨os, hos, hcs⟩
  unfold getItem
  try with_reducible refine wpAny_holding ?_
  first | refine wpAny_bind (wpAny_pure ?_) | skip
  refine wpAny_bind (wpAny_sequenceKey ht.typeIs (by decide) ?_)
  refine wpAny_bind (wpAny_callSpecial?_slot (name := Str.ofString "__getitem__") ht.typeIs PyProof.Rows.slot_tuple_getitem
    (wpAny_call_entry PyProof.Rows.slot_tuple_getitem ht.typeIs entry_tuple_getitem ?_ (args_tuple_getitem _ _)))
  show wpAny _ _ (Builtin.Tuple.tupleItemsOf (.ref t) >>= _) _ _ s
  refine wpAny_bind (tupleItemsOf_ ht ?_)
  refine wpAny_bind (wpAny_typeOf hTs ?_)
  rw [if_pos (by decide)]
  refine wpAny_bind (HT.sliceApplied_gen hs pl pu ?_)
  have hyes : (((HT.sIx items.size 0 lo : Nat) : Int) == 0 && (1 : Int) == 1 && (HT.sIx items.size items.size hi - HT.sIx items.size 0 lo) == items.size) = true := by
    rw [hw.1, hw.2]; simp
  show wpAny _ _ (if (((HT.sIx items.size 0 lo : Nat) : Int) == 0 && (1 : Int) == 1 && (HT.sIx items.size items.size hi - HT.sIx items.size 0 lo) == items.size) = true then _ else _) _ _ s
  rw [if_pos hyes]
  unfold Builtin.Tuple.tupleIsExact
  refine wpAny_bind (wpAny_bind (wpAny_typeOf ht.typeIs (wpAny_pure ?_)))
  rw [if_pos (by decide)]
  exact wpAny_bind (wpAny_rule (wpAny_pure ⟨_, rfl, wpAny_pure h⟩))
end
end Mw
set_option Elab.async false
set_option linter.all false
set_option maxRecDepth 100000
/-! MIRROR, part J: slices, isinstance, all, list(range), pop; a def as it stands behind the top. -/
namespace Mw
open PySem PySem.Spec PyProof.Rows L2

section
variable {X : Cx} {e a b : Expr} {es : List Expr} {pos p p2 p3 : Pos}
/-! ### slices -/
def rSlTW (K : PySem.W.Frag) : V → Option Int → Option Int → Hp → VK → Prop := fun x lo hi H Q => ∃ a xs, x = .ref a ∧ SqT K H a xs ∧
  (HT.sIx xs.length 0 lo = 0 ∧ HT.sIx xs.length xs.length hi = xs.length) ∧ Q (.ref a) H
theorem sl_tupW : SlR X (rSlTW X.K) := by
  intro pins s σ H x v vl vu lo hi sl Q I rx hs pl pu h
  obtain ⟨a, xs, rfl, hx, hw, q⟩ := h
  cases rx
  obtain ⟨its, r, ht, hz⟩ := I.tuple hx
  have hlen : its.toArray.size = xs.length := by rw [List.size_toArray]; exact r.length.symm
  refine ⟨"tuple", _, PyProof.Rows.slot_tuple_getitem.lookup, ht.typeIs, ?_⟩
  exact getItem_tuple_whole ht hs pl pu (by rw [hlen]; exact hw) ⟨.ref a, H, I, rfl, q⟩
theorem sl_any : SlR X (fun x lo hi H Q => rSlT X.K x lo hi H Q ∨ rSlTW X.K x lo hi H Q ∨ rSlL X.K x lo hi H Q) := sl_tup.or (sl_tupW.or sl_list)
def gSl : G3
  | .tup xs, lo, hi => some (.tup (cut xs lo hi), false)
  | .lst xs, lo, hi => some (.lst (cut xs lo hi), true)
  | .scr xs, lo, hi => some (.lst (cut xs lo hi), true)
  | _, _, _ => none
theorem cut_whole {α : Type} {xs : List α} {lo hi : Option Int} (h : HT.sIx xs.length 0 lo = 0 ∧ HT.sIx xs.length xs.length hi = xs.length) : cut xs lo hi = xs := by
  unfold cut
  rw [h.1, h.2, List.drop_zero, Nat.sub_zero, List.take_length]
theorem good_sl : GoodSl X (fun x lo hi H Q => rSlT X.K x lo hi H Q ∨ rSlTW X.K x lo hi H Q ∨ rSlL X.K x lo hi H Q) gSl := by
  intro A x lo hi d1 d o Q rel q1 e k
  unfold gSl at e
  split at e
  · rename_i xs
    cases e
    have q1' : Rep X.K A.O A.H (.tup xs) x := q1
    simp only [RepT, Rep] at q1
    obtain ⟨a, ys, rfl, h1, h2⟩ := q1
    by_cases hw : HT.sIx ys.length 0 lo = 0 ∧ HT.sIx ys.length ys.length hi = ys.length
    · rw [cut_whole (by rw [h2.length]; exact hw)] at k
      exact .inr (.inl ⟨a, ys, rfl, h1, hw, k _ _ _ (Grow.refl A) (Out.same q1')⟩)
    · exact .inl ⟨a, ys, rfl, h1, hw, fun p hp => k _ _ _ (Grow.new hp) (Out.tup rel hp (cut_Reps h2))⟩
  · rename_i xs
    cases e
    simp only [RepT] at q1
    obtain ⟨a, ys, rfl, h1, h2⟩ := q1
    exact .inr (.inr ⟨a, ys, rfl, SqL.of h1, fun p hp => k _ _ _ (Grow.newOwn hp) (Out.lst rel hp (cut_Reps h2))⟩)
  · rename_i xs
    cases e
    simp only [RepT, Rep] at q1
    obtain ⟨a, ys, rfl, h1, h2⟩ := q1
    exact .inr (.inr ⟨a, ys, rfl, h1.sq, fun p hp => k _ _ _ (Grow.newOwn hp) (Out.lst rel hp (cut_Reps h2))⟩)
  · cases e

/-! ### isinstance(x, C), C a built-in type -/
def D.ty : D → String
  | .non => "NoneType"
  | .bl _ => "bool"
  | .int _ => "int"
  | .str _ => "str"
  | .tup _ => "tuple"
  | .lst _ => "list"
  | .scr _ => "list"
def isTy (t c : String) : Bool := t == c || (t == "bool" && c == "int")
theorem kit_all (K : PySem.W.Frag) : ∀ t ∈ ["NoneType", "bool", "int", "str", "tuple", "list"], ∀ c ∈ ["int", "bool", "str", "tuple", "list"], PySem.W.kitOne K (.type t) (.type c) = some (isTy t c) := by
  intro t ht c hc
  simp only [List.mem_cons, List.not_mem_nil, or_false] at ht hc
  rcases ht with rfl | rfl | rfl | rfl | rfl | rfl <;> rcases hc with rfl | rfl | rfl | rfl | rfl <;> with_unfolding_all rfl

theorem ty_of {A : Sd} {d : D} {x : V} {pins : List (Addr × Obj)} {σ : L2.St} {s : Shared} (I : Inv X pins σ A.H s) (h : RepT X.K A.O A.H d x) {u : Value} (ru : RelV x u) {c : String} {b : Bool} {Q : Value → Shared → Prop} {E : Value → Shared → Prop}
    (e : PySem.W.kitOne X.K (.type d.ty) (.type c) = some b) (q : ∀ tk, Q (.bool b) { s with toks := tk }) : wpAny (model X.prog X.w) X.A (call (.builtin "isinstance") [u, .type c]) Q E s := by
  cases d with
  | non => have z : x = .non := by simpa only [RepT, Rep] using h
           subst z; exact isinst_ok I ru .non e q
  | bl i => have z : x = .bl i := by simpa only [RepT, Rep] using h
            subst z; exact isinst_ok I ru (.bl i) e q
  | int i => have z : x = .int i := by simpa only [RepT, Rep] using h
             subst z; exact isinst_ok I ru (.int i) e q
  | str i => have z : x = .str i := by simpa only [RepT, Rep] using h
             subst z; exact isinst_ok I ru (.str i) e q
  | tup ds =>
    simp only [RepT, Rep] at h
    obtain ⟨a, xs, rfl, h1, _⟩ := h
    cases ru
    obtain ⟨its, r, p, _⟩ := I.tuple h1
    obtain ⟨o, h1, h2, _⟩ := p
    exact PySem.W.kia_one PySem.W.kitx_tuple I.kIn ⟨o, h1, h2⟩ e (fun z => nomatch z) q
  | lst ds =>
    simp only [RepT] at h
    obtain ⟨a, xs, rfl, h1, _⟩ := h
    exact isinst_ok I ru (.lst h1) e q
  | scr ds =>
    simp only [RepT, Rep] at h
    obtain ⟨a, xs, rfl, h1, _⟩ := h
    cases ru
    obtain ⟨its, r, p, _⟩ := I.list h1.sq
    obtain ⟨o, n, h1, h2, _⟩ := p
    exact PySem.W.kia_one PySem.W.kitx_list I.kIn ⟨o, h1, h2⟩ e (fun z => nomatch z) q
def rIsI (K : PySem.W.Frag) : List V → Hp → VK → Prop := fun xs H Q => ∃ (x : V) (c : String) (d : D) (A : Sd), xs = [x, .ty c] ∧ A.H = H ∧ RepT K A.O A.H d x ∧ c ∈ ["int", "bool", "str", "tuple", "list"] ∧ Q (.bl (isTy d.ty c)) H
theorem call_isI : CallR X (.builtin "isinstance") (rIsI X.K) := by
  intro pins s σ H xs us Q I r h
  obtain ⟨x, c, d, A, rfl, rfl, hd, hc, q⟩ := h
  obtain ⟨u, w', rfl, ru, rc⟩ := vals2 r
  cases rc
  have hk := kit_all X.K d.ty (by cases d <;> simp [D.ty]) c hc
  exact ty_of I hd ru hk fun tk => ⟨.bl (isTy d.ty c), A.H, I.tok tk, rfl, q⟩
def mIsI (c : String) (f : ME) : ME := fun M => (f M).bind fun t M => (Res.opt (t.see M) M).bind fun d M => .ok (.val (.bl (isTy d.ty c)) false) M
theorem d_isI {x : Str} {c : String} {f : ME} (hg : Gl X "isinstance") (hm : X.mg "isinstance" = none) (hgc : Gl X x) (hmc : X.mg x = none) (ha : PEd X e f) (hv : bootBuiltins x = some (.type c) := by rfl) (hc : c ∈ ["int", "bool", "str", "tuple", "list"] := by decide)
    (hn : x ≠ "__name__" := by decide) (hd : (x == ("__debug__" : Str)) = false := by decide) (he : starEach [e, .Name x p2] X.env = (false, eval e X.env) :: starEach [.Name x p2] X.env := by rfl) (hpl : (backTo pos (starEach [.Name x p2] X.env)).any (·.1) = false := by rfl) :
    PEd X (.Call (.Name "isinstance" p) [e, .Name x p2] [] pos) (mIsI c f) :=
  PE.imp (pe_callB call_isI hg hm (by rfl) (pa_cons ha (pa_cons (pe_bltn (v := .ty c) hgc hmc hv rfl hn hd) pa_nil) he) (by decide) (by decide) he hpl) fun σ H Q h => by
    obtain ⟨M, O, rel, h⟩ := h
    refine ⟨M, O, rel, (RR.bind rel h).imp fun t B es r1 e1 q v tr _ => ?_⟩
    obtain ⟨d, ed, q⟩ := opt_ok q
    exact ⟨v, c, d, B, rfl, rfl, tr.see r1 ed, hc, RR.now r1 q _ (by show Rep _ _ _ _ _; simp only [Rep]) trivial⟩

/-! ### all(xs) of a list of bools -/
def D.bools : List D → Option (List Bool)
  | [] => some []
  | .bl b :: r => (D.bools r).map (b :: ·)
  | _ :: _ => none
def gAll : G1
  | .lst xs => (D.bools xs).map fun bs => (.bl (bs.all id), false)
  | .tup xs => (D.bools xs).map fun bs => (.bl (bs.all id), false)
  | _ => none
theorem bools_reps {K : PySem.W.Frag} {O : OS} {H : Hp} : ∀ {ds : List D} {xs : List V} {bs : List Bool}, Reps K O H ds xs → D.bools ds = some bs → xs = bs.map V.bl
  | [], xs, bs, r, e => by rw [r.nil_inv]; cases e; rfl
  | .bl b :: ds, xs, bs, r, e => by
    obtain ⟨x, r', rfl, h1, h2⟩ := r.cons_inv
    simp only [Rep] at h1
    simp only [D.bools] at e
    cases z : D.bools ds with
    | none => rw [z] at e; cases e
    | some cs =>
      rw [z] at e; cases e
      rw [h1, bools_reps h2 z]; rfl
  | .non :: _, _, _, _, e => by cases e
  | .int _ :: _, _, _, _, e => by cases e
  | .str _ :: _, _, _, _, e => by cases e
  | .tup _ :: _, _, _, _, e => by cases e
  | .lst _ :: _, _, _, _, e => by cases e
  | .scr _ :: _, _, _, _, e => by cases e
theorem vals_bools : ∀ {bs : List Bool} {us : List Value}, Vals (bs.map V.bl) us → us = bs.map Value.bool
  | [], us, r => by cases r; rfl
  | b :: bs, us, r => by
    cases r with
    | cons h t =>
      cases h
      rw [vals_bools t]; rfl
theorem range_all (bs : List Bool) : ((List.range bs.length).all fun i => (bs[i]?).getD false) = bs.all id := by
  rw [Bool.eq_iff_iff, List.all_eq_true, List.all_eq_true]
  constructor
  · intro h b hb
    obtain ⟨i, hi, rfl⟩ := List.mem_iff_getElem.mp hb
    have := h i (List.mem_range.mpr hi)
    rw [List.getElem?_eq_getElem hi] at this
    exact this
  · intro h i hi
    have hi := List.mem_range.mp hi
    rw [List.getElem?_eq_getElem hi]
    exact h _ (List.getElem_mem hi)
theorem call_all : X.calm = true → CallR X (.builtin "all") (fun xs H Q => ∃ (p : Addr) (bs : List Bool), xs = [.ref p] ∧ (SqL X.K H p (bs.map V.bl) ∨ SqT X.K H p (bs.map V.bl)) ∧ Q (.bl (bs.all id)) H) := by
  intro hc pins s σ H xs us Q I r h
  obtain ⟨p, bs, rfl, hq, q⟩ := h
  obtain ⟨u, rfl, rx⟩ := vals1 r
  cases rx
  have hh : X.A.in1.handled = none := I.ok.hd hc
  have tr : TruthOf X.prog X.w X.A.in1 (fun i v => (bs.map Value.bool)[i]? = some v) (fun i => (bs[i]?).getD false) := by
    intro i v s' Q' E' hP hQ
    rw [List.getElem?_map] at hP
    replace hQ : Q' ((bs[i]?).getD false) s' := hQ
    cases z : bs[i]? with
    | none => rw [z] at hP; cases hP
    | some b =>
      rw [z] at hP hQ; cases hP
      exact wpAny_pure hQ
  rcases hq with hq | hq
  · obtain ⟨its, rv, pl, hz⟩ := I.list hq
    have := vals_bools rv
    subst this
    refine call_all_walk (wpAny_pyIter_list pl.isList ?_)
    have hne : p ≠ s.heap.objs.size := Nat.ne_of_lt (by obtain ⟨o, ho, _⟩ := pl.isList; exact Heap.lt_size ho)
    refine ⟨s.heap.objs.size, _, _, _, _, _, _, rfl, Walks.list hh s.heap.objs.size p hne _, ⟨⟨_, Heap.get?_push_size _ rfl, rfl, rfl⟩, pl.isList.push _⟩, by simpa using tr, fun h' tk hk => ?_⟩
    refine ⟨.bl (bs.all id), H, I.kept fun b u e => hk b u (fun z => by
      rw [List.mem_singleton.mp z] at e
      exact absurd (Heap.lt_size e) (Nat.lt_irrefl _)) (Heap.get?_push_of_some _ e), ?_, q⟩
    have e := range_all bs
    simp only [List.size_toArray, List.length_map]
    rw [e]; rfl
  · obtain ⟨its, rv, pl, hz⟩ := I.tuple hq
    have := vals_bools rv
    subst this
    have pt : s.heap.IsTuple p (bs.map Value.bool).toArray := pl
    refine call_all_walk (wpAny_pyIter_tuple pt ?_)
    have hne : p ≠ s.heap.objs.size := Nat.ne_of_lt (by obtain ⟨o, ho, _⟩ := pl; exact Heap.lt_size ho)
    refine ⟨s.heap.objs.size, _, _, _, _, _, _, rfl, Walks.tuple hh s.heap.objs.size p hne _, ⟨⟨_, Heap.get?_push_size _ rfl, rfl, rfl⟩, pt.push _⟩, by simpa using tr, fun h' tk hk => ?_⟩
    refine ⟨.bl (bs.all id), H, I.kept fun b u e => hk b u (fun z => by
      rw [List.mem_singleton.mp z] at e
      exact absurd (Heap.lt_size e) (Nat.lt_irrefl _)) (Heap.get?_push_of_some _ e), ?_, q⟩
    have e := range_all bs
    simp only [List.size_toArray, List.length_map]
    rw [e]; rfl
end
end Mw
set_option Elab.async false
set_option linter.all false
set_option maxRecDepth 100000
/-! MIRROR, part K: list(range), pop, a tuple times an int, equality. -/
namespace Mw
open PySem PySem.Spec PyProof.Rows L2

section
variable {X : Cx} {e a b : Expr} {es : List Expr} {pos p p2 p3 : Pos}
theorem good_all : GoodC X (fun xs H Q => ∃ (p : Addr) (bs : List Bool), xs = [.ref p] ∧ (SqL X.K H p (bs.map V.bl) ∨ SqT X.K H p (bs.map V.bl)) ∧ Q (.bl (bs.all id)) H) gAll := by
  intro A x d1 d o Q rel q1 e k
  unfold gAll at e
  split at e
  · rename_i xs
    simp only [RepT] at q1
    obtain ⟨a, ys, rfl, h1, h2⟩ := q1
    cases z : D.bools xs with
    | none => rw [z] at e; cases e
    | some bs =>
      rw [z] at e; cases e
      have := bools_reps h2 z
      subst this
      exact ⟨a, bs, rfl, .inl (SqL.of h1), k _ _ _ (Grow.refl A) (Out.same (by simp only [Rep]))⟩
  · rename_i xs
    simp only [RepT, Rep] at q1
    obtain ⟨a, ys, rfl, h1, h2⟩ := q1
    cases z : D.bools xs with
    | none => rw [z] at e; cases e
    | some bs =>
      rw [z] at e; cases e
      have := bools_reps h2 z
      subst this
      exact ⟨a, bs, rfl, .inr h1, k _ _ _ (Grow.refl A) (Out.same (by simp only [Rep]))⟩
  · cases e

/-! ### list(range(n)) -/
theorem pe_range {ta : TA} (hg : Gl X "range") (hm : X.mg "range" = none) (ha : PA X [a] ta) (hs : starEach [a] X.env = [(false, eval a X.env)] := by rfl) :
    PE X (.Call (.Name "range" p) [a] [] pos) (fun σ H Q => ta σ H fun vs H1 => ∃ j : Int, vs = [.int j] ∧ ∀ q, H1 q = none → Q (.ref q) (upd H1 q (.rng 0 j))) := by
  intro pins s σ H Q I h
  refine Call_ (ld_blt I hg hm boot_range (PyProof.Rows.callWith_type1 (thn (ha pos pins s σ H _ I h) fun us s1 ⟨vs, H1, I1, r1, q1⟩ => ?_) hs rfl))
  obtain ⟨j, e, q⟩ := q1
  subst e
  cases r1 with
  | cons r rr =>
    cases rr
    obtain ⟨t, rfl⟩ := r
    exact call_range_1 ⟨.ref s1.heap.objs.size, _, I1.laid (fun b o e => Heap.get?_push_of_some _ e) (Nat.le_refl _) (show ObjOk X.prog X.w _ _ _ (.rng 0 j) from ⟨_, _, _, Heap.get?_push_size _ rfl⟩), rfl, q _ (I1.hok.fresh (Nat.le_refl _))⟩
theorem vals_get : ∀ {xs : List V} {us : List Value}, xs.length = us.length → (∀ (i : Nat) x u, xs[i]? = some x → us[i]? = some u → RelV x u) → Vals xs us
  | [], [], _, _ => .nil
  | x :: xs, u :: us, hl, h => .cons (h 0 x u rfl rfl) (vals_get (by simpa using hl) fun i y w e1 e2 => h (i + 1) y w (by simpa using e1) (by simpa using e2))
  | [], _ :: _, hl, _ => by cases hl
  | _ :: _, [], hl, _ => by cases hl
theorem items_ints {acc : Array Value} {n : Nat} (h : ItemsOf (fun i v => ∃ t, v = .int ((0 : Int) + (i : Nat) * 1) t) acc n) : Vals ((List.range n).map fun (k : Nat) => V.int (k : Int)) acc.toList := by
  obtain ⟨h1, h2⟩ := h
  refine vals_get (by rw [List.length_map, List.length_range, Array.length_toList, h1]) fun i x u e1 e2 => ?_
  have hi : i < n := by rw [← h1, ← Array.length_toList]; exact (List.getElem?_eq_some_iff.mp e2).1
  rw [List.getElem?_map, List.getElem?_range hi] at e1
  cases e1
  obtain ⟨t, rfl⟩ := h2 i u (by rw [← Array.getElem?_toList]; exact e2)
  exact ⟨t, by congr 1; omega⟩
theorem call_listRng (hc : X.calm = true) : CallR X (.type "list") (fun xs H Q => ∃ (p : Addr) (j : Int), xs = [.ref p] ∧ H p = some (.rng 0 j) ∧ -(2 ^ 62) ≤ j ∧ j ≤ 16777216 ∧ ∀ l, H l = none → Q (.ref l) (upd H l (.lst ((List.range j.toNat).map fun (k : Nat) => V.int (k : Int))))) := by
  intro pins s σ H xs us Q I r h
  obtain ⟨p, j, rfl, hp, h1, h2, q⟩ := h
  obtain ⟨u, rfl, rx⟩ := vals1 r
  cases rx
  obtain ⟨t, u, v, hr⟩ := I.hok p _ hp
  refine call_list_range (n := j.toNat) (I.ok.hd hc) (show IsRange s.heap p 0 j 1 t u v from hr) (small_one (by decide) (by decide) h1 (by omega)) ?_ (by omega) fun h' tk acc c' kp e it => ?_
  · rw [rangeSize_one]; split <;> omega
  · have hv := items_ints it
    have hl := hv.length
    refine ⟨.ref s.heap.objs.size, _, I.laid kp (Nat.le_refl _) (show ObjOk X.prog X.w _ h' _ (.lst _) from ⟨?_, acc.toList, c', hv, by simpa using e⟩), rfl, q _ (I.hok.fresh (Nat.le_refl _))⟩
    rw [List.length_map, List.length_range]
    exact fits_of (fits_le (by omega))
def mListRange (f : ME) : ME := fun M => (f M).bind fun t M => (int1 t M).bind fun n M => Res.chk (decide (-(2 ^ 62) ≤ n) && decide (n ≤ 16777216)) (.ok (.val (.lst (upTo n)) true) M)
theorem upTo_reps {K : PySem.W.Frag} {O : OS} {H : Hp} (n : Int) : Reps K O H (upTo n) ((List.range n.toNat).map fun (k : Nat) => V.int (k : Int)) := by
  have := Reps.ints (K := K) (O := O) (H := H) (ns := (List.range n.toNat).map fun (k : Nat) => (k : Int)) (xs := (List.range n.toNat).map fun (k : Nat) => V.int (k : Int)) (by rw [List.map_map]; rfl)
  rw [List.map_map] at this
  exact this
theorem d_listRange {f : ME} (hc : X.calm = true) (hgl : Gl X "list") (hml : X.mg "list" = none) (hg : Gl X "range") (hm : X.mg "range" = none) (ha : PEd X e f) (hs : starEach [e] X.env = [(false, eval e X.env)] := by rfl)
    (he : starEach [.Call (.Name "range" p2) [e] [] p3] X.env = (false, eval (.Call (.Name "range" p2) [e] [] p3) X.env) :: starEach [] X.env := by rfl) : PEd X (.Call (.Name "list" p) [.Call (.Name "range" p2) [e] [] p3] [] pos) (mListRange f) :=
  PE.imp (pe_callTy (call_listRng hc) hgl hml (by rfl) (pa_cons (pe_range hg hm (pa_cons ha pa_nil hs) hs) pa_nil he) (by decide) (by decide) he) fun σ H Q h => by
    obtain ⟨M, O, rel, h⟩ := h
    refine ⟨M, O, rel, (RR.bind rel h).imp fun t B es r1 e1 q v tr _ => ?_⟩
    obtain ⟨n, en, q⟩ := int1_ok r1 tr (RR.bind r1 q)
    obtain ⟨z, q⟩ := chk_ok q
    simp only [Bool.and_eq_true, decide_eq_true_eq] at z
    refine ⟨n, by rw [en], fun r hr => ?_⟩
    have gr : Grow B (upd B.H r (.rng 0 n)) B.O := Grow.new hr
    refine ⟨r, n, rfl, upd_same, z.1, z.2, fun l hl => ?_⟩
    have r2 := gr.rel r1
    exact out_to (A := ⟨B.sg, B.M, upd B.H r (.rng 0 n), B.O⟩) (A0 := ⟨σ, M, H, O⟩) r2 (e1.trans gr.evo rel.sub) (RR.pre r1 rfl gr.evo q) _ _ _ (Grow.newOwn hl) (Out.lst r2 hl (upTo_reps n))

/-! ### a slot's own list is changed -/
theorem RelM.mutO {K : PySem.W.Frag} {A : Sd} {i : Nat} {ds ds' : List D} {a : Addr} {xs ys : List V} (r : RelM K A) (q : A.M[i]? = some (some (.lst ds, true))) (hσ : A.sg[i]? = some (some (.ref a))) (ho : A.O a) (hp : A.H a = some (.lst xs)) (hr : Reps K A.O A.H ds' ys) :
    RelM K ⟨A.sg, A.M.set i (some (.lst ds', true)), upd A.H a (.lst ys), A.O⟩ := by
  have so : SO A a := ⟨i, _, q, hσ⟩
  refine ⟨by rw [List.length_set]; exact r.len, fun j e z => ?_, fun j e z => ?_, fun j k e1 e2 b q1 q2 q3 q4 => ?_, fun b h z => ?_⟩
  · rcases getset z with ⟨_, y⟩ | ⟨_, y⟩
    · cases y
    · obtain ⟨v, h1, h2⟩ := r.shr j e y
      exact ⟨v, h1, h2.updP ho hp⟩
  · rcases getset z with ⟨y0, y⟩ | ⟨hne, y⟩
    · subst y0; cases y
      exact ⟨a, ys, ds', rfl, hσ, ho, upd_same, hr.updP ho hp⟩
    · obtain ⟨b, zs, es, h0, h1, h2, h3, h4⟩ := r.own j e y
      have hb : b ≠ a := fun w => hne (by subst w; exact r.inj i j _ _ b q y hσ h1)
      exact ⟨b, zs, es, h0, h1, h2, by show upd A.H a _ b = _; rw [upd_ne hb]; exact h3, h4.updP ho hp⟩
  · have c : ∀ {j : Nat} {e : D}, (A.M.set i (some (.lst ds', true)))[j]? = some (some (e, true)) → ∃ e', A.M[j]? = some (some (e', true)) := fun {j e} z => by
      rcases getset z with ⟨y0, y⟩ | ⟨_, y⟩
      · subst y0; exact ⟨_, q⟩
      · exact ⟨_, y⟩
    obtain ⟨_, c1⟩ := c q1
    obtain ⟨_, c2⟩ := c q2
    exact r.inj j k _ _ b c1 c2 q3 q4
  · have z' : upd A.H a (.lst ys) b = none := z
    by_cases w : b = a
    · subst w; rw [upd_same] at z'; cases z'
    · rw [upd_ne w] at z'; exact r.sub b h z'
theorem RelM.mutO_evo {A : Sd} {i : Nat} {ds ds' : List D} {a : Addr} {xs ys : List V} (q : A.M[i]? = some (some (.lst ds, true))) (hσ : A.sg[i]? = some (some (.ref a))) :
    Evo A ⟨A.sg, A.M.set i (some (.lst ds', true)), upd A.H a (.lst ys), A.O⟩ := by
  have so : SO A a := ⟨i, _, q, hσ⟩
  refine ⟨fun b o h n => ?_, fun b h => ?_, fun b h => .inl h, fun b h _ => h, fun b ⟨j, e, z1, z2⟩ => ?_⟩
  · show upd A.H a _ b = _
    rw [upd_ne (fun w => n (by subst w; exact so))]; exact h
  · show upd A.H a _ b ≠ _
    by_cases w : b = a
    · subst w; rw [upd_same]; exact fun z => by cases z
    · rw [upd_ne w]; exact h
  · rcases getset z1 with ⟨y0, y⟩ | ⟨_, y⟩
    · subst y0; exact .inl ⟨_, _, q, z2⟩
    · exact .inl ⟨j, e, y, z2⟩
/-- what slot i alone holds -/
def ownL (M : MS) (i : Nat) : Option (List D) := match M[i]? with
  | some (some (.lst ds, true)) => some ds
  | _ => none
theorem ownL_of {M : MS} {i : Nat} {ds : List D} (h : ownL M i = some ds) : M[i]? = some (some (.lst ds, true)) := by
  unfold ownL at h
  split at h
  · rename_i q; cases h; exact q
  · cases h
def mPopAt (i : Nat) (f : ME) : ME := fun M => (Res.opt (ownL M i) M).bind fun _ M => (f M).bind fun t M => (int1 t M).bind fun k M => (Res.opt (ownL M i) M).bind fun ds M => (Res.opt (ixN ds.length k) M).bind fun j M => (Res.opt ds[j]? M).bind fun d M =>
  Res.chk (fits ds.length) (.ok (.val d false) (M.set i (some (.lst (ds.eraseIdx j), true))))
theorem d_popAt (i : Nat) {x : Str} {f : ME} {xp apos cpos : Pos} (he : PEd X e f) (hN : X.N[i]? = some x := by rfl) (hv : Vis X.env.scope x := by first | exact Or.inl rfl | exact Or.inr (Or.inl rfl) | exact Or.inr (Or.inr rfl)) (hd : (x == ("__debug__" : Str)) = false := by decide)
    (hcd : (x == ("__classdict__" : Str)) = false := by decide)
    (hbase : attributeBase (.Name x xp) "pop" X.env (eval (.Name x xp) X.env) = eval (.Name x xp) X.env := by rfl)
    (hfew : ((backTo cpos (starEach [e] X.env)).all (fun x => !x.1) && (backToKw cpos (keywordEach [] X.env)).all (fun x => x.1.isSome)
      && decide ([e].length + ([] : List Keyword).length + (if ([] : List Keyword).isEmpty then 0 else 1) < 30)) = true := by rfl)
    (hline : (apos.endLine == cpos.line) = true := by rfl) (hs : starEach [e] X.env = (false, eval e X.env) :: starEach [] X.env := by rfl) :
    PEd X (.Call (.Attribute (.Name x xp) "pop" apos) [e] [] cpos) (mPopAt i f) :=
  PE.imp (pe_bm PySem.F.plainAttrs_list PySem.F.slot_list_pop PySem.F.type_list_pop mt_popAt (pe_var (i := i) hN hv hd hcd) (pa_cons he pa_nil hs) hbase hfew hline hs) fun σ H Q h => by
    obtain ⟨M, O, rel, h⟩ := h
    obtain ⟨ds0, e0, h⟩ := opt_ok h
    obtain ⟨a, xs0, es0, _, hσ, ho0, hp0, _⟩ := rel.own i _ (ownL_of e0)
    refine ⟨.ref a, hσ, .inl ⟨rfl, xs0, SqL.of hp0⟩, M, O, rel, (RR.bind rel h).imp fun t B es r1 e1 q v tr _ => ?_⟩
    cases B with | mk σ1 M1 H1 O1 =>
    cases es
    obtain ⟨k, ek, q⟩ := int1_ok r1 tr (RR.bind r1 q)
    obtain ⟨ds, e2, q⟩ := opt_ok q
    obtain ⟨j, e3, q⟩ := opt_ok q
    obtain ⟨d, e4, q⟩ := opt_ok q
    obtain ⟨z, q⟩ := chk_ok q
    have hM := ownL_of e2
    obtain ⟨a', xs, es, eds, hσ', ho, hp, hr⟩ := r1.own i _ hM
    cases eds
    have hσ1 : σ[i]? = some (some (.ref a')) := hσ'
    rw [hσ] at hσ1; cases hσ1
    obtain ⟨y, ey, ry⟩ := hr.get e4
    have hl := hr.length
    obtain ⟨i1, i2, i3, i4⟩ := ixN_seq e3
    have zl := Nat.le_of_ble_eq_true z
    refine ⟨a, xs, k, j, y, rfl, by rw [ek], hp, by omega, by omega, by rw [← hl]; exact i1, ey, ?_⟩
    exact q _ _ (r1.mutO hM hσ ho hp (hr.eraseIdx j)) (RelM.mutO_evo (xs := xs) hM hσ) y (ry.updP ho hp) trivial
end
end Mw
set_option Elab.async false
set_option linter.all false
set_option maxRecDepth 100000
/-! MIRROR, part L: a tuple times an int, equality, in; a def as it stands behind the top; the law. -/
namespace Mw
open PySem PySem.Spec PyProof.Rows L2

theorem noFill_tuple_mul : fillsNumberSlot (.type "tuple") "mul" = pure false :=
  PySem.fillsNumberSlot_seq (id := "tuple.__mul__") (r := some (.builtin "tuple.__rmul__")) PySem.F.slot_tuple_mul.lookup (by decide +kernel) PySem.F.slot_tuple_rmul.lookup (by decide +kernel)
theorem repeat_tuple : seqRepeat? (.type "tuple") = pure (some (.builtin "tuple.__mul__")) := by
  unfold seqRepeat?
  rw [PySem.seqSlot_of (T := "tuple") (name := "__mul__") (id := "tuple.__mul__") PySem.F.slot_tuple_mul.lookup (by decide +kernel), PySem.seqSlot_of (T := "tuple") (name := "__rmul__") (id := "tuple.__rmul__") PySem.F.slot_tuple_rmul.lookup (by decide +kernel)]
  rfl
theorem int_rmul_tuple (a : Int) (t : Tok) (l : Addr) (items : Array Value) (n : Nat) (dd : Option Addr) (sl : Array (Option Value)) :
    Meets (Builtin.«int.__rmul__» ⟨[.int a t, .ref l], []⟩) (fun _ R s => s.heap.get? l = some { cls := .type "tuple", dict := dd, data := .seq items n, slots := sl } ∧ R (.ok (.ret Value.notImplemented)) s) :=
  .of_wp fun prog w A R s h => by obtain ⟨hp, g, d, tk, os⟩ := s; obtain ⟨hl, h⟩ := h; wp_walk; exact ⟨_, rfl, h⟩
theorem tuple_mulW (l : Addr) (items : Array Value) (n : Nat) (dd : Option Addr) (sl : Array (Option Value)) (k : Int) (u : Tok) (hk : 2 ≤ k) (hk2 : k < 2 ^ 63) (hne : items.isEmpty = false) (hsz : items.size * k.toNat ≤ sizeLine) :
    Meets (Builtin.«tuple.__mul__» ⟨[.ref l, .int k u], []⟩) (fun _ R s => s.heap.get? l = some { cls := .type "tuple", dict := dd, data := .seq items n, slots := sl } ∧
      R (.ok (.ret (Value.ref s.heap.objs.size))) { s with heap := s.heap.push { cls := Value.type "tuple", data := Data.seq (List.foldl (fun x1 x2 => x1 ++ x2) #[] (List.replicate k.toNat items)) }, toks := s.toks }) :=
  .of_wp fun prog w A R s h => by
    obtain ⟨hp, g, d, tk, os⟩ := s; obtain ⟨hl, h⟩ := h
    wp_walk
    have e1 : (decide (k < -2 ^ 63) || decide (k ≥ 2 ^ 63)) = false := by
      rw [decide_eq_false (by omega), decide_eq_false (by omega)]; rfl
    refine wpAny_ite_false (by rw [e1]; rfl) ?_
    refine wpAny_bind (tupleItemsOf_ (items := items) ⟨_, hl, rfl, n, rfl⟩ ?_)
    have e2 : (items.isEmpty || k == 1) = false := by
      have : (k == 1) = false := by rw [beq_eq_false_iff_ne]; omega
      rw [hne, this]; rfl
    refine wpAny_ite_false (by rw [e2]; rfl) ?_
    have e3 : (decide (k ≤ 0) || items.isEmpty) = false := by
      rw [hne, decide_eq_false (by omega)]; rfl
    refine wpAny_ite_false (by rw [e3]; rfl) ?_
    have hm : ((items.size : Int) * k) = ((items.size * k.toNat : Nat) : Int) := by
      rw [Int.natCast_mul, Int.toNat_of_nonneg (by omega)]
    have hs2 : items.size * k.toNat ≤ 16777216 := hsz
    have e4 : ¬ ((items.size : Int) * k > (2 ^ 63 - 1) / 8) := by rw [hm]; omega
    refine wpAny_ite_false (decide_eq_false e4) ?_
    have e5 : Builtin.Tuple.tupleTooMany ((items.size : Int) * k) = false := by
      rw [hm]
      unfold Builtin.Tuple.tupleTooMany
      simp only [sizeLine] at *
      exact decide_eq_false (by omega)
    refine wpAny_ite_false (by rw [e5]; rfl) ?_
    have hf : List.foldl (fun x1 x2 => x1 ++ x2) #[] (List.replicate k.toNat items) = (List.replicate k.toNat items.toList).flatten.toArray := by
      have := L2.foldl_rep items.toList k.toNat []
      simpa using this
    have hz : sizeOk (.seq (List.foldl (fun x1 x2 => x1 ++ x2) #[] (List.replicate k.toNat items))) := by
      show (List.foldl (fun x1 x2 => x1 ++ x2) #[] (List.replicate k.toNat items)).size ≤ sizeLine
      rw [hf, List.size_toArray, L2.len_rep, Array.length_toList, Nat.mul_comm]
      exact hsz
    first
      | exact wpAny_bind (m := Builtin.Tuple.tupleExact _) (wpAny_newObj_type (wpAny_pure ⟨_, rfl, h⟩) hz)
      | exact wpAny_bind (m := Builtin.Tuple.tupleExact _) (wpAny_newObj_type (wpAny_bind (wpAny_pure (wpAny_pure ⟨_, rfl, h⟩))) hz)

section
variable {X : Cx} {e a b : Expr} {es : List Expr} {pos p p2 p3 : Pos}
def rRepT (K : PySem.W.Frag) : R2 := fun x y H Q => ∃ a k xs, x = .ref a ∧ y = .int k ∧ SqT K H a xs ∧ xs ≠ [] ∧ 2 ≤ k ∧ k < 2 ^ 63 ∧ xs.length * k.toNat ≤ sizeLine ∧ ∀ p, H p = none → Q (.ref p) (upd H p (.tup (List.replicate k.toNat xs).flatten))
theorem op_repT : OpR X (binaryOp .Mult) (rRepT X.K) := by
  intro pins s σ H x y v u Q I rx ry h
  obtain ⟨a, k, xs, rfl, rfl, ha, hne, h1, h2, hz, q⟩ := h
  cases rx
  obtain ⟨t, rfl⟩ := ry
  obtain ⟨its, r, p1, _⟩ := I.tuple ha
  have hl := r.length
  obtain ⟨⟨cls, dd, data, sl⟩, ho, hc, n, hd⟩ := id p1
  simp only at hc hd
  subst hc hd
  have hemp : its.toArray.isEmpty = false := by
    cases its with
    | nil => exact absurd (r.nil_iff.mp rfl) hne
    | cons _ _ => rfl
  refine wpAny_binaryOp_repeat_ref (T := "tuple") (U := "int") (by decide) ⟨_, ho, rfl⟩ (fun s' => typeIs_int s' k t) noFill_tuple_mul PySem.F.fills_int_mul PySem.F.slot_int_rmul repeat_tuple PySem.F.slot_int_index.lookup
    (call_meets PySem.F.slot_int_rmul (typeIs_int s k t) PySem.F.entry_int_rmul (PySem.F.args_int_rmul_2 _ _) (int_rmul_tuple k t a its.toArray n dd sl)
      ⟨ho, rfl, ⟨_, ho, rfl⟩, call_meets PySem.F.slot_tuple_mul ⟨_, ho, rfl⟩ PySem.F.entry_tuple_mul (PySem.F.args_tuple_mul_2 _ _) (tuple_mulW a its.toArray n dd sl k t h1 h2 hemp (by rw [List.size_toArray, ← hl]; exact hz)) ⟨ho, ?_⟩⟩)
  have hf : List.foldl (fun x1 x2 => x1 ++ x2) #[] (List.replicate k.toNat its.toArray) = (List.replicate k.toNat its).flatten.toArray := by
    have := L2.foldl_rep its k.toNat []
    simpa using this
  rw [hf]
  refine ⟨.ref s.heap.objs.size, _, I.laid (t' := s.toks) (o := .tup (List.replicate k.toNat xs).flatten) (fun b ob q => Heap.get?_push_of_some _ q) (Nat.le_refl _) ?_, rfl, q _ (I.hok.fresh (Nat.le_refl _))⟩
  exact ⟨by rw [L2.len_rep, Nat.mul_comm]; exact hz, _, r.rep k.toNat, IsTup.new _ _⟩
theorem o_mul : OpD X (binaryOp .Mult) gMul := .of (op_mul.or op_repT) fun A x y d1 d2 d o Q rel q1 q2 e k => by
  unfold gMul at e
  split at e
  · rename_i i j
    split at e
    · rename_i hz
      cases e
      exact .inl ⟨i, j, by simpa only [RepT, Rep] using q1, by simpa only [RepT, Rep] using q2, mulOk_of hz, k _ _ _ (Grow.refl A) (Out.same (by simp only [Rep]))⟩
    · cases e
  · rename_i xs n
    split at e
    · rename_i hz
      cases e
      simp only [Bool.and_eq_true, decide_eq_true_eq, Bool.not_eq_true'] at hz
      obtain ⟨⟨z1, z2⟩, z3⟩ := hz
      simp only [RepT, Rep] at q1 q2
      obtain ⟨a, ys, rfl, h1, h2⟩ := q1
      have hl := h2.length
      have z2' := fits_of z2
      have hne : ys ≠ [] := fun w => by
        subst w
        cases xs with
        | nil => cases z3
        | cons _ _ => cases hl
      have hpos : 1 ≤ ys.length := by
        cases ys with
        | nil => exact absurd rfl hne
        | cons _ _ => simp
      have hb : n.toNat ≤ ys.length * n.toNat := Nat.le_mul_of_pos_left _ hpos
      rw [hl] at z2'
      have z2'' : ys.length * n.toNat ≤ 16777216 := z2'
      exact .inr ⟨a, n, ys, rfl, q2, h1, hne, z1, by omega, z2', fun p hp => k _ _ _ (Grow.new hp) (Out.tup rel hp (h2.rep n.toNat))⟩
    · cases e
  · cases e
end
end Mw
set_option Elab.async false
set_option linter.all false
set_option maxRecDepth 100000
/-! MIRROR, part M: equality of plain values; a def as it stands behind the top; the law. -/
namespace Mw
open PySem PySem.Spec PyProof.Rows L2

section
variable {X : Cx} {e a b : Expr} {es : List Expr} {pos p p2 p3 : Pos}
def gEq : G2
  | .int i, .int j => some (.bl (decide (i = j)), false)
  | .str x, .str y => some (.bl (decide (x = y)), false)
  | .bl x, .bl y => some (.bl (decide (x = y)), false)
  | _, _ => none
def gNe : G2
  | .int i, .int j => some (.bl (!decide (i = j)), false)
  | .str x, .str y => some (.bl (!decide (x = y)), false)
  | .bl x, .bl y => some (.bl (!decide (x = y)), false)
  | _, _ => none
theorem dec_of {α β : Type} [DecidableEq α] [DecidableEq β] (f : α → β) (hf : ∀ x y, f x = f y → x = y) (x y : α) : decide (f x = f y) = decide (x = y) := by
  by_cases h : x = y
  · subst h; simp
  · rw [decide_eq_false h, decide_eq_false fun z => h (hf x y z)]
theorem o_eq : OpD X (compareOp .Eq) gEq := .of op_eq fun A x y d1 d2 d o Q rel q1 q2 e k => by
  unfold gEq at e
  split at e
  · rename_i i j
    cases e
    have z1 : x = .int i := by simpa only [RepT, Rep] using q1
    have z2 : y = .int j := by simpa only [RepT, Rep] using q2
    subst z1; subst z2
    exact ⟨rfl, by rw [dec_of V.int (fun _ _ h => by cases h; rfl)]; exact k _ _ _ (Grow.refl A) (Out.same (by simp only [Rep]))⟩
  · rename_i i j
    cases e
    have z1 : x = .str i := by simpa only [RepT, Rep] using q1
    have z2 : y = .str j := by simpa only [RepT, Rep] using q2
    subst z1; subst z2
    exact ⟨rfl, by rw [dec_of V.str (fun _ _ h => by cases h; rfl)]; exact k _ _ _ (Grow.refl A) (Out.same (by simp only [Rep]))⟩
  · rename_i i j
    cases e
    have z1 : x = .bl i := by simpa only [RepT, Rep] using q1
    have z2 : y = .bl j := by simpa only [RepT, Rep] using q2
    subst z1; subst z2
    exact ⟨rfl, by rw [dec_of V.bl (fun _ _ h => by cases h; rfl)]; exact k _ _ _ (Grow.refl A) (Out.same (by simp only [Rep]))⟩
  · cases e
theorem o_ne : OpD X (compareOp .NotEq) gNe := .of op_ne fun A x y d1 d2 d o Q rel q1 q2 e k => by
  unfold gNe at e
  split at e
  · rename_i i j
    cases e
    have z1 : x = .int i := by simpa only [RepT, Rep] using q1
    have z2 : y = .int j := by simpa only [RepT, Rep] using q2
    subst z1; subst z2
    exact ⟨rfl, by rw [dec_of V.int (fun _ _ h => by cases h; rfl)]; exact k _ _ _ (Grow.refl A) (Out.same (by simp only [Rep]))⟩
  · rename_i i j
    cases e
    have z1 : x = .str i := by simpa only [RepT, Rep] using q1
    have z2 : y = .str j := by simpa only [RepT, Rep] using q2
    subst z1; subst z2
    exact ⟨rfl, by rw [dec_of V.str (fun _ _ h => by cases h; rfl)]; exact k _ _ _ (Grow.refl A) (Out.same (by simp only [Rep]))⟩
  · rename_i i j
    cases e
    have z1 : x = .bl i := by simpa only [RepT, Rep] using q1
    have z2 : y = .bl j := by simpa only [RepT, Rep] using q2
    subst z1; subst z2
    exact ⟨rfl, by rw [dec_of V.bl (fun _ _ h => by cases h; rfl)]; exact k _ _ _ (Grow.refl A) (Out.same (by simp only [Rep]))⟩
  · cases e
end

/-! ### a def as it stands behind the top -/
section
variable {P : Program} {w : World} {K : PySem.W.Frag} {mg : Str → Option Value} {base : Heap}
structure DefOk (P : Program) (w : World) (K : PySem.W.Frag) (mg : Str → Option Value) (base : Heap) (k : Nat) (x : Str) (n : Nat) (mf : List D → CR) : Prop where
  ex : ∃ f fd ps, mg x = some (.ref f) ∧ PySem.W.keepIn K (.ref f) = true ∧ Binds K fd ps [] ∧ FnOk P w K mg base CX0 k f fd ps (spD K n mf)
theorem DefOk.mono {j k : Nat} {x : Str} {n : Nat} {mf : List D → CR} (d : DefOk P w K mg base j x n mf) (h : j ≤ k) : DefOk P w K mg base k x n mf := by
  obtain ⟨f, fd, ps, h1, h2, h3, h4⟩ := d.ex
  exact ⟨f, fd, ps, h1, h2, h3, h4.mono h⟩
theorem def_ok {x : Str} {st : Stmt} {f : Addr} {fd : FuncData} {N ps : List Str} {k : Nat} {g : MSt} (F : Fun K x x st f fd) (hm : mg x = some (.ref f)) (S : FnScope N ps (defScope st)) (hbind : Binds K fd ps [])
    (hb : ∀ (cdv : Value) (A : Around) (outer : List Env) (s : Shared) (H : Hp) (E : XK), Room k (A.deeper (envOfC x (defScope st) s.heap.objs.size f cdv)) →
      PSsd (cxOf CX0 P w K mg base N x (defScope st) f cdv A outer s H E).nox (defBody st) g) : DefOk P w K mg base (k + 1) x ps.length (mFun N.length g) :=
  ⟨f, fd, ps, hm, F.kp, hbind, fn_d F S hb⟩
end
section
variable {X : Cx} {k : Nat} {x : Str} {p pos : Pos} {e : Expr} {es : List Expr}
theorem dcall {n : Nat} {mf : List D → CR} {fa : MA} (G : DefOk X.prog X.w X.K X.mg X.base k x n mf) (hr : Room k X.A) (hg : Gl X x) (ha : PAd X (e :: es) fa) (hl : ∀ M ds M', fa M = .ok ds M' → ds.length = n) (hn : (e :: es).length = n := by rfl)
    (hdb : (x == ("__debug__" : Str)) = false := by decide) (he : starEach (e :: es) X.env = (false, eval e X.env) :: starEach es X.env := by rfl) (hpl : (backTo pos (starEach es X.env)).any (·.1) = false := by rfl) :
    PEd X (.Call (.Name x p) (e :: es) [] pos) (mCall mf fa) := by
  obtain ⟨f, fd, ps, h1, h2, h3, h4⟩ := G.ex
  exact d_call h4 hn hr hg h1 h2 h3 ha hl hdb he hpl
end

/-! ### the law: what its def is asked -/
theorem law_sp {K : PySem.W.Frag} {mf : List D → CR} {H : Hp} {a : Addr} {ns : List Int} (hO : Only H) (hS : SqL K H a (ns.map V.int)) (h : mf [.scr (ns.map D.int)] = .ok (.bl true) false) : spD K 1 mf [.ref a] H (fun v _ => v = .bl true) fun _ _ _ => False := by
  have hF : SqF K H a (ns.map V.int) := by
    rcases hS with (z | z) | z
    · rcases hO a with y | ⟨o, xs, y⟩
      · rw [y] at z; cases z
      · rw [y] at z; cases z
    · exact .inl z
    · exact .inr z
  refine ⟨rfl, [.scr (ns.map D.int)], fun _ => False, fun _ z => z.elim, .cons ?_ .nil, ?_⟩
  · simp only [Rep]
    exact ⟨a, _, rfl, hF, Reps.ints rfl⟩
  · rw [h]
    intro v H' O' _ w
    have w' : Rep K O' H' (.bl true) v := w
    simpa only [Rep] using w'
end Mw
set_option Elab.async false
set_option linter.all false
set_option maxRecDepth 100000
/-! MIRROR, part N: the mirror of a text by a function; what the context must hold. -/
namespace Mw
open PySem PySem.Spec PyProof.Rows L2

/-- what is known of the names ahead of a block -/
structure Sc where
  N : List Str
  sc : Scope
  fn : Bool
  G : List (Str × Nat × (List D → CR))
  CI : List (Str × Int)
  CS : List (Str × Str)
  B : List Str
  wh : Nat
/-- the text's own names as they stand -/
structure Glb (P : Program) (w : World) (K : PySem.W.Frag) (mg : Str → Option Value) (base : Heap) (k : Nat) (G : List (Str × Nat × (List D → CR))) (CI : List (Str × Int)) (CS : List (Str × Str)) (B : List Str) : Prop where
  defs : ∀ p ∈ G, DefOk P w K mg base k p.1 p.2.1 p.2.2
  ci : ∀ p ∈ CI, ∃ t, mg p.1 = some (.int p.2 t)
  cs : ∀ p ∈ CS, ∃ t, mg p.1 = some (.str p.2 t)
  bl : ∀ x ∈ B, mg x = none
structure Fits (k : Nat) (S : Sc) (X : Cx) : Prop where
  N : X.N = S.N
  sc : X.env.scope = S.sc
  kd : X.env.scope.kind = .function
  nd : X.N.Nodup
  calm : X.calm = true
  fn : S.fn = true → ∀ x, X.fn x = true
  room : Room k X.A
  pass : PassesOwn (model X.prog X.w) X.A X.env X.xe
  glb : Glb X.prog X.w X.K X.mg X.base k S.G S.CI S.CS S.B

/-! ### names -/
def ixOf (x : Str) : List Str → Option Nat
  | [] => none
  | y :: r => if y = x then some 0 else (ixOf x r).map (· + 1)
theorem ixOf_get {x : Str} : ∀ {l : List Str} {i : Nat}, ixOf x l = some i → l[i]? = some x
  | [], _, h => by cases h
  | y :: r, i, h => by
    unfold ixOf at h
    split at h
    · rename_i q; cases h; rw [q]; rfl
    · cases z : ixOf x r with
      | none => rw [z] at h; cases h
      | some j => rw [z] at h; cases h; simpa using ixOf_get z
def glB (S : Sc) (x : Str) : Bool := match S.sc.names.lookup x with
  | some .globalImplicit => true
  | _ => false
def okN (x : Str) : Bool := !(x == ("__debug__" : Str)) && !(x == ("__classdict__" : Str)) && !(x == ("__name__" : Str))
theorem okN_1 {x : Str} (h : okN x = true) : (x == ("__debug__" : Str)) = false := by
  unfold okN at h; simp only [Bool.and_eq_true, Bool.not_eq_true'] at h; exact h.1.1
theorem okN_2 {x : Str} (h : okN x = true) : (x == ("__classdict__" : Str)) = false := by
  unfold okN at h; simp only [Bool.and_eq_true, Bool.not_eq_true'] at h; exact h.1.2
theorem okN_3 {x : Str} (h : okN x = true) : x ≠ "__name__" := by
  unfold okN at h; simp only [Bool.and_eq_true, Bool.not_eq_true'] at h
  have := h.2
  exact fun z => by rw [z] at this; simp at this
section
variable {k : Nat} {S : Sc} {X : Cx}
theorem Fits.gl (F : Fits k S X) {x : Str} (h : glB S x = true) : Gl X x := by
  show X.env.scope.names.lookup x = _
  rw [F.sc]
  unfold glB at h
  split at h
  · assumption
  · cases h
theorem Fits.vis (F : Fits k S X) {x : Str} (h : visB S.sc.names x = true) : Vis X.env.scope x := by
  unfold Vis
  rw [F.sc]
  unfold visB at h
  split at h
  · rename_i q; exact .inl q
  · rename_i q; exact .inr (.inl q)
  · rename_i q; exact .inr (.inr q)
  · cases h
theorem Fits.slot (F : Fits k S X) {x : Str} {i : Nat} (h : ixOf x S.N = some i) : X.N[i]? = some x := by rw [F.N]; exact ixOf_get h
end
/-- a name that is stored -/
def locB (S : Sc) (x : Str) : Bool := match S.sc.names.lookup x with
  | some .local => true
  | some .cell => S.fn
  | _ => false
theorem Fits.loc {k : Nat} {S : Sc} {X : Cx} (F : Fits k S X) {x : Str} (h : locB S x = true) : L2.Loc X.env.scope x ∧ (X.fn x = true ∨ X.env.scope.names.lookup x = some .local) := by
  unfold L2.Loc
  rw [F.sc]
  unfold locB at h
  split at h
  · rename_i q; exact ⟨.inl q, .inr q⟩
  · rename_i q; exact ⟨.inr q, .inl (F.fn h x)⟩
  · cases h
def trName (S : Sc) (x : Str) : Option ME := match ixOf x S.N with
  | some i => if (visB S.sc.names x && okN x) = true then some (mVar i) else none
  | none => if (glB S x && okN x) = true then (match S.CI.lookup x with
    | some i => some (mC (.int i))
    | none => (S.CS.lookup x).map fun y => mC (.str y)) else none
theorem name_ok {k : Nat} {S : Sc} {X : Cx} {x : Str} {pos : Pos} {f : ME} (F : Fits k S X) (h : trName S x = some f) : PEd X (.Name x pos) f := by
  unfold trName at h
  split at h
  · rename_i i e
    split at h
    · rename_i q
      simp only [Bool.and_eq_true] at q
      cases h
      exact d_var i (F.slot e) (F.vis q.1) (okN_1 q.2) (okN_2 q.2)
    · cases h
  · split at h
    · rename_i q
      simp only [Bool.and_eq_true] at q
      split at h
      · rename_i i e
        cases h
        obtain ⟨t, e1⟩ := F.glb.ci _ (lookup_mem e)
        exact d_globInt (F.gl q.1) e1 ⟨t, rfl⟩ (okN_1 q.2)
      · cases e : S.CS.lookup x with
        | none => rw [e] at h; cases h
        | some y =>
          rw [e] at h; cases h
          obtain ⟨t, e1⟩ := F.glb.cs _ (lookup_mem e)
          exact d_globStr (F.gl q.1) e1 ⟨t, rfl⟩ (okN_1 q.2)
    · cases h

/-! ### operators -/
def binG : Operator → Option G2
  | .Add => some gAdd
  | .Sub => some gSub
  | .Mult => some gMul
  | .Mod => some gMod
  | .FloorDiv => some gFDiv
  | .Pow => some gPow
  | _ => none
theorem binG_ok {X : Cx} {op : Operator} {G : G2} (h : binG op = some G) : OpD X (binaryOp op) G := by
  cases op <;> first
    | (cases h; first | exact o_add | exact o_sub | exact o_mul | exact o_mod | exact o_fdiv | exact o_pow)
    | cases h
def cmpG : CmpOp → Option G2
  | .Lt => some gLt
  | .LtE => some gLe
  | .Gt => some gGt
  | .GtE => some gGe
  | .Eq => some gEq
  | .NotEq => some gNe
  | .Is => some gIs
  | .IsNot => some gIsN
  | _ => none
theorem cmpG_ok {X : Cx} {op : CmpOp} {G : G2} (h : cmpG op = some G) : OpD X (compareOp op) G := by
  cases op <;> first
    | (cases h; first | exact o_lt | exact o_le | exact o_gt | exact o_ge | exact o_eq | exact o_ne | exact o_is | exact o_isN)
    | cases h

/-! ### argument lists -/
def isStar : Expr → Bool
  | .Starred .. => true
  | _ => false
theorem star_each {x : Expr} {r : List Expr} {env : Env} (h : isStar x = false) : starEach (x :: r) env = (false, eval x env) :: starEach r env := by
  cases x <;> first
    | rfl
    | cases h
theorem star_any {pos : Pos} {env : Env} : ∀ {r : List Expr}, r.all (fun x => !isStar x) = true → (backTo pos (starEach r env)).any (·.1) = false
  | [], _ => rfl
  | x :: r, h => by
    rw [List.all_cons, Bool.and_eq_true, Bool.not_eq_true'] at h
    rw [star_each h.1]
    have ih := star_any (pos := pos) (env := env) h.2
    unfold backTo at ih ⊢
    rw [List.map_cons, List.any_cons, ih]
    rfl
def trArgs (e : Expr → Option ME) : List Expr → Option MA
  | [] => some mNil
  | x :: r => if isStar x = true then none else (e x).bind fun f => (trArgs e r).bind fun g => some (mCons f g)
theorem args_ok {X : Cx} {e : Expr → Option ME} (he : ∀ x f, e x = some f → PEd X x f) : ∀ {es : List Expr} {f : MA}, trArgs e es = some f → PAd X es f ∧ (∀ M ds M', f M = .ok ds M' → ds.length = es.length) ∧ es.all (fun x => !isStar x) = true
  | [], f, h => by
    cases h
    exact ⟨a_nil, fun _ _ _ => len_nil, rfl⟩
  | x :: r, f, h => by
    unfold trArgs at h
    split at h
    · cases h
    · rename_i q
      simp only [Option.bind_eq_some_iff] at h
      obtain ⟨f1, e1, g, e2, h⟩ := h
      cases h
      obtain ⟨h1, h2, h3⟩ := args_ok he e2
      have q' : isStar x = false := by simpa using q
      exact ⟨a_cons (he x f1 e1) h1 (star_each q'), len_cons h2, by rw [List.all_cons, q', h3]; rfl⟩

/-! ### and, or -/
def trBoolV (op : BoolOp) (e : Expr → Option ME) : List Expr → Option ME
  | [] => none
  | [a] => e a
  | a :: b :: r => (e a).bind fun f => (trBoolV op e (b :: r)).bind fun g => some (match op with
    | .And => mAndV f g
    | .Or => mOrV f g)
theorem boolV_ok {X : Cx} {op : BoolOp} {pos : Pos} {e : Expr → Option ME} (he : ∀ x f, e x = some f → PEd X x f) : ∀ {es : List Expr} {f : ME}, trBoolV op e es = some f → PEd X (.BoolOp op es pos) f
  | [], f, h => by cases h
  | [a], f, h => d_one (he a f h)
  | a :: b :: r, f, h => by
    unfold trBoolV at h
    simp only [Option.bind_eq_some_iff] at h
    obtain ⟨f1, e1, g, e2, h⟩ := h
    have ih := boolV_ok (pos := pos) he e2
    cases op with
    | And => cases h; exact d_and (he a f1 e1) ih
    | Or => cases h; exact d_or (he a f1 e1) ih
def trBoolT (op : BoolOp) (t : Expr → Option MT) : List Expr → Option MT
  | [] => none
  | [a] => t a
  | a :: b :: r => (t a).bind fun f => (trBoolT op t (b :: r)).bind fun g => some (match op with
    | .And => mAndT f g
    | .Or => mOrT f g)
theorem boolT_ok {X : Cx} {op : BoolOp} {pos : Pos} {t : Expr → Option MT} (ht : ∀ x f, t x = some f → PTd X x f) : ∀ {es : List Expr} {f : MT}, trBoolT op t es = some f → PWd X (.BoolOp op es pos) f
  | [], f, h => by cases h
  | [a], f, h => by
    cases op with
    | And => exact w_and1 (ht a f h)
    | Or => exact w_or1 (ht a f h)
  | a :: b :: r, f, h => by
    unfold trBoolT at h
    simp only [Option.bind_eq_some_iff] at h
    obtain ⟨f1, e1, g, e2, h⟩ := h
    have ih := boolT_ok (pos := pos) ht e2
    cases op with
    | And => cases h; exact w_and (ht a f1 e1) ih
    | Or => cases h; exact w_or (ht a f1 e1) ih

/-! ### comparisons -/
def trCmp (e : Expr → Option ME) (a : Expr) : List CmpOp → List Expr → Option ME
  | [op], [b] => if behindInMarks op b = true then none else (cmpG op).bind fun G => (e a).bind fun f => (e b).bind fun g => some (mOp G f g)
  | [op, op'], [b, c] => if lastMarks [op, op'] [b, c] = true then none else (cmpG op).bind fun G => (cmpG op').bind fun G' => (e a).bind fun f => (e b).bind fun g => (e c).bind fun h => some (mChain G G' f g h)
  | _, _ => none
theorem cmp_ok {X : Cx} {pos : Pos} {e : Expr → Option ME} (he : ∀ x f, e x = some f → PEd X x f) {a : Expr} {ops : List CmpOp} {cs : List Expr} {f : ME} (h : trCmp e a ops cs = some f) :
    PEd X (.Compare a ops cs pos) f ∧ PTd X (.Compare a ops cs pos) (mTst f) := by
  unfold trCmp at h
  split at h
  · split at h
    · cases h
    · rename_i q
      have q' := by simpa using q
      simp only [Option.bind_eq_some_iff] at h
      obtain ⟨G, e1, f, e2, g, e3, h⟩ := h
      cases h
      exact ⟨d_cmp (cmpG_ok e1) (he _ _ e2) (he _ _ e3) q', d_tcmp (cmpG_ok e1) (he _ _ e2) (he _ _ e3) q'⟩
  · split at h
    · cases h
    · rename_i q
      have q' := by simpa using q
      simp only [Option.bind_eq_some_iff] at h
      obtain ⟨G, e1, G', e1', f, e2, g, e3, h', e4, h⟩ := h
      cases h
      exact ⟨d_chain (cmpG_ok e1) (cmpG_ok e1') (he _ _ e2) (he _ _ e3) (he _ _ e4) q', d_tchain (cmpG_ok e1) (cmpG_ok e1') (he _ _ e2) (he _ _ e3) (he _ _ e4) q'⟩
  · cases h

/-! ### built-in functions of one argument -/
def trB1 (x : Str) : Option G1 :=
  if x = ("len" : Str) then some gLen else if x = ("list" : Str) then some gList else if x = ("tuple" : Str) then some gTuple else if x = ("all" : Str) then some gAll else none
theorem b1_ok {k : Nat} {S : Sc} {X : Cx} {x : Str} {G : G1} {e : Expr} {f : ME} {p pos : Pos} (F : Fits k S X) (hg : glB S x = true) (hb : X.mg x = none) (h : trB1 x = some G) (he : PEd X e f) (hs : isStar e = false) : PEd X (.Call (.Name x p) [e] [] pos) (mC1 G f) := by
  unfold trB1 at h
  split at h
  · rename_i q; subst q; cases h
    exact d_callB (call_len_seq.or call_len_str) good_len (F.gl hg) hb PySem.boot_len he (by decide) (by decide) (star_each hs)
  · split at h
    · rename_i q; subst q; cases h
      exact d_callTy call_list_of good_list (F.gl hg) hb rfl he (by decide) (by decide) (star_each hs)
    · split at h
      · rename_i q; subst q; cases h
        exact d_callTy call_tuple_of good_tuple (F.gl hg) hb rfl he (by decide) (by decide) (star_each hs)
      · split at h
        · rename_i q; subst q; cases h
          exact d_callB (call_all F.calm) good_all (F.gl hg) hb rfl he (by decide) (by decide) (star_each hs)
        · cases h
/-- the types that isinstance is asked of -/
def tyName (x : Str) : Option String :=
  if x = ("int" : Str) then some "int" else if x = ("bool" : Str) then some "bool" else if x = ("str" : Str) then some "str" else if x = ("tuple" : Str) then some "tuple" else if x = ("list" : Str) then some "list" else none
theorem tyName_ok {x : Str} {c : String} (h : tyName x = some c) : bootBuiltins x = some (.type c) ∧ c ∈ ["int", "bool", "str", "tuple", "list"] ∧ x ≠ "__name__" ∧ (x == ("__debug__" : Str)) = false := by
  unfold tyName at h
  split at h
  · rename_i q; subst q; cases h; exact ⟨rfl, by decide, by decide, by decide⟩
  · split at h
    · rename_i q; subst q; cases h; exact ⟨rfl, by decide, by decide, by decide⟩
    · split at h
      · rename_i q; subst q; cases h; exact ⟨rfl, by decide, by decide, by decide⟩
      · split at h
        · rename_i q; subst q; cases h; exact ⟨rfl, by decide, by decide, by decide⟩
        · split at h
          · rename_i q; subst q; cases h; exact ⟨rfl, by decide, by decide, by decide⟩
          · cases h
end Mw
set_option Elab.async false
set_option linter.all false
set_option maxRecDepth 100000
/-! MIRROR, part O: the translator, and that it tells the truth. -/
namespace Mw
open PySem PySem.Spec PyProof.Rows L2

structure Tr where
  e : Sc → Expr → Option ME
  t : Sc → Expr → Option MT
  w : Sc → Expr → Option MA
  g : Sc → Expr → Option (MG × List Nat)
  s : Sc → Stmt → Option MSt
def Tr.bad : Tr := ⟨fun _ _ => none, fun _ _ => none, fun _ _ => none, fun _ _ => none, fun _ _ => none⟩
structure Tr.Ok (k : Nat) (T : Tr) : Prop where
  e : ∀ S x f, T.e S x = some f → ∀ X, Fits k S X → PEd X x f
  t : ∀ S x f, T.t S x = some f → ∀ X, Fits k S X → PTd X x f
  w : ∀ S x f, T.w S x = some f → ∀ X, Fits k S X → ∀ tg, PId X tg x f
  g : ∀ S x g, T.g S x = some g → ∀ X, Fits k S X → PGd X x g.1 g.2
  s : ∀ S x f, T.s S x = some f → ∀ X, Fits k S X → PSd X x f

/-! ### what is stored into -/
def trGs (g : Expr → Option (MG × List Nat)) : List Expr → Option ((List D → MS → Option MS) × List Nat)
  | [] => some (gsNil, [])
  | x :: r => if isStar x = true then none else (g x).bind fun p => (trGs g r).bind fun q => some (gsCons p.1 q.1, p.2 ++ q.2)
theorem asg_each {x : Expr} {r : List Expr} {env : Env} (h : isStar x = false) : assignEach (x :: r) env = (false, assign x env) :: assignEach r env := by
  cases x <;> first
    | rfl
    | cases h
theorem gs_ok {X : Cx} {g : Expr → Option (MG × List Nat)} (hg : ∀ x p, g x = some p → PGd X x p.1 p.2) : ∀ {es : List Expr} {q : (List D → MS → Option MS) × List Nat}, trGs g es = some q →
    PGsd X es q.1 q.2 ∧ (assignEach es X.env).length = es.length ∧ (assignEach es X.env).findIdx? (·.1) = none
  | [], q, h => by cases h; exact ⟨gs_nil, rfl, rfl⟩
  | x :: r, q, h => by
    unfold trGs at h
    split at h
    · cases h
    · rename_i z
      have z' : isStar x = false := by simpa using z
      simp only [Option.bind_eq_some_iff] at h
      obtain ⟨p, e1, q', e2, h⟩ := h
      cases h
      obtain ⟨h1, h2, h3⟩ := gs_ok hg e2
      refine ⟨gs_cons (hg x p e1) h1 (by rw [asg_each z']; rfl), by rw [asg_each z', List.length_cons, h2]; rfl, ?_⟩
      rw [asg_each z', List.findIdx?_cons, h3]
      rfl
def trG (T : Tr) (S : Sc) : Expr → Option (MG × List Nat)
  | .Name x _ => match ixOf x S.N with
    | some i => if locB S x = true then some (gNm i, [i]) else none
    | none => none
  | .Tuple es _ _ => (trGs (T.g S) es).bind fun q => some (gUn es.length q.1, q.2)
  | _ => none
theorem trG_ok {k : Nat} {T : Tr} (O : T.Ok k) {S : Sc} {x : Expr} {p : MG × List Nat} (h : trG T S x = some p) {X : Cx} (F : Fits k S X) : PGd X x p.1 p.2 := by
  unfold trG at h
  split at h
  · split at h
    · rename_i i e
      split at h
      · rename_i q
        cases h
        exact g_name i F.nd (F.slot e) (F.loc q).1 (F.loc q).2
      · cases h
    · cases h
  · simp only [Option.bind_eq_some_iff] at h
    obtain ⟨q, e1, h⟩ := h
    cases h
    obtain ⟨h1, h2, h3⟩ := gs_ok (X := X) (fun x p e => O.g S x p e X F) e1
    exact g_tup F.calm h1 h2 h3
  · cases h

/-! ### list comprehensions -/
def tgNames : Expr → List Str
  | .Name x _ => [x]
  | .Tuple es _ _ => es.filterMap fun x => match x with
    | .Name x _ => some x
    | _ => none
  | _ => []
def isSet : Expr → Bool
  | .Set .. => true
  | _ => false
theorem not_set {x : Expr} {env : Env} (h : isSet x = false) (v : Value) : foldedSetIterable x env v = pure v := by
  cases x <;> first
    | rfl
    | cases h
def Sc.comp (S : Sc) (sc : Scope) (own : List Str) : Sc :=
  { S with N := own ++ S.N.map (fun x => if own.contains x = true then x ++ ("." : Str) else x), sc := { sc with names := relS sc S.sc }, fn := false }
def trIfs (T : Tr) (S : Sc) : List Expr → Option MT
  | [] => some mNoIf
  | [c] => T.t S c
  | _ => none
def compParts (T : Tr) (S : Sc) (elt : Expr) (gens : List Comprehension) (sc : Scope) : Option (Nat × MA × MG × MT × ME) := match gens with
  | [⟨tg, iter, ifs, as⟩] =>
    if (decide (as = 0) && compOkB S.sc sc (tgNames tg) S.N (S.comp sc (tgNames tg)).N && decide (S.comp sc (tgNames tg)).N.Nodup && !isSet iter) = true then
      (T.w S iter).bind fun fi => (trG T (S.comp sc (tgNames tg)) tg).bind fun g => if g.2.all (fun t => Nat.blt t (tgNames tg).length) = true then
        (trIfs T (S.comp sc (tgNames tg)) ifs).bind fun tt => (T.e (S.comp sc (tgNames tg)) elt).bind fun te => some ((tgNames tg).length, fi, g.1, tt, te) else none
    else none
  | _ => none
def compOf (p : Nat × MA × MG × MT × ME) : ME := mComp p.1 p.2.1 p.2.2.1 p.2.2.2.1 p.2.2.2.2
theorem fits_comp {k : Nat} {S : Sc} {X : Cx} {sc : Scope} {own : List Str} (F : Fits k S X) (CO : CompOk X.env.scope sc own X.N (S.comp sc own).N) (nd : (S.comp sc own).N.Nodup) (C : Addr) (s : Shared) (H : Hp) (ex : List Addr) (pn : List (Addr × Obj)) :
    Fits k (S.comp sc own) (compCx X sc (S.comp sc own).N C s H ex pn) where
  N := rfl
  sc := by
    show relabel sc X.env = _
    show ({ sc with names := relS sc X.env.scope } : Scope) = { sc with names := relS sc S.sc }
    rw [F.sc]
  kd := CO.kind
  nd := nd
  calm := F.calm
  fn := fun h => by cases h
  room := F.room
  pass := PassesOwn.never
  glb := F.glb
theorem comp_ok {k : Nat} {T : Tr} (O : T.Ok k) {S : Sc} {elt : Expr} {gens : List Comprehension} {sc : Scope} {p : Nat × MA × MG × MT × ME} (h : compParts T S elt gens sc = some p) {X : Cx} (F : Fits k S X) :
    ∃ tg iter ifs ts, gens = [⟨tg, iter, ifs, 0⟩] ∧ p.1 = (tgNames tg).length ∧ CompOk X.env.scope sc (tgNames tg) X.N (S.comp sc (tgNames tg)).N ∧ PId X tg iter p.2.1 ∧
      (∀ C s H ex pn, PGd (compCx X sc (S.comp sc (tgNames tg)).N C s H ex pn) tg p.2.2.1 ts) ∧ (∀ C s H ex pn, PIfd (compCx X sc (S.comp sc (tgNames tg)).N C s H ex pn) ifs p.2.2.2.1) ∧
      (∀ C s H ex pn, PEd (compCx X sc (S.comp sc (tgNames tg)).N C s H ex pn) elt p.2.2.2.2) ∧ (∀ t ∈ ts, t < (tgNames tg).length) ∧ ∀ x, foldedSetIterable iter X.env x = pure x := by
  unfold compParts at h
  split at h
  · rename_i tg iter ifs as
    split at h
    · rename_i q
      simp only [Bool.and_eq_true, decide_eq_true_eq, Bool.not_eq_true'] at q
      obtain ⟨⟨⟨q1, q2⟩, q3⟩, q4⟩ := q
      subst q1
      simp only [Option.bind_eq_some_iff] at h
      obtain ⟨fi, e1, g, e2, h⟩ := h
      split at h
      · rename_i q5
        simp only [Option.bind_eq_some_iff] at h
        obtain ⟨tt, e3, te, e4, h⟩ := h
        cases h
        have CO : CompOk X.env.scope sc (tgNames tg) X.N (S.comp sc (tgNames tg)).N := by
          rw [F.sc, F.N]; exact CompOk.of q2
        have FC := fits_comp F CO q3
        refine ⟨tg, iter, ifs, g.2, rfl, rfl, CO, O.w S iter fi e1 X F tg, fun C s H ex pn => trG_ok O e2 (FC C s H ex pn), fun C s H ex pn => ?_, fun C s H ex pn => O.e _ _ _ e4 _ (FC C s H ex pn), fun t ht => ?_, not_set q4⟩
        · unfold trIfs at e3
          split at e3
          · cases e3; exact if_nil
          · exact if_one (O.t _ _ _ e3 _ (FC C s H ex pn))
          · cases e3
        · have := List.all_eq_true.mp q5 t ht
          simpa using this
      · cases h
    · cases h
  · cases h
def swapB (S : Sc) (t : Str) (l1 l2 : Nat) (sc : Scope) : Bool := (match S.sc.names.lookup t with
  | some .local => true
  | _ => false) && l1 == l2 && !(sc.names.any fun (n, k) => n == t && (k == .local || k == .cell))
theorem swap_ok {k : Nat} {S : Sc} {X : Cx} (F : Fits k S X) {elt : Expr} {gens : List Comprehension} {sc : Scope} {vp p : Pos} {t : Str} {line : Nat} :
    swapsWith (.ListComp elt gens sc vp) (some (.Name t p)) line X.env = pure (swapB S t p.line vp.line sc) := by
  have e1 : X.env.blockKind = .function := by
    unfold Env.blockKind
    rw [F.kd]
    rfl
  show (pure _ : Sem Bool) = pure _
  congr 1
  unfold swapB
  have e2 : (X.env.kindOf t == some NameKind.local) = (match S.sc.names.lookup t with
    | some .local => true
    | _ => false) := by
    unfold Env.kindOf
    rw [F.sc]
    cases S.sc.names.lookup t with
    | none => rfl
    | some q => cases q <;> rfl
  rw [e1, e2]
  rfl

/-! ### calls -/
def trRange (S : Sc) (x : Str) : Bool := decide (x = ("range" : Str)) && glB S x && S.B.contains ("range" : Str)
theorem range_ok {k : Nat} {S : Sc} {X : Cx} (F : Fits k S X) {x : Str} (h : trRange S x = true) : x = "range" ∧ Gl X "range" ∧ X.mg "range" = none := by
  unfold trRange at h
  simp only [Bool.and_eq_true, decide_eq_true_eq] at h
  obtain ⟨⟨h1, h2⟩, h3⟩ := h
  subst h1
  exact ⟨rfl, F.gl h2, F.glb.bl _ (List.contains_iff_mem.mp h3)⟩
def listRange (S : Sc) : Str → Expr → Option Expr
  | x, .Call (.Name y _) [a] [] _ => if (decide (x = ("list" : Str)) && trRange S y && !isStar a) = true then some a else none
  | _, _ => none
def isInst (S : Sc) (x : Str) : List Expr → Option (Expr × String)
  | [a, .Name c _] => if (decide (x = ("isinstance" : Str)) && glB S c && S.B.contains c && !isStar a) = true then (tyName c).map fun t => (a, t) else none
  | _ => none
def trCall (T : Tr) (S : Sc) (x : Str) (es : List Expr) : Option ME :=
  if (glB S x && okN x) = true then
    match S.G.lookup x with
    | some q => match es with
      | [] => none
      | a :: r => if (a :: r).length = q.1 then (trArgs (T.e S) (a :: r)).bind fun f => some (mCall q.2 f) else none
    | none => if S.B.contains x = true then (match isInst S x es with
      | some p => (T.e S p.1).bind fun f => some (mIsI p.2 f)
      | none => match es with
        | [a] => (match listRange S x a with
          | some b => (T.e S b).bind fun f => some (mListRange f)
          | none => if isStar a = true then none else (trB1 x).bind fun G => (T.e S a).bind fun f => some (mC1 G f))
        | _ => none) else none
  else none
theorem call_ok {k : Nat} {T : Tr} (O : T.Ok k) {S : Sc} {x : Str} {es : List Expr} {f : ME} {p pos : Pos} (h : trCall T S x es = some f) {X : Cx} (F : Fits k S X) : PEd X (.Call (.Name x p) es [] pos) f := by
  unfold trCall at h
  split at h
  · rename_i hg
    simp only [Bool.and_eq_true] at hg
    split at h
    · rename_i q e
      split at h
      · cases h
      · rename_i a r
        split at h
        · rename_i hl
          simp only [Option.bind_eq_some_iff] at h
          obtain ⟨g, e1, h⟩ := h
          cases h
          obtain ⟨h1, h2, h3⟩ := args_ok (X := X) (fun x f e => O.e S x f e X F) e1
          rw [List.all_cons, Bool.and_eq_true, Bool.not_eq_true'] at h3
          have D := F.glb.defs _ (lookup_mem e)
          exact dcall D F.room (F.gl hg.1) h1 (fun M ds M' z => (h2 M ds M' z).trans hl) hl (okN_1 hg.2) (star_each h3.1) (star_any h3.2)
        · cases h
    · split at h
      · rename_i hb
        have hb' := F.glb.bl _ (List.contains_iff_mem.mp hb)
        split at h
        · rename_i p' e
          simp only [Option.bind_eq_some_iff] at h
          obtain ⟨g, e1, h⟩ := h
          cases h
          unfold isInst at e
          split at e
          · rename_i a c pc
            split at e
            · rename_i q
              simp only [Bool.and_eq_true, decide_eq_true_eq, Bool.not_eq_true'] at q
              obtain ⟨⟨⟨q1, q2⟩, q3⟩, q4⟩ := q
              subst q1
              cases z : tyName c with
              | none => rw [z] at e; cases e
              | some t =>
                rw [z] at e; cases e
                obtain ⟨z1, z2, z3, z4⟩ := tyName_ok z
                exact d_isI (F.gl hg.1) hb' (F.gl q2) (F.glb.bl _ (List.contains_iff_mem.mp q3)) (O.e S _ _ e1 X F) z1 z2 z3 z4 (star_each q4) (by rfl)
            · cases e
          · cases e
        · split at h
          · rename_i a hn0
            split at h
            · rename_i b e
              simp only [Option.bind_eq_some_iff] at h
              obtain ⟨g, e1, h⟩ := h
              cases h
              unfold listRange at e
              split at e
              · split at e
                · rename_i q
                  simp only [Bool.and_eq_true, decide_eq_true_eq, Bool.not_eq_true'] at q
                  obtain ⟨⟨q1, q2⟩, q3⟩ := q
                  cases e
                  subst q1
                  obtain ⟨r1, r2, r3⟩ := range_ok F q2
                  subst r1
                  exact d_listRange F.calm (F.gl hg.1) hb' r2 r3 (O.e S _ _ e1 X F) (star_each q3) (by rfl)
                · cases e
              · cases e
            · split at h
              · cases h
              · rename_i q
                have q' : isStar a = false := by simpa using q
                simp only [Option.bind_eq_some_iff] at h
                obtain ⟨G, e1, g, e2, h⟩ := h
                cases h
                exact b1_ok F hg.1 hb' e1 (O.e S _ _ e2 X F) q'
          · cases h
      · cases h
  · cases h

/-! ### methods of a list that a name holds alone -/
def trMeth (T : Tr) (S : Sc) (x : Str) (m : Str) (l1 l2 : Nat) (es : List Expr) : Option ME := match ixOf x S.N with
  | some i => if (visB S.sc.names x && okN x && l1 == l2) = true then (match es with
    | [a] => if (decide (m = ("pop" : Str)) && !isStar a) = true then (T.e S a).bind fun f => some (mPopAt i f) else none
    | _ => none) else none
  | none => none
theorem meth_ok {k : Nat} {T : Tr} (O : T.Ok k) {S : Sc} {x m : Str} {es : List Expr} {f : ME} {xp apos cpos : Pos} (h : trMeth T S x m apos.endLine cpos.line es = some f) {X : Cx} (F : Fits k S X) : PEd X (.Call (.Attribute (.Name x xp) m apos) es [] cpos) f := by
  unfold trMeth at h
  split at h
  · rename_i i e
    split at h
    · rename_i q
      simp only [Bool.and_eq_true] at q
      obtain ⟨⟨q1, q2⟩, q3⟩ := q
      split at h
      · rename_i a
        split at h
        · rename_i z
          simp only [Bool.and_eq_true, decide_eq_true_eq, Bool.not_eq_true'] at z
          obtain ⟨z1, z2⟩ := z
          subst z1
          simp only [Option.bind_eq_some_iff] at h
          obtain ⟨g, e1, h⟩ := h
          cases h
          refine d_popAt i (O.e S _ _ e1 X F) (F.slot e) (F.vis q1) (okN_1 q2) (okN_2 q2) (by rfl) ?_ q3 (star_each z2)
          rw [star_each z2]
          rfl
        · cases h
      · cases h
    · cases h
  · cases h

/-! ### expressions -/
def trPart (T : Tr) (S : Sc) : Option Expr → Option MO
  | none => some mNoPart
  | some e => (T.e S e).bind fun f => some (mPart f)
theorem part_ok {k : Nat} {T : Tr} (O : T.Ok k) {S : Sc} {x : Option Expr} {f : MO} (h : trPart T S x = some f) {X : Cx} (F : Fits k S X) : POd X x f := by
  unfold trPart at h
  split at h
  · cases h; exact o_none
  · simp only [Option.bind_eq_some_iff] at h
    obtain ⟨g, e1, h⟩ := h
    cases h
    exact o_some (O.e S _ _ e1 X F)
def isSlice : Expr → Bool
  | .Slice .. => true
  | _ => false
theorem not_slice {x : Expr} (h : isSlice x = false) : PlainIx x := by
  cases x <;> first
    | exact fun _ _ => rfl
    | cases h
def trE (T : Tr) (S : Sc) : Expr → Option ME
  | .Constant (.int i) _ _ => some (mC (.int i))
  | .Constant (.bool i) _ _ => some (mC (.bl i))
  | .Constant (.str i) _ _ => some (mC (.str i))
  | .Constant .none _ _ => some (mC .non)
  | .Name x _ => trName S x
  | .UnaryOp .Not a _ => (T.e S a).bind fun f => some (mNotV f)
  | .UnaryOp .USub a _ => (T.e S a).bind fun f => some (mUn gNeg f)
  | .BinOp a op b _ => (binG op).bind fun G => (T.e S a).bind fun f => (T.e S b).bind fun g => some (mOp G f g)
  | .BoolOp op es _ => trBoolV op (T.e S) es
  | .Compare a ops cs _ => trCmp (T.e S) a ops cs
  | .IfExp c a b _ => (T.t S c).bind fun tc => (T.e S a).bind fun f => (T.e S b).bind fun g => some (mIfV tc f g)
  | .Tuple es _ _ => (trArgs (T.e S) es).bind fun f => some (mTup f)
  | .List es _ => (trArgs (T.e S) es).bind fun f => some (mLst f)
  | .Subscript a (.Slice lo hi none _) _ => (T.e S a).bind fun f => (trPart T S lo).bind fun fl => (trPart T S hi).bind fun fu => some (mSl gSl f fl fu)
  | .Subscript a b _ => if isSlice b = true then none else (T.e S a).bind fun f => (T.e S b).bind fun g => some (mOp gIx f g)
  | .ListComp elt gens sc _ => (compParts T S elt gens sc).bind fun p => some (compOf p)
  | .Call (.Name x _) es [] _ => trCall T S x es
  | .Call (.Attribute (.Name x _) m apos) es [] cpos => trMeth T S x m apos.endLine cpos.line es
  | _ => none
theorem trE_ok {k : Nat} {T : Tr} (O : T.Ok k) {S : Sc} {x : Expr} {f : ME} (h : trE T S x = some f) {X : Cx} (F : Fits k S X) : PEd X x f := by
  have he : ∀ x f, T.e S x = some f → PEd X x f := fun x f e => O.e S x f e X F
  unfold trE at h
  split at h
  · cases h; exact d_int
  · cases h; exact d_bl
  · cases h; exact d_str
  · cases h; exact d_non
  · exact name_ok F h
  · simp only [Option.bind_eq_some_iff] at h
    obtain ⟨g, e1, h⟩ := h
    cases h
    exact d_not (he _ _ e1)
  · simp only [Option.bind_eq_some_iff] at h
    obtain ⟨g, e1, h⟩ := h
    cases h
    exact d_un o_neg (he _ _ e1)
  · simp only [Option.bind_eq_some_iff] at h
    obtain ⟨G, e1, f, e2, g, e3, h⟩ := h
    cases h
    exact d_op (binG_ok e1) (he _ _ e2) (he _ _ e3)
  · exact boolV_ok he h
  · exact (cmp_ok he h).1
  · simp only [Option.bind_eq_some_iff] at h
    obtain ⟨tc, e1, f, e2, g, e3, h⟩ := h
    cases h
    exact d_ifV (O.t S _ _ e1 X F) (he _ _ e2) (he _ _ e3)
  · simp only [Option.bind_eq_some_iff] at h
    obtain ⟨g, e1, h⟩ := h
    cases h
    exact d_tup (args_ok he e1).1
  · simp only [Option.bind_eq_some_iff] at h
    obtain ⟨g, e1, h⟩ := h
    cases h
    exact d_lst (args_ok he e1).1
  · simp only [Option.bind_eq_some_iff] at h
    obtain ⟨g, e1, fl, e2, fu, e3, h⟩ := h
    cases h
    exact d_sl sl_any good_sl (he _ _ e1) (part_ok O e2 F) (part_ok O e3 F)
  · split at h
    · cases h
    · rename_i q
      have q' := by simpa using q
      simp only [Option.bind_eq_some_iff] at h
      obtain ⟨f, e1, g, e2, h⟩ := h
      cases h
      exact d_ix (he _ _ e1) (he _ _ e2) (not_slice q')
  · simp only [Option.bind_eq_some_iff] at h
    obtain ⟨p, e1, h⟩ := h
    cases h
    obtain ⟨tg, iter, ifs, ts, rfl, hn, CO, hi, hg, ht, hel, hts, hs⟩ := comp_ok O e1 F
    unfold compOf
    rw [hn]
    exact d_comp F.calm CO hi hg ht hel hts hs
  · exact call_ok O h F
  · exact meth_ok O h F
  · cases h

/-! ### tests -/
def plainT : Expr → Bool
  | .UnaryOp .Not _ _ => false
  | .BoolOp .. => false
  | .IfExp .. => false
  | .Compare .. => false
  | _ => true
theorem plainT_ok {x : Expr} {env : Env} (h : plainT x = true) (whole : Sem Value) : PySem.isTrue x env whole = (do let v ← whole; standAt x.pos; holding [v] (truthy v)) := by
  cases x with
  | UnaryOp op a p => cases op <;> first | rfl | cases h
  | BoolOp => cases h
  | IfExp => cases h
  | Compare => cases h
  | _ => rfl
def trT (T : Tr) (S : Sc) : Expr → Option MT
  | .UnaryOp .Not a _ => (T.t S a).bind fun f => some (mNotT f)
  | .BoolOp op es _ => trBoolT op (T.t S) es
  | .Compare a ops cs _ => (trCmp (T.e S) a ops cs).bind fun f => some (mTst f)
  | x => if plainT x = true then (T.e S x).bind fun f => some (mTru f) else none
theorem trT_ok {k : Nat} {T : Tr} (O : T.Ok k) {S : Sc} {x : Expr} {f : MT} (h : trT T S x = some f) {X : Cx} (F : Fits k S X) : PTd X x f := by
  unfold trT at h
  split at h
  · simp only [Option.bind_eq_some_iff] at h
    obtain ⟨g, e1, h⟩ := h
    cases h
    exact d_tnot (O.t S _ _ e1 X F)
  · exact (boolT_ok (fun x f e => O.t S x f e X F) h).pt
  · simp only [Option.bind_eq_some_iff] at h
    obtain ⟨g, e1, h⟩ := h
    cases h
    exact (cmp_ok (fun x f e => O.e S x f e X F) e1).2
  · split at h
    · rename_i q
      simp only [Option.bind_eq_some_iff] at h
      obtain ⟨g, e1, h⟩ := h
      cases h
      exact d_tru (O.e S _ _ e1 X F) (plainT_ok q)
    · cases h

/-! ### what is walked -/
def rangeArg (S : Sc) : Expr → Option Expr
  | .Call (.Name x _) [a] [] _ => if (trRange S x && !isStar a) = true then some a else none
  | _ => none
def trW (T : Tr) (S : Sc) (x : Expr) : Option MA := match rangeArg S x with
  | some a => (T.e S a).bind fun f => some (mRange f)
  | none => (T.e S x).bind fun f => some (mIter f)
theorem trW_ok {k : Nat} {T : Tr} (O : T.Ok k) {S : Sc} {x : Expr} {f : MA} (h : trW T S x = some f) {X : Cx} (F : Fits k S X) (tg : Expr) : PId X tg x f := by
  unfold trW at h
  split at h
  · rename_i a e
    simp only [Option.bind_eq_some_iff] at h
    obtain ⟨g, e1, h⟩ := h
    cases h
    unfold rangeArg at e
    split at e
    · split at e
      · rename_i q
        simp only [Bool.and_eq_true, Bool.not_eq_true'] at q
        cases e
        obtain ⟨r1, r2, r3⟩ := range_ok F q.1
        subst r1
        exact i_range r2 r3 (O.e S _ _ e1 X F) (star_each q.2)
      · cases e
    · cases e
  · simp only [Option.bind_eq_some_iff] at h
    obtain ⟨g, e1, h⟩ := h
    cases h
    exact i_seq (O.e S _ _ e1 X F)

/-! ### statements -/
def trB (s : Stmt → Option MSt) : List Stmt → Option MSt
  | [] => some mNext
  | [a] => s a
  | a :: b :: r => (s a).bind fun f => (trB s (b :: r)).bind fun g => some (mSeq f g)
theorem trB_ok {X : Cx} {s : Stmt → Option MSt} (hs : ∀ x f, s x = some f → PSd X x f) : ∀ {l : List Stmt} {f : MSt}, trB s l = some f → PSsd X l f
  | [], f, h => by cases h; exact ss_nil
  | [a], f, h => ss_one (hs a f h)
  | a :: b :: r, f, h => by
    unfold trB at h
    simp only [Option.bind_eq_some_iff] at h
    obtain ⟨f1, e1, g, e2, h⟩ := h
    cases h
    exact ss_cons (hs a f1 e1) (trB_ok hs e2)
def isComp : Expr → Bool
  | .ListComp .. => true
  | .SetComp .. => true
  | .DictComp .. => true
  | _ => false
theorem no_swap {x : Expr} {t : Option Expr} {line : Nat} {env : Env} (h : isComp x = false) : swapsWith x t line env = pure false := by
  cases x <;> first
    | rfl
    | cases h
def isTup : Expr → Bool
  | .Tuple .. => true
  | _ => false
theorem no_swaps {t x : Expr} {env : Env} (h : isTup x = false) : swappedStores [t] x env = pure none := by
  cases t <;> cases x <;> first
    | rfl
    | cases h
def trAsg (T : Tr) (S : Sc) (t : Expr) (v : Expr) : Option MSt := match t with
  | .Name x p => match ixOf x S.N with
    | some i => if locB S x = true then (match v with
      | .ListComp elt gens sc vp => (compParts T S elt gens sc).bind fun q => some (mSet i (compOf q))
      | v => if isComp v = true then none else (T.e S v).bind fun f => some (mSet i f)) else none
    | none => none
  | .Tuple es n p => if (isComp v || isTup v) = true then none else (T.e S v).bind fun f => (trG T S (.Tuple es n p)).bind fun g => some (mAsg g.1 f)
  | _ => none
theorem trAsg_ok {k : Nat} {T : Tr} (O : T.Ok k) {S : Sc} {t v : Expr} {f : MSt} {pos : Pos} (h : trAsg T S t v = some f) {X : Cx} (F : Fits k S X) : PSd X (.Assign [t] v pos) f := by
  unfold trAsg at h
  split at h
  · rename_i x p
    split at h
    · rename_i i e
      split at h
      · rename_i q
        split at h
        · rename_i elt gens sc vp
          simp only [Option.bind_eq_some_iff] at h
          obtain ⟨p', e1, h⟩ := h
          cases h
          obtain ⟨tg, iter, ifs, ts, rfl, hn, CO, hi, hg, ht, hel, hts, hs⟩ := comp_ok O e1 F
          unfold compOf
          rw [hn]
          cases hw : swapB S x p.line vp.line sc with
          | true =>
            have hl : X.env.scope.names.lookup x = some .local := by
              rw [F.sc]
              unfold swapB at hw
              simp only [Bool.and_eq_true] at hw
              have := hw.1.1
              split at this
              · assumption
              · cases this
            exact s_setComp i F.nd F.calm CO hi hg ht hel hts (F.slot e) hl ((swap_ok F).trans (by rw [hw])) hs
          | false => exact s_set i F.nd (d_comp F.calm CO hi hg ht hel hts hs) (F.slot e) (F.loc q).1 ((swap_ok F).trans (by rw [hw])) (F.loc q).2
        · split at h
          · cases h
          · rename_i z
            have z' := by simpa using z
            simp only [Option.bind_eq_some_iff] at h
            obtain ⟨g, e1, h⟩ := h
            cases h
            exact s_set i F.nd (O.e S _ _ e1 X F) (F.slot e) (F.loc q).1 (no_swap z') (F.loc q).2
      · cases h
    · cases h
  · split at h
    · cases h
    · rename_i z
      simp only [Bool.or_eq_true, not_or, Bool.not_eq_true] at z
      simp only [Option.bind_eq_some_iff] at h
      obtain ⟨g, e1, q, e2, h⟩ := h
      cases h
      exact s_asg (O.e S _ _ e1 X F) (trG_ok O e2 F) (by unfold swapsWithSole; exact no_swap z.1) (no_swaps z.2) rfl
  · cases h
def trS (T : Tr) (S : Sc) : Stmt → Option MSt
  | .Return none _ => some mRetN
  | .Return (some e) _ => (T.e S e).bind fun f => some (mRet f)
  | .If c a b _ => (T.t S c).bind fun tc => (trB (T.s S) a).bind fun f => (trB (T.s S) b).bind fun g => some (mIf tc f g)
  | .Assign [t] v _ => trAsg T S t v
  | .For tg iter body [] _ => if isSet iter = true then none else (T.w S iter).bind fun fi => (trG T S tg).bind fun g => (trB (T.s S) body).bind fun fb => some (mFor fi g.1 fb)
  | .While c body [] _ => (T.t S c).bind fun tc => (trB (T.s S) body).bind fun fb => some (mWhl tc fb S.wh)
  | .Expr e _ => if isComp e = true then none else (T.e S e).bind fun f => some (mDrop f)
  | .Pass _ => some mNext
  | .Break _ => some mBrk
  | .Continue _ => some mCt
  | _ => none
theorem trS_ok {k : Nat} {T : Tr} (O : T.Ok k) {S : Sc} {x : Stmt} {f : MSt} (h : trS T S x = some f) {X : Cx} (F : Fits k S X) : PSd X x f := by
  have hs : ∀ x f, T.s S x = some f → PSd X x f := fun x f e => O.s S x f e X F
  unfold trS at h
  split at h
  · cases h; exact s_retN
  · simp only [Option.bind_eq_some_iff] at h
    obtain ⟨g, e1, h⟩ := h
    cases h
    exact s_ret (O.e S _ _ e1 X F)
  · simp only [Option.bind_eq_some_iff] at h
    obtain ⟨tc, e1, f, e2, g, e3, h⟩ := h
    cases h
    exact s_if (O.t S _ _ e1 X F) (trB_ok hs e2) (trB_ok hs e3)
  · exact trAsg_ok O h F
  · split at h
    · cases h
    · rename_i q
      have q' := by simpa using q
      simp only [Option.bind_eq_some_iff] at h
      obtain ⟨fi, e1, g, e2, fb, e3, h⟩ := h
      cases h
      exact s_for F.pass F.calm (O.w S _ _ e1 X F _) (trG_ok O e2 F) (trB_ok hs e3) (not_set q')
  · simp only [Option.bind_eq_some_iff] at h
    obtain ⟨tc, e1, fb, e2, h⟩ := h
    cases h
    exact s_while S.wh F.pass (O.t S _ _ e1 X F) (trB_ok hs e2)
  · split at h
    · cases h
    · rename_i q
      have q' := by simpa using q
      simp only [Option.bind_eq_some_iff] at h
      obtain ⟨g, e1, h⟩ := h
      cases h
      exact s_expr (O.e S _ _ e1 X F) (no_swap q')
  · cases h; exact s_pass
  · cases h; exact s_brk
  · cases h; exact s_ct
  · cases h

/-! ### the whole -/
def tr : Nat → Tr
  | 0 => .bad
  | n + 1 => ⟨trE (tr n), trT (tr n), trW (tr n), trG (tr n), trS (tr n)⟩
theorem tr_ok (k : Nat) : ∀ n, (tr n).Ok k
  | 0 => ⟨fun _ _ _ h => (nomatch h), fun _ _ _ h => (nomatch h), fun _ _ _ h => (nomatch h), fun _ _ _ h => (nomatch h), fun _ _ _ h => (nomatch h)⟩
  | n + 1 => ⟨fun _ _ _ h _ F => trE_ok (tr_ok k n) h F, fun _ _ _ h _ F => trT_ok (tr_ok k n) h F, fun _ _ _ h _ F tg => trW_ok (tr_ok k n) h F tg, fun _ _ _ h _ F => trG_ok (tr_ok k n) h F, fun _ _ _ h _ F => trS_ok (tr_ok k n) h F⟩
def trBody (n : Nat) (S : Sc) (l : List Stmt) : Option MSt := trB ((tr n).s S) l
end Mw
set_option Elab.async false
set_option linter.all false
set_option maxRecDepth 100000
/-! MIRROR, part P: a def by its translation. -/
namespace Mw
open PySem PySem.Spec PyProof.Rows L2
section
variable {P : Program} {w : World} {K : PySem.W.Frag} {mg : Str → Option Value} {base : Heap} {G : List (Str × Nat × (List D → CR))} {CI : List (Str × Int)} {CS : List (Str × Str)} {B : List Str}
def mkSc (N : List Str) (st : Stmt) (G : List (Str × Nat × (List D → CR))) (CI : List (Str × Int)) (CS : List (Str × Str)) (B : List Str) (wh : Nat) : Sc := ⟨N, defScope st, true, G, CI, CS, B, wh⟩
theorem fits_def {x : Str} {st : Stmt} {f : Addr} {N ps : List Str} {k wh : Nat} {cdv : Value} {A : Around} {outer : List Env} {s : Shared} {H : Hp} {E : XK} (FS : FnScope N ps (defScope st)) (g : Glb P w K mg base k G CI CS B) (rm : Room k (A.deeper (envOfC x (defScope st) s.heap.objs.size f cdv))) :
    Fits k (mkSc N st G CI CS B wh) (cxOf CX0 P w K mg base N x (defScope st) f cdv A outer s H E).nox where
  N := rfl
  sc := rfl
  kd := FS.kind
  nd := FS.nd
  calm := rfl
  fn := fun _ _ => rfl
  room := rm
  pass := PassesOwn.never
  glb := g
theorem def_tr {x : Str} {st : Stmt} {f : Addr} {fd : FuncData} {N ps : List Str} {k n wh : Nat} {b : MSt} (F : Fun K x x st f fd) (hm : mg x = some (.ref f)) (FS : FnScope N ps (defScope st)) (hbind : Binds K fd ps []) (g : Glb P w K mg base k G CI CS B)
    (h : trBody n (mkSc N st G CI CS B wh) (defBody st) = some b) : DefOk P w K mg base (k + 1) x ps.length (mFun N.length b) :=
  def_ok F hm FS hbind fun cdv A outer s H E rm => trB_ok (fun y f e => (tr_ok k n).s _ y f e _ (fits_def FS g rm)) h
theorem law_tr {x : Str} {st : Stmt} {f : Addr} {fd : FuncData} {N ps : List Str} {k n wh : Nat} {b : MSt} (F : Fun K x x st f fd) (FS : FnScope N ps (defScope st)) (g : Glb P w K mg base k G CI CS B)
    (h : trBody n (mkSc N st G CI CS B wh) (defBody st) = some b) : FnOk P w K mg base CX0 (k + 1) f fd ps (spD K ps.length (mFun N.length b)) :=
  fn_d F FS fun cdv A outer s H E rm => trB_ok (fun y f e => (tr_ok k n).s _ y f e _ (fits_def FS g rm)) h
theorem Glb.add {x : Str} {n k : Nat} {mf : List D → CR} (g : Glb P w K mg base k G CI CS B) (d : DefOk P w K mg base (k + 1) x n mf) : Glb P w K mg base (k + 1) ((x, n, mf) :: G) CI CS B where
  defs := fun p hp => by
    rcases List.mem_cons.mp hp with z | z
    · rw [z]; exact d
    · exact (g.defs p z).mono (Nat.le_succ k)
  ci := g.ci
  cs := g.cs
  bl := g.bl
theorem Glb.start (ci : ∀ p ∈ CI, ∃ t, mg p.1 = some (.int p.2 t)) (cs : ∀ p ∈ CS, ∃ t, mg p.1 = some (.str p.2 t)) (bl : ∀ x ∈ B, mg x = none) : Glb P w K mg base 0 [] CI CS B := ⟨fun _ h => (nomatch h), ci, cs, bl⟩
end
end Mw
set_option Elab.async false
set_option linter.all false
set_option maxRecDepth 100000
/-! MIRROR, part Q: how a mirror is reckoned. -/
namespace Mw
open PySem L2

def SR.thn (r : SR) (g : MSt) : SR := match r with
  | .nx M => g M
  | r => r
@[simp] theorem SR.thn_nx (M : MS) (g : MSt) : (SR.nx M).thn g = g M := rfl
@[simp] theorem SR.thn_ret (d : D) (o : Bool) (g : MSt) : (SR.ret d o).thn g = .ret d o := rfl
@[simp] theorem SR.thn_brk (M : MS) (g : MSt) : (SR.brk M).thn g = .brk M := rfl
@[simp] theorem SR.thn_ct (M : MS) (g : MSt) : (SR.ct M).thn g = .ct M := rfl
@[simp] theorem SR.thn_exc (c : Nat) (M : MS) (g : MSt) : (SR.exc c M).thn g = .exc c M := rfl
@[simp] theorem SR.thn_bad (g : MSt) : SR.bad.thn g = .bad := rfl
@[simp] theorem ev_seq (f g : MSt) (M : MS) : mSeq f g M = (f M).thn g := rfl
def CR.of (r : SR) : CR := match r with
  | .ret d o => .ok d o
  | .nx _ => .ok .non false
  | .exc c _ => .exc c
  | _ => .bad
@[simp] theorem CR.of_ret (d : D) (o : Bool) : CR.of (.ret d o) = .ok d o := rfl
@[simp] theorem CR.of_nx (M : MS) : CR.of (.nx M) = .ok .non false := rfl
@[simp] theorem CR.of_exc (c : Nat) (M : MS) : CR.of (.exc c M) = .exc c := rfl
theorem ev_fun (n : Nat) (g : MSt) (ds : List D) : mFun n g ds = CR.of (g (mStart n ds)) := rfl
@[simp] theorem ev_start (n : Nat) (ds : List D) : mStart n ds = ds.map (fun d => some (d, false)) ++ List.replicate (n - ds.length) none := rfl
def giveR (t : T) (M : MS) : SR := match t.give M with
  | some (d, o) => .ret d o
  | none => .bad
@[simp] theorem giveR_val (d : D) (o : Bool) (M : MS) : giveR (.val d o) M = .ret d o := rfl
@[simp] theorem ev_ret (f : ME) (M : MS) : mRet f M = (f M).to giveR := rfl
@[simp] theorem ev_retN (M : MS) : mRetN M = .ret .non false := rfl
@[simp] theorem ev_next (M : MS) : mNext M = .nx M := rfl
@[simp] theorem ev_brk (M : MS) : mBrk M = .brk M := rfl
@[simp] theorem ev_ct (M : MS) : mCt M = .ct M := rfl
@[simp] theorem ev_drop (f : ME) (M : MS) : mDrop f M = (f M).to fun _ M => .nx M := rfl
def pick (f g : MSt) (b : Bool) (M : MS) : SR := if b = true then f M else g M
@[simp] theorem pick_t (f g : MSt) (M : MS) : pick f g true M = f M := rfl
@[simp] theorem pick_f (f g : MSt) (M : MS) : pick f g false M = g M := rfl
@[simp] theorem ev_if (c : MT) (f g : MSt) (M : MS) : mIf c f g M = (c M).to (pick f g) := rfl
def putR (i : Nat) (t : T) (M : MS) : SR := match put i t M with
  | some M' => .nx M'
  | none => .bad
@[simp] theorem putR_val (i : Nat) (d : D) (o : Bool) (M : MS) : putR i (.val d o) M = .nx (M.set i (some (d, o))) := rfl
@[simp] theorem ev_set (i : Nat) (f : ME) (M : MS) : mSet i f M = (f M).to (putR i) := rfl
def varR (o : Option (Option (D × Bool))) (i : Nat) (M : MS) : Res T := match o with
  | some (some (d, true)) => .ok (.var i) M
  | some (some (d, false)) => .ok (.val d false) M
  | _ => .bad
@[simp] theorem varR_s (d : D) (i : Nat) (M : MS) : varR (some (some (d, false))) i M = .ok (.val d false) M := rfl
@[simp] theorem varR_o (d : D) (i : Nat) (M : MS) : varR (some (some (d, true))) i M = .ok (.var i) M := rfl
@[simp] theorem ev_var (i : Nat) (M : MS) : mVar i M = varR M[i]? i M := rfl
@[simp] theorem ev_c (d : D) (M : MS) : mC d M = .ok (.val d false) M := rfl
@[simp] theorem see_val (d : D) (o : Bool) (M : MS) : T.see M (.val d o) = some d := rfl
def seeO (o : Option (Option (D × Bool))) : Option D := match o with
  | some (some (d, _)) => some d
  | _ => none
@[simp] theorem seeO_s (p : D × Bool) : seeO (some (some p)) = some p.1 := rfl
@[simp] theorem see_var (i : Nat) (M : MS) : T.see M (.var i) = seeO M[i]? := rfl
@[simp] theorem take_val (d : D) (o : Bool) (M : MS) : T.take M (.val d o) = some (d, M) := rfl
def takeO (o : Option (Option (D × Bool))) (i : Nat) (M : MS) : Option (D × MS) := match o with
  | some (some (d, _)) => some (d, M.set i (some (d, false)))
  | _ => none
@[simp] theorem takeO_s (p : D × Bool) (i : Nat) (M : MS) : takeO (some (some p)) i M = some (p.1, M.set i (some (p.1, false))) := rfl
@[simp] theorem take_var (i : Nat) (M : MS) : T.take M (.var i) = takeO M[i]? i M := rfl
def giveO (o : Option (Option (D × Bool))) : SR := match o with
  | some (some (d, o)) => .ret d o
  | _ => .bad
@[simp] theorem giveO_s (p : D × Bool) : giveO (some (some p)) = .ret p.1 p.2 := rfl
@[simp] theorem giveR_var (i : Nat) (M : MS) : giveR (.var i) M = giveO M[i]? := by
  unfold giveR giveO
  simp only [T.give]
  cases M[i]? with
  | none => rfl
  | some c => cases c with
    | none => rfl
    | some p => rfl
@[simp] theorem putR_var (i j : Nat) (M : MS) : putR i (.var j) M = (match takeO M[j]? j M with
    | some p => .nx (p.2.set i (some (p.1, false)))
    | none => .bad) := by
  show (match (T.take M (.var j)).map _ with | some M' => SR.nx M' | none => .bad) = _
  rw [take_var]
  cases takeO M[j]? j M <;> rfl
def finR (o : Option (D × Bool)) (M : MS) : Res T := match o with
  | some p => .ok (.val p.1 p.2) M
  | none => .bad
@[simp] theorem finR_s (p : D × Bool) (M : MS) : finR (some p) M = .ok (.val p.1 p.2) M := rfl
theorem Res.bind_assoc {α β γ : Type} (r : Res α) (f : α → MS → Res β) (g : β → MS → Res γ) : (r.bind f).bind g = r.bind fun a M => (f a M).bind g := by cases r <;> rfl
theorem opt_fin (o : Option (D × Bool)) (M : MS) : ((Res.opt o M).bind fun p M => Res.ok (T.val p.1 p.2) M) = finR o M := by cases o <;> rfl
theorem ev_fin2 (G : G2) (t1 t2 : T) (M : MS) : fin2 G t1 t2 M = (Res.opt (t1.see M) M).bind fun d1 M => (Res.opt (t2.see M) M).bind fun d2 M => finR (G d1 d2) M := by
  unfold fin2
  simp only [opt_fin]
@[simp] theorem ev_op (G : G2) (f g : ME) (M : MS) : mOp G f g M = (f M).bind fun t1 M => (g M).bind fun t2 M => (Res.opt (t1.see M) M).bind fun d1 M => (Res.opt (t2.see M) M).bind fun d2 M => finR (G d1 d2) M := by
  unfold mOp
  congr 1; funext t1 M; congr 1; funext t2 M
  exact ev_fin2 G t1 t2 M
def boolR (o : Option D) (M : MS) : Res Bool := match o with
  | some (.bl b) => .ok b M
  | _ => .bad
@[simp] theorem boolR_s (b : Bool) (M : MS) : boolR (some (.bl b)) M = .ok b M := rfl
@[simp] theorem ev_bool1 (t : T) (M : MS) : bool1 t M = boolR (t.see M) M := rfl
def intR (o : Option D) (M : MS) : Res Int := match o with
  | some (.int b) => .ok b M
  | _ => .bad
@[simp] theorem intR_s (b : Int) (M : MS) : intR (some (.int b)) M = .ok b M := rfl
@[simp] theorem ev_int1 (t : T) (M : MS) : int1 t M = intR (t.see M) M := rfl
@[simp] theorem ev_tst (f : ME) (M : MS) : mTst f M = (f M).bind fun t M => boolR (t.see M) M := rfl
@[simp] theorem ev_tru (f : ME) (M : MS) : mTru f M = (f M).bind fun t M => (Res.opt (t.see M) M).bind fun d M => Res.opt d.truth M := rfl
@[simp] theorem ev_andT (f g : MT) (M : MS) : mAndT f g M = (f M).bind fun b M => if b = true then g M else .ok false M := rfl
@[simp] theorem ev_orT (f g : MT) (M : MS) : mOrT f g M = (f M).bind fun b M => if b = true then .ok true M else g M := rfl
@[simp] theorem ev_notT (f : MT) (M : MS) : mNotT f M = (f M).bind fun b M => .ok (!b) M := rfl
@[simp] theorem ev_andV (f g : ME) (M : MS) : mAndV f g M = (f M).bind fun t M => (boolR (t.see M) M).bind fun b M => if b = true then g M else .ok (.val (.bl false) false) M := rfl
@[simp] theorem ev_orV (f g : ME) (M : MS) : mOrV f g M = (f M).bind fun t M => (boolR (t.see M) M).bind fun b M => if b = true then .ok (.val (.bl true) false) M else g M := rfl
@[simp] theorem ev_notV (f : ME) (M : MS) : mNotV f M = (f M).bind fun t M => (boolR (t.see M) M).bind fun b M => .ok (.val (.bl (!b)) false) M := rfl
@[simp] theorem ev_ifV (c : MT) (f g : ME) (M : MS) : mIfV c f g M = (c M).bind fun b M => if b = true then f M else g M := rfl
@[simp] theorem ev_chain (G G' : G2) (f g h : ME) (M : MS) : mChain G G' f g h M = (f M).bind fun t1 M => (g M).bind fun t2 M => (Res.opt (t1.see M) M).bind fun d1 M => (Res.opt (t2.see M) M).bind fun d2 M => (finR (G d1 d2) M).bind fun z M => (boolR (z.see M) M).bind fun k M =>
    if k = true then (h M).bind fun t3 M => (Res.opt (t2.see M) M).bind fun d1 M => (Res.opt (t3.see M) M).bind fun d2 M => finR (G' d1 d2) M else .ok (.val (.bl false) false) M := by
  unfold mChain
  simp only [ev_fin2, Res.bind_assoc]
  rfl
@[simp] theorem ev_nil (M : MS) : mNil M = .ok [] M := rfl
@[simp] theorem ev_cons (f : ME) (g : MA) (M : MS) : mCons f g M = (f M).bind fun t M => (Res.opt (t.take M) M).bind fun p _ => (g p.2).bind fun ds M => .ok (p.1 :: ds) M := rfl
@[simp] theorem ev_tup (f : MA) (M : MS) : mTup f M = (f M).bind fun ds M => Res.chk (fits ds.length) (.ok (.val (.tup ds) false) M) := rfl
@[simp] theorem ev_lst (f : MA) (M : MS) : mLst f M = (f M).bind fun ds M => Res.chk (fits ds.length) (.ok (.val (.lst ds) true) M) := rfl
@[simp] theorem ev_c1 (G : G1) (f : ME) (M : MS) : mC1 G f M = (f M).bind fun t M => (Res.opt (t.see M) M).bind fun d M => finR (G d) M := by
  unfold mC1
  simp only [opt_fin]
@[simp] theorem ev_noPart (M : MS) : mNoPart M = .ok none M := rfl
@[simp] theorem ev_part (f : ME) (M : MS) : mPart f M = (f M).bind fun t M => (intR (t.see M) M).bind fun i M => .ok (some i) M := rfl
@[simp] theorem ev_sl (G : G3) (f : ME) (fl fu : MO) (M : MS) : mSl G f fl fu M = (f M).bind fun t M => (fl M).bind fun lo M => (fu M).bind fun hi M => (Res.opt (t.see M) M).bind fun d M => finR (G d lo hi) M := by
  unfold mSl
  simp only [opt_fin]
def callR (r : CR) (M : MS) : Res T := match r with
  | .ok d o => .ok (.val d o) M
  | .exc c => .exc c M
  | .bad => .bad
@[simp] theorem callR_ok (d : D) (o : Bool) (M : MS) : callR (.ok d o) M = .ok (.val d o) M := rfl
@[simp] theorem callR_exc (c : Nat) (M : MS) : callR (.exc c) M = .exc c M := rfl
@[simp] theorem ev_call (mf : List D → CR) (fa : MA) (M : MS) : mCall mf fa M = (fa M).bind fun ds M => callR (mf ds) M := rfl
@[simp] theorem ev_isI (c : String) (f : ME) (M : MS) : mIsI c f M = (f M).bind fun t M => (Res.opt (t.see M) M).bind fun d M => .ok (.val (.bl (isTy d.ty c)) false) M := rfl
def rngL (n : Int) : Bool := decide (-(2 ^ 62) ≤ n) && decide (n ≤ 16777216)
def rngB (n : Int) : Bool := decide (-(2 ^ 62) ≤ n) && decide (n < 2 ^ 62)
theorem rngL_ok {n : Int} (h0 : -1000000 ≤ n) (h1 : n ≤ 1000000) : rngL n = true := by
  unfold rngL; simp only [Bool.and_eq_true, decide_eq_true_eq]; omega
theorem rngB_ok {n : Int} (h0 : -1000000 ≤ n) (h1 : n ≤ 1000000) : rngB n = true := by
  unfold rngB; simp only [Bool.and_eq_true, decide_eq_true_eq]; omega
@[simp] theorem rngB_nat {n : Nat} (h : n ≤ 1000000) : rngB (n : Int) = true := rngB_ok (by omega) (by omega)
@[simp] theorem rngL_nat {n : Nat} (h : n ≤ 1000000) : rngL (n : Int) = true := rngL_ok (by omega) (by omega)
@[simp] theorem ev_listRange (f : ME) (M : MS) : mListRange f M = (f M).bind fun t M => (intR (t.see M) M).bind fun n M => Res.chk (rngL n) (.ok (.val (.lst (upTo n)) true) M) := rfl
@[simp] theorem ev_range (f : ME) (M : MS) : mRange f M = (f M).bind fun t M => (intR (t.see M) M).bind fun n M => Res.chk (rngB n) (.ok (upTo n) M) := rfl
@[simp] theorem upTo_len (n : Int) : (upTo n).length = n.toNat := by simp [upTo]
/-! ### the operations upon ints -/
@[simp] theorem add_ii (i j : Int) : gAdd (.int i) (.int j) = some (.int (i + j), false) := rfl
@[simp] theorem sub_ii (i j : Int) : Mw.gSub (.int i) (.int j) = some (.int (i - j), false) := rfl
@[simp] theorem mod_ii {i j : Int} (h : 0 < j) : gMod (.int i) (.int j) = some (.int (i % j), false) := by simp [gMod, gI, h]
@[simp] theorem fdiv_ii {i j : Int} (h : 0 < j) (h2 : j < 1073741824) : gFDiv (.int i) (.int j) = some (.int (i / j), false) := by simp [gFDiv, gI, h, h2]
@[simp] theorem lt_ii (i j : Int) : gLt (.int i) (.int j) = some (.bl (decide (i < j)), false) := rfl
@[simp] theorem le_ii (i j : Int) : gLe (.int i) (.int j) = some (.bl (decide (i ≤ j)), false) := rfl
@[simp] theorem gt_ii (i j : Int) : gGt (.int i) (.int j) = some (.bl (decide (j < i)), false) := rfl
@[simp] theorem ge_ii (i j : Int) : gGe (.int i) (.int j) = some (.bl (decide (j ≤ i)), false) := rfl
@[simp] theorem eq_ii (i j : Int) : gEq (.int i) (.int j) = some (.bl (decide (i = j)), false) := rfl
@[simp] theorem ne_ii (i j : Int) : gNe (.int i) (.int j) = some (.bl (!decide (i = j)), false) := rfl
@[simp] theorem neg_i (i : Int) : gNeg (.int i) = some (.int (-i), false) := rfl
@[simp] theorem is_b (d : D) (b : Bool) : gIs d (.bl b) = some (.bl (isB d b), false) := by cases d <;> rfl
@[simp] theorem is_n (d : D) : gIs d .non = some (.bl (isNn d), false) := by cases d <;> rfl
@[simp] theorem isN_b (d : D) (b : Bool) : gIsN d (.bl b) = some (.bl (!isB d b), false) := by cases d <;> rfl
@[simp] theorem isN_n (d : D) : gIsN d .non = some (.bl (!isNn d), false) := by cases d <;> rfl
@[simp] theorem isB_b (a b : Bool) : isB (.bl a) b = (a == b) := rfl
theorem mulOk_r {i j : Int} (h1 : -18446744073709551616 < j) (h2 : j < 18446744073709551616) : mulOk i j = true := by
  unfold mulOk; simp only [Bool.or_eq_true, Bool.and_eq_true, decide_eq_true_eq]; omega
theorem mulOk_l {i j : Int} (h1 : -18446744073709551616 < i) (h2 : i < 18446744073709551616) : mulOk i j = true := by
  unfold mulOk; simp only [Bool.or_eq_true, Bool.and_eq_true, decide_eq_true_eq]; omega
theorem mul_r {i j : Int} (h1 : -18446744073709551616 < j) (h2 : j < 18446744073709551616) : gMul (.int i) (.int j) = some (.int (i * j), false) := by
  simp [gMul, mulOk_r h1 h2]
theorem mul_l {i j : Int} (h1 : -18446744073709551616 < i) (h2 : i < 18446744073709551616) : gMul (.int i) (.int j) = some (.int (i * j), false) := by
  simp [gMul, mulOk_l h1 h2]
@[simp] theorem add_tt {xs ys : List D} (h : xs.length + ys.length ≤ 16777216) : gAdd (.tup xs) (.tup ys) = some (.tup (xs ++ ys), false) := by simp [gAdd, fits_le h]
@[simp] theorem add_ll {xs ys : List D} (h : xs.length + ys.length ≤ 16777216) : gAdd (.lst xs) (.lst ys) = some (.lst (xs ++ ys), true) := by simp [gAdd, fits_le h]
@[simp] theorem len_t (xs : List D) : gLen (.tup xs) = some (.int xs.length, false) := rfl
@[simp] theorem len_l (xs : List D) : gLen (.lst xs) = some (.int xs.length, false) := rfl
@[simp] theorem len_s (xs : List D) : gLen (.scr xs) = some (.int xs.length, false) := rfl
@[simp] theorem list_t (xs : List D) : gList (.tup xs) = some (.lst xs, true) := rfl
@[simp] theorem list_l (xs : List D) : gList (.lst xs) = some (.lst xs, true) := rfl
@[simp] theorem tuple_t (xs : List D) : gTuple (.tup xs) = some (.tup xs, false) := rfl
@[simp] theorem tuple_l (xs : List D) : gTuple (.lst xs) = some (.tup xs, false) := rfl
@[simp] theorem sl_t (xs : List D) (lo hi : Option Int) : gSl (.tup xs) lo hi = some (.tup (cut xs lo hi), false) := rfl
@[simp] theorem sl_l (xs : List D) (lo hi : Option Int) : gSl (.lst xs) lo hi = some (.lst (cut xs lo hi), true) := rfl
@[simp] theorem sl_s (xs : List D) (lo hi : Option Int) : gSl (.scr xs) lo hi = some (.lst (cut xs lo hi), true) := rfl
@[simp] theorem ix_t (xs : List D) (i : Int) : gIx (.tup xs) (.int i) = (atI xs i).map fun d => (d, false) := rfl
@[simp] theorem ix_l (xs : List D) (i : Int) : gIx (.lst xs) (.int i) = (atI xs i).map fun d => (d, false) := rfl
@[simp] theorem ix_s (xs : List D) (i : Int) : gIx (.scr xs) (.int i) = (atI xs i).map fun d => (d, false) := rfl
@[simp] theorem at_0 {α : Type} (x : α) (xs : List α) : atI (x :: xs) 0 = some x := by simp [atI, ixN]
@[simp] theorem at_1 {α : Type} (x y : α) (xs : List α) : atI (x :: y :: xs) 1 = some y := by
  unfold atI ixN
  rw [if_pos (by omega), if_pos (by simp only [List.length_cons]; omega)]
  rfl
theorem at_ok {α : Type} {xs : List α} {i : Int} (h0 : 0 ≤ i) (h1 : i < xs.length) : atI xs i = some (xs[i.toNat]'(by omega)) := by
  unfold atI ixN
  rw [if_pos h0, if_pos h1]
  exact List.getElem?_eq_getElem (by omega)
@[simp] theorem ev_iter (f : ME) (M : MS) : mIter f M = (f M).bind fun t M => (Res.opt (t.take M) M).bind fun p _ => Res.opt p.1.items p.2 := rfl
@[simp] theorem items_tup (ds : List D) : D.items (.tup ds) = some ds := rfl
@[simp] theorem items_lst (ds : List D) : D.items (.lst ds) = some ds := rfl
@[simp] theorem items_scr (ds : List D) : D.items (.scr ds) = some ds := rfl
@[simp] theorem ev_for (f : MA) (g : MG) (body : MSt) (M : MS) : mFor f g body M = (f M).to fun ds M => mLoop g body ds M := rfl
@[simp] theorem ev_comp (n : Nat) (fi : MA) (g : MG) (tt : MT) (te : ME) (M : MS) : mComp n fi g tt te M = (fi M).bind fun ds M1 => Res.chk (fits ds.length) ((cLoop g tt te ds (List.replicate n none ++ M1)).bind fun r Mc => .ok (.val (.lst r) true) (Mc.drop n)) := rfl
@[simp] theorem ev_noIf (M : MS) : mNoIf M = .ok true M := rfl
@[simp] theorem ev_gNm (i : Nat) (d : D) (M : MS) : gNm i d M = some (M.set i (some (d, false))) := rfl
@[simp] theorem ev_gsNil (M : MS) : gsNil [] M = some M := rfl
@[simp] theorem ev_gsCons (g : MG) (gs : List D → MS → Option MS) (d : D) (ds : List D) (M : MS) : gsCons g gs (d :: ds) M = (g d M).bind fun M' => gs ds M' := rfl
@[simp] theorem ev_gUn (n : Nat) (gs : List D → MS → Option MS) (ds : List D) (M : MS) : gUn n gs (.tup ds) M = if ds.length = n then gs ds M else none := rfl
def nxO (o : Option MS) : SR := match o with
  | some M => .nx M
  | none => .bad
@[simp] theorem nxO_s (M : MS) : nxO (some M) = .nx M := rfl
@[simp] theorem ev_asg (g : MG) (f : ME) (M : MS) : mAsg g f M = (f M).to fun t M => (Res.opt (t.take M) M).to fun p _ => nxO (g p.1 p.2) := by
  unfold mAsg
  congr 1; funext t M
  cases t.take M with
  | none => rfl
  | some p =>
    obtain ⟨d, M'⟩ := p
    show (match g d M' with | some M'' => SR.nx M'' | none => .bad) = nxO (g d M')
    cases g d M' <;> rfl
@[simp] theorem Res.to_exc {α : Type} (c : Nat) (M : MS) (f : α → MS → SR) : (Res.exc c M : Res α).to f = .exc c M := rfl
@[simp] theorem fits_9 {n : Nat} (h : n ≤ 16777216) : fits n = true := fits_le h

@[simp] theorem ev_popAt (i : Nat) (f : ME) (M : MS) : mPopAt i f M = (Res.opt (ownL M i) M).bind fun _ M => (f M).bind fun t M => (intR (t.see M) M).bind fun k M => (Res.opt (ownL M i) M).bind fun ds M => (Res.opt (ixN ds.length k) M).bind fun j M => (Res.opt ds[j]? M).bind fun d M =>
  Res.chk (fits ds.length) (.ok (.val d false) (M.set i (some (.lst (ds.eraseIdx j), true)))) := rfl
def ownO (o : Option (Option (D × Bool))) : Option (List D) := match o with
  | some (some (.lst ds, true)) => some ds
  | _ => none
@[simp] theorem ownO_s (ds : List D) : ownO (some (some (.lst ds, true))) = some ds := rfl
@[simp] theorem ev_ownL (i : Nat) (M : MS) : ownL M i = ownO M[i]? := rfl
theorem ixN_ok {n : Nat} {i : Int} (h0 : 0 ≤ i) (h1 : i < n) : ixN n i = some i.toNat := by
  unfold ixN; rw [if_pos h0, if_pos h1]
theorem cut_from {α : Type} {xs : List α} {i : Int} (h0 : 0 ≤ i) (h1 : i ≤ xs.length) : cut xs (some i) none = xs.drop i.toNat := by
  unfold cut
  have e : HT.sIx xs.length 0 (some i) = i.toNat := by
    show (if i < 0 then (i + (xs.length : Int)).toNat else min i.toNat xs.length) = _
    rw [if_neg (by omega)]; omega
  have e2 : HT.sIx xs.length xs.length none = xs.length := rfl
  rw [e, e2, List.take_of_length_le (by simp)]
theorem cut_to {α : Type} {xs : List α} {i : Int} (h0 : 0 ≤ i) : cut xs none (some i) = xs.take i.toNat := by
  unfold cut
  have e : HT.sIx xs.length xs.length (some i) = min i.toNat xs.length := by
    show (if i < 0 then (i + (xs.length : Int)).toNat else min i.toNat xs.length) = _
    rw [if_neg (by omega)]
  have e2 : HT.sIx xs.length 0 none = 0 := rfl
  rw [e, e2, List.drop_zero, Nat.sub_zero]
  by_cases h : i.toNat ≤ xs.length
  · rw [Nat.min_eq_left h]
  · rw [Nat.min_eq_right (by omega), List.take_length, List.take_of_length_le (by omega)]

theorem erase_map {α β : Type} (f : α → β) : ∀ (l : List α) (n : Nat), (l.map f).eraseIdx n = (l.eraseIdx n).map f
  | [], n => by simp
  | x :: l, 0 => by simp
  | x :: l, n + 1 => by simp [erase_map f l n]
/-! ### loops -/
def loopK (k : MS → SR) (r : SR) : SR := match r with
  | .nx M => k M
  | .ct M => k M
  | .brk M => .nx M
  | .ret d o => .ret d o
  | .exc c M => .exc c M
  | .bad => .bad
@[simp] theorem loopK_nx (k : MS → SR) (M : MS) : loopK k (.nx M) = k M := rfl
@[simp] theorem loopK_ct (k : MS → SR) (M : MS) : loopK k (.ct M) = k M := rfl
@[simp] theorem loopK_brk (k : MS → SR) (M : MS) : loopK k (.brk M) = .nx M := rfl
@[simp] theorem loopK_ret (k : MS → SR) (d : D) (o : Bool) : loopK k (.ret d o) = .ret d o := rfl
@[simp] theorem loopK_exc (k : MS → SR) (c : Nat) (M : MS) : loopK k (.exc c M) = .exc c M := rfl
theorem loop_nil (g : MG) (body : MSt) (M : MS) : mLoop g body [] M = .nx M := rfl
theorem loop_cons (g : MG) (body : MSt) (d : D) (ds : List D) (M : MS) : mLoop g body (d :: ds) M = match g d M with
    | none => .bad
    | some M1 => loopK (mLoop g body ds) (body M1) := by
  conv => lhs; unfold mLoop
  cases g d M with
  | none => rfl
  | some M1 => cases body M1 <;> rfl
/-- a loop whose turns all go on -/
theorem loop_inv {g : MG} {body : MSt} (I : MS → Prop) : ∀ {ds : List D} {M : MS}, I M → (∀ d ∈ ds, ∀ M, I M → ∃ M1 M2, g d M = some M1 ∧ body M1 = .nx M2 ∧ I M2) → ∃ M', mLoop g body ds M = .nx M' ∧ I M'
  | [], M, h, _ => ⟨M, rfl, h⟩
  | d :: ds, M, h, t => by
    obtain ⟨M1, M2, e1, e2, h2⟩ := t d List.mem_cons_self M h
    obtain ⟨M', e3, h3⟩ := loop_inv I h2 fun d' hd' => t d' (List.mem_cons_of_mem _ hd')
    refine ⟨M', ?_, h3⟩
    rw [loop_cons, e1]
    dsimp only
    rw [e2, loopK_nx]
    exact e3
/-- a comprehension whose turns all give something -/
theorem comp_inv' {g : MG} {tt : MT} {te : ME} (I : Nat → MS → Prop) (R : Nat → D → Prop) : ∀ {ds : List D} {i : Nat} {M : MS}, I i M →
    (∀ (j : Nat) (d : D), ds[j]? = some d → ∀ M, I (i + j) M → ∃ M1 M2 t M3 x M4, g d M = some M1 ∧ tt M1 = .ok true M2 ∧ te M2 = .ok t M3 ∧ t.take M3 = some (x, M4) ∧ R (i + j) x ∧ I (i + j + 1) M4) →
    ∃ r M', cLoop g tt te ds M = .ok r M' ∧ r.length = ds.length ∧ (∀ (j : Nat) (x : D), r[j]? = some x → R (i + j) x) ∧ I (i + ds.length) M'
  | [], i, M, h, _ => ⟨[], M, rfl, rfl, fun j x e => by simp at e, h⟩
  | d :: ds, i, M, h, t => by
    obtain ⟨M1, M2, t1, M3, x, M4, e1, e2, e3, e4, hr, hi⟩ := t 0 d rfl M h
    obtain ⟨r, M', f1, f2, f3, f4⟩ := comp_inv' (g := g) (tt := tt) (te := te) I R (ds := ds) (i := i + 1) hi (fun j d' e M hM => by
      have := t (j + 1) d' (by simpa using e) M (by rw [show i + (j + 1) = i + 1 + j by omega]; exact hM)
      rw [show i + (j + 1) = i + 1 + j by omega] at this
      exact this)
    refine ⟨x :: r, M', ?_, by rw [List.length_cons, List.length_cons, f2], fun j y e => ?_, by rw [List.length_cons, show i + (ds.length + 1) = i + 1 + ds.length by omega]; exact f4⟩
    · unfold cLoop
      rw [e1, Res.opt_some, Res.bind_ok, e2, Res.bind_ok, if_pos rfl, e3, Res.bind_ok, e4, Res.opt_some, Res.bind_ok, f1, Res.bind_ok]
    · cases j with
      | zero => simp at e; subst e; exact hr
      | succ j =>
        have := f3 j y (by simpa using e)
        rw [show i + (j + 1) = i + 1 + j by omega]
        exact this
/-- .. that leave the slots as they are: a map -/
theorem comp_map {g : MG} {te : ME} {h : D → D} (I : MS → Prop) : ∀ {ds : List D} {M : MS}, I M → (∀ d ∈ ds, ∀ M, I M → ∃ M1, g d M = some M1 ∧ ∃ o, te M1 = .ok (.val (h d) o) M1 ∧ I M1) → ∃ M', cLoop g mNoIf te ds M = .ok (ds.map h) M' ∧ I M'
  | [], M, hi, _ => ⟨M, rfl, hi⟩
  | d :: ds, M, hi, t => by
    obtain ⟨M1, e1, o, e2, h2⟩ := t d List.mem_cons_self M hi
    obtain ⟨M', e3, h3⟩ := comp_map I h2 fun d' hd' => t d' (List.mem_cons_of_mem _ hd')
    refine ⟨M', ?_, h3⟩
    unfold cLoop
    rw [e1, Res.opt_some, Res.bind_ok, ev_noIf, Res.bind_ok, if_pos rfl, e2, Res.bind_ok, take_val, Res.opt_some, Res.bind_ok, e3, Res.bind_ok]
    rfl
end Mw
set_option Elab.async false
set_option linter.all false
set_option maxRecDepth 100000
set_option maxHeartbeats 4000000
namespace K01
open PySem L2 Mw
/-! ### the text by places -/
def top (i : Nat) : Stmt := PySem.Challenge.pw_mapweave_k01_maps.main.body.getD i (.Pass ⟨0, 0, 0, 0⟩)
abbrev s_law_mix : Stmt := top 8
abbrev s_law_map : Stmt := top 9
abbrev s_is_whole : Stmt := top 2
abbrev s_is_whole_up_to : Stmt := top 3
abbrev s_is_row_into : Stmt := top 4
abbrev s_is_map : Stmt := top 5
abbrev s_law : Stmt := top 11
/-! ### the mirrors -/
def b_law_mix : MSt := (mRet (mOp gMod (mOp gMod (mOp gMul (mVar 0) (mC (.int 48271))) (mVar 1)) (mVar 2)))
def f_law_mix : List D → CR := mFun 3 b_law_mix
def e_law_map_1 : ME := (mCall f_law_mix (mCons (mOp gAdd (mVar 1) (mOp gMul (mC (.int 31)) (mVar 0))) (mCons (mC (.int 9973)) (mCons (mVar 3) mNil))))
def e_law_map_2 : ME := (mOp gMod (mVar 0) (mVar 3))
def e_law_map_3 : ME := (mPopAt 5 (mCall f_law_mix (mCons (mOp gAdd (mVar 1) (mOp gMul (mC (.int 7)) (mVar 0))) (mCons (mC (.int 9967)) (mCons (mOp gSub (mVar 3) (mVar 0)) mNil)))))
def b_law_map : MSt := (mSeq (mSet 3 (mLst mNil))
    (mSeq (mIf (mTst (mOp gGt (mVar 2) (mC (.int 0)))) (mSet 3 (mComp 1 (mRange (mVar 1)) (gNm 0) mNoIf e_law_map_1)) mNext)
    (mSeq (mIf (mAndT (mTst (mOp gEq (mOp gMod (mVar 0) (mC (.int 4))) (mC (.int 0)))) (mTst (mChain gLt gLe (mC (.int 0)) (mVar 2) (mVar 1)))) (mSeq (mSet 3 (mComp 1 (mRange (mVar 1)) (gNm 0) mNoIf e_law_map_2))
    (mSet 3 (mOp gAdd (mSl gSl (mVar 3) (mPart (mOp gMod (mOp gFDiv (mVar 0) (mC (.int 4))) (mVar 1))) mNoPart) (mSl gSl (mVar 3) mNoPart (mPart (mOp gMod (mOp gFDiv (mVar 0) (mC (.int 4))) (mVar 1))))))) mNext)
    (mSeq (mIf (mAndT (mTst (mOp gEq (mOp gMod (mVar 0) (mC (.int 4))) (mC (.int 1)))) (mTst (mChain gLt gLe (mC (.int 0)) (mVar 1) (mVar 2)))) (mSeq (mSet 4 (mListRange (mVar 2)))
    (mSet 3 (mComp 1 (mRange (mVar 1)) (gNm 0) mNoIf e_law_map_3))) mNext)
    (mRet (mTup (mCons (mVar 2) (mCons (mC1 gTuple (mVar 3)) mNil))))))))
def f_law_map : List D → CR := mFun 5 b_law_map
def b_is_whole : MSt := (mRet (mAndV (mIsI "int" (mVar 0)) (mNotV (mIsI "bool" (mVar 0)))))
def f_is_whole : List D → CR := mFun 1 b_is_whole
def b_is_whole_up_to : MSt := (mRet (mAndV (mCall f_is_whole (mCons (mVar 0) mNil)) (mChain gLe gLe (mC (.int 0)) (mVar 0) (mVar 1))))
def f_is_whole_up_to : List D → CR := mFun 2 b_is_whole_up_to
def e_is_row_into_1 : ME := (mCall f_is_whole_up_to (mCons (mVar 0) (mCons (mOp gSub (mVar 2) (mC (.int 1))) mNil)))
def b_is_row_into : MSt := (mSeq (mIf (mOrT (mNotT (mTru (mIsI "tuple" (mVar 0)))) (mTst (mOp gGt (mC1 gLen (mVar 0)) (mC (.int 9))))) (mRet (mC (.bl false))) mNext)
    (mRet (mC1 gAll (mComp 1 (mIter (mVar 0)) (gNm 0) mNoIf e_is_row_into_1))))
def f_is_row_into : List D → CR := mFun 2 b_is_row_into
def b_is_map : MSt := (mSeq (mIf (mOrT (mNotT (mTru (mIsI "tuple" (mVar 0)))) (mTst (mOp gNe (mC1 gLen (mVar 0)) (mC (.int 2))))) (mRet (mC (.bl false))) mNext)
    (mRet (mAndV (mCall f_is_whole_up_to (mCons (mOp gIx (mVar 0) (mC (.int 0))) (mCons (mC (.int 9)) mNil))) (mCall f_is_row_into (mCons (mOp gIx (mVar 0) (mC (.int 1))) (mCons (mOp gIx (mVar 0) (mC (.int 0))) mNil))))))
def f_is_map : List D → CR := mFun 1 b_is_map
def l_law_1 : MSt := (mIf (mTst (mOp gIsN (mCall f_is_map (mCons (mTup (mCons (mVar 2) (mCons (mOp gAdd (mOp gAdd (mSl gSl (mVar 4) mNoPart (mPart (mVar 5))) (mTup (mCons (mVar 6) mNil))) (mSl gSl (mVar 4) (mPart (mVar 5)) mNoPart)) mNil))) mNil)) (mC (.bl false)))) (mRet (mC (.bl false))) mNext)
def l_law_2 : MSt := (mIf (mTst (mOp gIsN (mCall f_is_map (mCons (mVar 6) mNil)) (mC (.bl false)))) (mRet (mC (.bl false))) mNext)
def l_law_3 : MSt := (mSeq (mAsg (gUn 2 (gsCons (gNm 2) (gsCons (gNm 3) gsNil))) (mCall f_law_map (mCons (mVar 1) (mCons (mCall f_law_mix (mCons (mVar 1) (mCons (mC (.int 9907)) (mCons (mC (.int 10)) mNil)))) (mCons (mCall f_law_mix (mCons (mVar 1) (mCons (mC (.int 9901)) (mCons (mC (.int 10)) mNil)))) mNil)))))
    (mSeq (mIf (mTst (mOp gIsN (mCall f_is_map (mCons (mTup (mCons (mVar 2) (mCons (mVar 3) mNil))) mNil)) (mC (.bl true)))) (mRet (mC (.bl false))) mNext)
    (mSeq (mSet 4 (mSl gSl (mVar 3) mNoPart (mPart (mC (.int 8)))))
    (mSeq (mSet 5 (mOp gMod (mOp gFDiv (mVar 1) (mC (.int 7))) (mOp gAdd (mC1 gLen (mVar 4)) (mC (.int 1)))))
    (mSeq (mFor (mIter (mLst (mCons (mVar 2) (mCons (mUn gNeg (mC (.int 1))) (mCons (mC .non) (mCons (mC (.bl true)) (mCons (mC (.str "0")) (mCons (mTup (mCons (mC (.int 0)) mNil)) (mCons (mOp gPow (mC (.int 10)) (mC (.int 20))) mNil))))))))) (gNm 6) l_law_1)
    (mSeq (mSet 7 (mLst (mCons (mTup (mCons (mVar 2) (mCons (mC1 gList (mVar 3)) mNil))) (mCons (mLst (mCons (mVar 2) (mCons (mVar 3) mNil))) (mCons (mTup (mCons (mVar 2) mNil)) (mCons (mTup (mCons (mVar 2) (mCons (mVar 3) (mCons (mC (.int 0)) mNil)))) (mCons (mTup (mCons (mC (.int 10)) (mCons (mVar 3) mNil))) (mCons (mTup (mCons (mUn gNeg (mC (.int 1))) (mCons (mTup mNil) mNil))) (mCons (mTup (mCons (mC (.bl true)) (mCons (mTup (mCons (mC (.int 0)) mNil)) mNil))) (mCons (mTup (mCons (mC .non) (mCons (mTup mNil) mNil))) mNil))))))))))
    (mFor (mIter (mVar 7)) (gNm 6) l_law_2)))))))
def l_law_4 : MSt := (mIf (mTst (mOp gIsN (mCall f_is_map (mCons (mVar 6) mNil)) (mC (.bl false)))) (mRet (mC (.bl false))) mNext)
def b_law : MSt := (mSeq (mFor (mIter (mSl gSl (mVar 0) mNoPart (mPart (mC (.int 8))))) (gNm 1) l_law_3)
    (mSeq (mFor (mIter (mLst (mCons (mC .non) (mCons (mC (.int 7)) (mCons (mC (.str "map")) (mCons (mTup mNil) (mCons (mTup (mCons (mC (.int 1)) (mCons (mOp gMul (mTup (mCons (mC (.int 0)) mNil)) (mC (.int 10))) mNil))) (mCons (mTup (mCons (mTup mNil) (mCons (mC (.int 1)) mNil))) (mCons (mTup (mCons (mC (.int 0)) (mCons (mTup (mCons (mC (.int 0)) mNil)) mNil))) (mCons (mTup (mCons (mC (.str "1")) (mCons (mTup (mCons (mC (.int 0)) mNil)) mNil))) (mCons (mTup (mCons (mC (.int 1)) (mCons (mC (.str "0")) mNil))) mNil))))))))))) (gNm 6) l_law_4)
    (mRet (mAndV (mOp gIs (mCall f_is_map (mCons (mTup (mCons (mC (.int 9)) (mCons (mOp gMul (mTup (mCons (mC (.int 8)) mNil)) (mC (.int 9))) mNil))) mNil)) (mC (.bl true))) (mOp gIs (mCall f_is_map (mCons (mTup (mCons (mC (.int 0)) (mCons (mTup mNil) mNil))) mNil)) (mC (.bl true)))))))
def f_law : List D → CR := mFun 8 b_law
/-! ### the names -/
def ci : List (Str × Int) := [("MOST_THINGS", 9)]
def cs : List (Str × Str) := []
def bl : List Str := ["range", "list", "tuple", "isinstance", "int", "bool", "len", "all"]
def g0 : List (Str × Nat × (List D → CR)) := []
def g1 : List (Str × Nat × (List D → CR)) := ("_law_mix", 3, f_law_mix) :: g0
def g2 : List (Str × Nat × (List D → CR)) := ("_law_map", 3, f_law_map) :: g1
def g3 : List (Str × Nat × (List D → CR)) := ("is_whole", 1, f_is_whole) :: g2
def g4 : List (Str × Nat × (List D → CR)) := ("is_whole_up_to", 2, f_is_whole_up_to) :: g3
def g5 : List (Str × Nat × (List D → CR)) := ("is_row_into", 2, f_is_row_into) :: g4
def g6 : List (Str × Nat × (List D → CR)) := ("is_map", 1, f_is_map) :: g5
end K01
set_option Elab.async false
set_option linter.all false
set_option maxRecDepth 100000
set_option maxHeartbeats 4000000
namespace K01
open PySem L2 Mw
theorem sc_law_mix : FnScope ["_law_cell_here", "_law_prime", "_law_many"] ["_law_cell_here", "_law_prime", "_law_many"] (defScope s_law_mix) := ⟨rfl, rfl, rfl, by decide +kernel, rfl, by decide +kernel, by decide +kernel⟩
theorem t_law_mix : trBody 40 (mkSc ["_law_cell_here", "_law_prime", "_law_many"] s_law_mix g0 ci cs bl 1000) (defBody s_law_mix) = some b_law_mix := by kernel_rfl
theorem ok_law_mix {P : Program} {w : World} {K : PySem.W.Frag} {mg : Str → Option Value} {base : Heap} {f : Addr} {fd : FuncData} (g : Glb P w K mg base 0 g0 ci cs bl) (F : Fun K "_law_mix" "_law_mix" s_law_mix f fd) (hm : mg "_law_mix" = some (.ref f)) : Glb P w K mg base 1 g1 ci cs bl :=
  g.add (def_tr F hm sc_law_mix (F.binds fun _ _ _ _ _ _ us hl => match us, hl with | [_, _, _], _ => rfl) g t_law_mix)
end K01
set_option Elab.async false
set_option linter.all false
set_option maxRecDepth 100000
set_option maxHeartbeats 4000000
namespace K01
open PySem L2 Mw
theorem sc_law_map : FnScope ["_law_cell_here", "_law_many", "_law_to", "_law_row", "_law_left"] ["_law_cell_here", "_law_many", "_law_to"] (defScope s_law_map) := ⟨rfl, rfl, rfl, by decide +kernel, rfl, by decide +kernel, by decide +kernel⟩
theorem t_law_map : trBody 40 (mkSc ["_law_cell_here", "_law_many", "_law_to", "_law_row", "_law_left"] s_law_map g1 ci cs bl 1000) (defBody s_law_map) = some b_law_map := by kernel_rfl
theorem ok_law_map {P : Program} {w : World} {K : PySem.W.Frag} {mg : Str → Option Value} {base : Heap} {f : Addr} {fd : FuncData} (g : Glb P w K mg base 1 g1 ci cs bl) (F : Fun K "_law_map" "_law_map" s_law_map f fd) (hm : mg "_law_map" = some (.ref f)) : Glb P w K mg base 2 g2 ci cs bl :=
  g.add (def_tr F hm sc_law_map (F.binds fun _ _ _ _ _ _ us hl => match us, hl with | [_, _, _], _ => rfl) g t_law_map)
end K01
set_option Elab.async false
set_option linter.all false
set_option maxRecDepth 100000
set_option maxHeartbeats 4000000
namespace K01
open PySem L2 Mw
theorem sc_is_whole : FnScope ["thing"] ["thing"] (defScope s_is_whole) := ⟨rfl, rfl, rfl, by decide +kernel, rfl, by decide +kernel, by decide +kernel⟩
theorem t_is_whole : trBody 40 (mkSc ["thing"] s_is_whole g2 ci cs bl 1000) (defBody s_is_whole) = some b_is_whole := by kernel_rfl
theorem ok_is_whole {P : Program} {w : World} {K : PySem.W.Frag} {mg : Str → Option Value} {base : Heap} {f : Addr} {fd : FuncData} (g : Glb P w K mg base 2 g2 ci cs bl) (F : Fun K "is_whole" "is_whole" s_is_whole f fd) (hm : mg "is_whole" = some (.ref f)) : Glb P w K mg base 3 g3 ci cs bl :=
  g.add (def_tr F hm sc_is_whole (F.binds fun _ _ _ _ _ _ us hl => match us, hl with | [_], _ => rfl) g t_is_whole)
end K01
set_option Elab.async false
set_option linter.all false
set_option maxRecDepth 100000
set_option maxHeartbeats 4000000
namespace K01
open PySem L2 Mw
theorem sc_is_whole_up_to : FnScope ["thing", "greatest"] ["thing", "greatest"] (defScope s_is_whole_up_to) := ⟨rfl, rfl, rfl, by decide +kernel, rfl, by decide +kernel, by decide +kernel⟩
theorem t_is_whole_up_to : trBody 40 (mkSc ["thing", "greatest"] s_is_whole_up_to g3 ci cs bl 1000) (defBody s_is_whole_up_to) = some b_is_whole_up_to := by kernel_rfl
theorem ok_is_whole_up_to {P : Program} {w : World} {K : PySem.W.Frag} {mg : Str → Option Value} {base : Heap} {f : Addr} {fd : FuncData} (g : Glb P w K mg base 3 g3 ci cs bl) (F : Fun K "is_whole_up_to" "is_whole_up_to" s_is_whole_up_to f fd) (hm : mg "is_whole_up_to" = some (.ref f)) : Glb P w K mg base 4 g4 ci cs bl :=
  g.add (def_tr F hm sc_is_whole_up_to (F.binds fun _ _ _ _ _ _ us hl => match us, hl with | [_, _], _ => rfl) g t_is_whole_up_to)
end K01
set_option Elab.async false
set_option linter.all false
set_option maxRecDepth 100000
set_option maxHeartbeats 4000000
namespace K01
open PySem L2 Mw
theorem sc_is_row_into : FnScope ["thing", "to"] ["thing", "to"] (defScope s_is_row_into) := ⟨rfl, rfl, rfl, by decide +kernel, rfl, by decide +kernel, by decide +kernel⟩
theorem t_is_row_into : trBody 40 (mkSc ["thing", "to"] s_is_row_into g4 ci cs bl 1000) (defBody s_is_row_into) = some b_is_row_into := by kernel_rfl
theorem ok_is_row_into {P : Program} {w : World} {K : PySem.W.Frag} {mg : Str → Option Value} {base : Heap} {f : Addr} {fd : FuncData} (g : Glb P w K mg base 4 g4 ci cs bl) (F : Fun K "is_row_into" "is_row_into" s_is_row_into f fd) (hm : mg "is_row_into" = some (.ref f)) : Glb P w K mg base 5 g5 ci cs bl :=
  g.add (def_tr F hm sc_is_row_into (F.binds fun _ _ _ _ _ _ us hl => match us, hl with | [_, _], _ => rfl) g t_is_row_into)
end K01
set_option Elab.async false
set_option linter.all false
set_option maxRecDepth 100000
set_option maxHeartbeats 4000000
namespace K01
open PySem L2 Mw
theorem sc_is_map : FnScope ["thing"] ["thing"] (defScope s_is_map) := ⟨rfl, rfl, rfl, by decide +kernel, rfl, by decide +kernel, by decide +kernel⟩
theorem t_is_map : trBody 40 (mkSc ["thing"] s_is_map g5 ci cs bl 1000) (defBody s_is_map) = some b_is_map := by kernel_rfl
theorem ok_is_map {P : Program} {w : World} {K : PySem.W.Frag} {mg : Str → Option Value} {base : Heap} {f : Addr} {fd : FuncData} (g : Glb P w K mg base 5 g5 ci cs bl) (F : Fun K "is_map" "is_map" s_is_map f fd) (hm : mg "is_map" = some (.ref f)) : Glb P w K mg base 6 g6 ci cs bl :=
  g.add (def_tr F hm sc_is_map (F.binds fun _ _ _ _ _ _ us hl => match us, hl with | [_], _ => rfl) g t_is_map)
end K01
set_option Elab.async false
set_option linter.all false
set_option maxRecDepth 100000
set_option maxHeartbeats 4000000
namespace K01
open PySem L2 Mw
theorem sc_law : FnScope ["_law_script", "_law_cell_here", "_law_to", "_law_row", "_law_less", "_law_at", "_law_bad", "_law_some"] ["_law_script"] (defScope s_law) := ⟨rfl, rfl, rfl, by decide +kernel, rfl, by decide +kernel, by decide +kernel⟩
theorem t_law : trBody 40 (mkSc ["_law_script", "_law_cell_here", "_law_to", "_law_row", "_law_less", "_law_at", "_law_bad", "_law_some"] s_law g6 ci cs bl 1000) (defBody s_law) = some b_law := by kernel_rfl
theorem ok_law {P : Program} {w : World} {K : PySem.W.Frag} {mg : Str → Option Value} {base : Heap} {f : Addr} {fd : FuncData} (g : Glb P w K mg base 6 g6 ci cs bl) (F : Fun K "law" "law" s_law f fd) : FnOk P w K mg base CX0 7 f fd ["_law_script"] (spD K 1 f_law) :=
  law_tr F sc_law g t_law
end K01
set_option Elab.async false
set_option linter.all false
set_option maxRecDepth 100000
set_option maxHeartbeats 4000000
namespace K01
open PySem L2 Mw
theorem mix_eq (c p m : Int) (hp : 0 < p) (hm : 0 < m) : f_law_mix [.int c, .int p, .int m] = .ok (.int (c * 48271 % p % m)) false := by
  simp [f_law_mix, ev_fun, b_law_mix, gMul, mulOk, gMod, gI, hp, hm]
def isW : D → Bool
  | .int _ => true
  | _ => false
theorem whole_eq (d : D) : f_is_whole [d] = .ok (.bl (isW d)) false := by
  cases d <;> simp [f_is_whole, ev_fun, b_is_whole, D.ty, isTy, isW]
def upToB (d : D) (n : Int) : Bool := match d with
  | .int i => decide (0 ≤ i) && decide (i ≤ n)
  | _ => false
theorem whole_up_eq (d : D) (n : Int) : f_is_whole_up_to [d, .int n] = .ok (.bl (upToB d n)) false := by
  cases d with
  | int i =>
    by_cases h : 0 ≤ i <;> simp [f_is_whole_up_to, ev_fun, b_is_whole_up_to, whole_eq, isW, gLe, gI, upToB, h]
  | _ => simp [f_is_whole_up_to, ev_fun, b_is_whole_up_to, whole_eq, isW, upToB]
def rowB (d : D) (to : Int) : Bool := match d with
  | .tup xs => decide (xs.length ≤ 9) && xs.all fun x => upToB x (to - 1)
  | _ => false
theorem bools_map (f : D → Bool) (xs : List D) : D.bools (xs.map fun x => D.bl (f x)) = some (xs.map f) := by
  induction xs with
  | nil => rfl
  | cons x xs ih => simp [D.bools, ih]
theorem row_eq (d : D) (to : Int) : f_is_row_into [d, .int to] = .ok (.bl (rowB d to)) false := by
  cases d with
  | tup xs =>
    by_cases h : xs.length ≤ 9
    · obtain ⟨M', e, h1⟩ := comp_map (g := gNm 0) (te := e_is_row_into_1) (h := fun x => D.bl (upToB x (to - 1)))
        (fun M => ∃ a, M = [a, some (D.tup xs, false), some (D.int to, false)]) (ds := xs) (M := [none, some (D.tup xs, false), some (D.int to, false)]) ⟨_, rfl⟩ (fun d _ M ⟨a, hM⟩ => by
          subst hM
          exact ⟨_, rfl, false, by simp [e_is_row_into_1, whole_up_eq], _, rfl⟩)
      have h2 : ¬ (9 : Int) < xs.length := by omega
      simp [f_is_row_into, ev_fun, b_is_row_into, D.ty, isTy, D.truth, gLen, gGt, gI, h2, fits_le (show xs.length ≤ 16777216 by omega), e, gAll, bools_map, rowB, h, List.all_map]
    · have h2 : (9 : Int) < xs.length := by omega
      simp [f_is_row_into, ev_fun, b_is_row_into, D.ty, isTy, D.truth, gLen, gGt, gI, h2, rowB, h]
  | _ => simp [f_is_row_into, ev_fun, b_is_row_into, D.ty, isTy, D.truth, rowB]
def mapB (d : D) : Bool := match d with
  | .tup [.int to, row] => decide (0 ≤ to) && decide (to ≤ 9) && rowB row to
  | _ => false
theorem map_eq (d : D) : f_is_map [d] = .ok (.bl (mapB d)) false := by
  cases d with
  | tup xs =>
    by_cases h : xs.length = 2
    · match xs, h with
      | [x, y], _ =>
        cases x with
        | int to =>
          by_cases h0 : 0 ≤ to <;> by_cases h9 : to ≤ 9 <;> simp [f_is_map, ev_fun, b_is_map, D.ty, isTy, D.truth, gLen, gNe, gIx, atI, ixN, whole_up_eq, upToB, row_eq, mapB, h0, h9]
        | _ => simp [f_is_map, ev_fun, b_is_map, D.ty, isTy, D.truth, gLen, gNe, gIx, atI, ixN, whole_up_eq, upToB, row_eq, mapB]
    · have h2 : ¬ ((xs.length : Int) = 2) := by omega
      have h3 : mapB (.tup xs) = false := by
        unfold mapB
        split
        · rename_i e; cases e; exact absurd rfl h
        · rfl
      simp [f_is_map, ev_fun, b_is_map, D.ty, isTy, D.truth, gLen, gNe, h2, h3]
  | _ => simp [f_is_map, ev_fun, b_is_map, D.ty, isTy, D.truth, mapB]
end K01
set_option Elab.async false
set_option linter.all false
set_option maxRecDepth 100000
set_option maxHeartbeats 4000000
namespace K01
open Mw
def rowD (l : List Int) : List D := l.map D.int
def rowOk (many to : Int) (row : List Int) : Prop := (∀ x ∈ row, 0 ≤ x ∧ x < to) ∧ row.length = many.toNat
/-- a comprehension over range(many) whose element is an int -/
theorem comp_range {te : ME} {rest : MS} {many : Int} (h : Int → Int) (ht : ∀ k : Nat, (k : Int) < many → te (some (D.int k, false) :: rest) = .ok (.val (.int (h k)) false) (some (D.int k, false) :: rest)) :
    ∃ a, cLoop (gNm 0) mNoIf te (upTo many) (none :: rest) = .ok (rowD ((List.range many.toNat).map fun (k : Nat) => h k)) (a :: rest) := by
  obtain ⟨N1, e1, a1, hN1⟩ := comp_map (g := gNm 0) (te := te) (h := fun d => match d with
        | .int k => .int (h k)
        | d => d)
      (fun M => ∃ a, M = a :: rest) (ds := upTo many) (M := none :: rest) ⟨_, rfl⟩ (fun d hd M ⟨a, hM⟩ => by
        subst hM
        obtain ⟨k, hk, rfl⟩ := List.mem_map.mp hd
        have := List.mem_range.mp hk
        exact ⟨_, rfl, false, ht k (by omega), _, rfl⟩)
  subst hN1
  refine ⟨a1, e1.trans ?_⟩
  congr 1
  simp [upTo, rowD, List.map_map, Function.comp_def]
theorem map_row (c many to : Int) (h1 : 0 ≤ many) (h2 : many ≤ 1000) (h3 : 0 ≤ to) (h4 : to ≤ 1000) :
    ∃ row : List Int, f_law_map [.int c, .int many, .int to] = .ok (.tup [.int to, .tup (rowD row)]) false ∧ (∀ x ∈ row, 0 ≤ x ∧ x < to) ∧ (to = 0 → row = []) ∧ (0 < to → row.length = many.toNat) := by
  have hb : rngB many = true := rngB_ok (by omega) (by omega)
  have hbt : rngL to = true := rngL_ok (by omega) (by omega)
  have hf : fits many.toNat = true := fits_le (by omega)
  by_cases ht : 0 < to
  · suffices h : ∃ row : List Int, f_law_map [.int c, .int many, .int to] = .ok (.tup [.int to, .tup (rowD row)]) false ∧ rowOk many to row by
      obtain ⟨row, e, g1, g2⟩ := h
      exact ⟨row, e, g1, fun z => by omega, fun _ => g2⟩
    -- the first row
    obtain ⟨a1, e1⟩ := comp_range (te := e_law_map_1)
      (rest := [some (D.int c, false), some (D.int many, false), some (D.int to, false), some (D.lst [], true), none]) (many := many) (fun k => (c + 31 * k) * 48271 % 9973 % to) (fun k _ => by simp [e_law_map_1, mul_l, mix_eq, ht])
    have g1 : rowOk many to ((List.range many.toNat).map fun (k : Nat) => (c + 31 * (k : Int)) * 48271 % 9973 % to) := by
      refine ⟨fun x hx => ?_, by simp⟩
      obtain ⟨k, _, rfl⟩ := List.mem_map.mp hx
      exact ⟨Int.emod_nonneg _ (by omega), Int.emod_lt_of_pos _ ht⟩
    generalize hrow : ((List.range many.toNat).map fun (k : Nat) => (c + 31 * (k : Int)) * 48271 % 9973 % to) = row1 at e1 g1
    by_cases hA : c % 4 = 0 ∧ to ≤ many
    · obtain ⟨hA1, hA2⟩ := hA
      have hm : 0 < many := by omega
      obtain ⟨a2, e2⟩ := comp_range (te := e_law_map_2)
        (rest := [some (D.int c, false), some (D.int many, false), some (D.int to, false), some (D.lst (rowD row1), true), none]) (many := many) (fun k => k % to) (fun k _ => by simp [e_law_map_2, ht])
      have g2 : rowOk many to ((List.range many.toNat).map fun (k : Nat) => (k : Int) % to) := by
        refine ⟨fun x hx => ?_, by simp⟩
        obtain ⟨k, _, rfl⟩ := List.mem_map.mp hx
        exact ⟨Int.emod_nonneg _ (by omega), Int.emod_lt_of_pos _ ht⟩
      generalize hrow2 : ((List.range many.toNat).map fun (k : Nat) => (k : Int) % to) = row2 at e2 g2
      have i0 : 0 ≤ c / 4 % many := Int.emod_nonneg _ (by omega)
      have i1 : c / 4 % many < many := Int.emod_lt_of_pos _ hm
      have hl : (rowD row2).length = many.toNat := by simp [rowD, g2.2]
      have hne : ¬ (c % 4 = 1) := by omega
      have hadd : gAdd (D.lst (List.drop (c / 4 % many).toNat (rowD row2))) (D.lst (List.take (c / 4 % many).toNat (rowD row2))) = some (.lst (List.drop (c / 4 % many).toNat (rowD row2) ++ List.take (c / 4 % many).toNat (rowD row2)), true) := add_ll (by rw [List.length_drop, List.length_take, hl]; omega)
      refine ⟨row2.drop (c / 4 % many).toNat ++ row2.take (c / 4 % many).toNat, ?_, fun x hx => ?_, ?_⟩
      · simp only [f_law_map, ev_fun, b_law_map]
        simp [hA1, hA2, ht, hm, hb, hf, e1, e2, cut_from i0 (show c / 4 % many ≤ (rowD row2).length by omega), cut_to i0, hl, hne, hadd]
        simp [rowD, List.map_drop, List.map_take]
      · rcases List.mem_append.mp hx with h | h
        · exact g2.1 x (List.mem_of_mem_drop h)
        · exact g2.1 x (List.mem_of_mem_take h)
      · simp [g2.2]; omega
    · by_cases hB : c % 4 = 1 ∧ 0 < many ∧ many ≤ to
      · obtain ⟨hB1, hB2, hB3⟩ := hB
        have hne : ¬ (c % 4 = 0) := by omega
        obtain ⟨r, M', e2, l2, p2, a2, L2', hM', _⟩ := comp_inv' (g := gNm 0) (tt := mNoIf) (te := e_law_map_3)
          (fun i M => ∃ a L, M = [a, some (D.int c, false), some (D.int many, false), some (D.int to, false), some (D.lst (rowD row1), true), some (D.lst (rowD L), true)] ∧ L.length + i = to.toNat ∧ ∀ x ∈ L, 0 ≤ x ∧ x < to)
          (fun _ x => ∃ i : Int, x = .int i ∧ 0 ≤ i ∧ i < to) (ds := upTo many) (i := 0) (M := [none, some (D.int c, false), some (D.int many, false), some (D.int to, false), some (D.lst (rowD row1), true), some (D.lst (upTo to), true)])
          ⟨none, (List.range to.toNat).map fun (k : Nat) => (k : Int), by simp [rowD, upTo, List.map_map, Function.comp_def], by simp, fun x hx => by
            obtain ⟨k, hk, rfl⟩ := List.mem_map.mp hx
            have := List.mem_range.mp hk
            omega⟩
          (fun j d hd M ⟨a, L, hM, hL, hx⟩ => by
            subst hM
            have hj : j < many.toNat := by
              have := (List.getElem?_eq_some_iff.mp hd).1
              simpa [upTo] using this
            have hd' : d = .int j := by
              simp only [upTo, List.getElem?_map, List.getElem?_range hj, Option.map_some] at hd
              cases hd; rfl
            subst hd'
            have hp : 0 < to - (j : Int) := by omega
            have k0 : 0 ≤ (c + 7 * (j : Int)) * 48271 % 9967 % (to - j) := Int.emod_nonneg _ (by omega)
            have k1 : (c + 7 * (j : Int)) * 48271 % 9967 % (to - j) < to - j := Int.emod_lt_of_pos _ hp
            generalize hk : (c + 7 * (j : Int)) * 48271 % 9967 % (to - j) = q at k0 k1
            have hq : q.toNat < L.length := by omega
            have hg : (rowD L)[q.toNat]? = some (.int L[q.toNat]) := by
              simp [rowD, List.getElem?_map, List.getElem?_eq_getElem hq]
            refine ⟨_, _, .val (.int L[q.toNat]) false, _, .int L[q.toNat], [some (D.int j, false), some (D.int c, false), some (D.int many, false), some (D.int to, false), some (D.lst (rowD row1), true), some (D.lst (rowD (L.eraseIdx q.toNat)), true)], rfl, rfl, ?_, rfl, ⟨_, rfl, hx _ (List.getElem_mem hq)⟩, _, _, rfl, ?_, fun x h => hx x (List.mem_of_mem_eraseIdx h)⟩
            · simp [e_law_map_3, mul_l, mix_eq, hp, show (j : Int) < to by omega, hk, ixN_ok k0 (show q < (rowD L).length by simp [rowD]; omega), hg, fits_le (show (rowD L).length ≤ 16777216 by simp [rowD]; omega)]
              simp [rowD, erase_map]
            · rw [List.length_eraseIdx]; simp [hq]; omega)
        have hs : ∃ row : List Int, r = rowD row ∧ rowOk many to row := by
          have key : ∀ (l : List D), (∀ x ∈ l, ∃ i : Int, x = .int i ∧ 0 ≤ i ∧ i < to) → ∃ row : List Int, l = rowD row ∧ (∀ x ∈ row, 0 ≤ x ∧ x < to) := by
            intro l
            induction l with
            | nil => exact fun _ => ⟨[], rfl, fun x hx => by simp at hx⟩
            | cons y l ih =>
              intro h
              obtain ⟨i, rfl, hi⟩ := h y List.mem_cons_self
              obtain ⟨row, rfl, hr⟩ := ih fun x hx => h x (List.mem_cons_of_mem _ hx)
              exact ⟨i :: row, rfl, fun x hx => by
                rcases List.mem_cons.mp hx with z | z
                · rw [z]; exact hi
                · exact hr x z⟩
          obtain ⟨row, rfl, hr⟩ := key r fun x hx => by
            obtain ⟨j, hj, rfl⟩ := List.mem_iff_getElem.mp hx
            exact p2 j _ (List.getElem?_eq_getElem hj)
          exact ⟨row, rfl, hr, by rw [upTo_len] at l2; simpa [rowD] using l2⟩
        obtain ⟨row, rfl, hr⟩ := hs
        refine ⟨row, ?_, hr⟩
        simp only [f_law_map, ev_fun, b_law_map]
        subst hM'
        simp [hB1, hB2, hB3, hne, ht, hb, hbt, hf, e1, e2]
      · refine ⟨row1, ?_, g1⟩
        simp only [f_law_map, ev_fun, b_law_map]
        by_cases hc : c % 4 = 0
        · have hx : ¬ to ≤ many := fun z => hA ⟨hc, z⟩
          have hy : ¬ c % 4 = 1 := by omega
          simp [hc, hx, hy, ht, hb, hf, e1]
        · by_cases hc1 : c % 4 = 1
          · by_cases hm : 0 < many
            · have hx : ¬ many ≤ to := fun z => hB ⟨hc1, hm, z⟩
              simp [hc, hc1, hx, hm, ht, hb, hf, e1]
            · simp [hc, hc1, hm, ht, hb, hf, e1]
          · simp [hc, hc1, ht, hb, hf, e1]
  · have : to = 0 := by omega
    subst this
    refine ⟨[], ?_, by simp, fun _ => rfl, fun h => by omega⟩
    by_cases hm : 0 < many
    · have hm' : ¬ many ≤ 0 := by omega
      by_cases hc : c % 4 = 0 <;> by_cases hc1 : c % 4 = 1 <;> simp [f_law_map, ev_fun, b_law_map, rowD, hc, hc1, hm, hm']
    · by_cases hc : c % 4 = 0 <;> by_cases hc1 : c % 4 = 1 <;> simp [f_law_map, ev_fun, b_law_map, rowD, hc, hc1, hm]
end K01
set_option Elab.async false
set_option linter.all false
set_option maxRecDepth 100000
set_option maxHeartbeats 4000000
namespace K01
open Mw
theorem not_map {to : Int} {xs ys : List D} {b : D} (h : upToB b (to - 1) = false) : mapB (.tup [.int to, .tup (xs ++ b :: ys)]) = false := by
  simp [mapB, rowB, h]
theorem is_mapB {to : Int} {row : List Int} (h0 : 0 ≤ to) (h9 : to ≤ 9) (hl : row.length ≤ 9) (hr : ∀ x ∈ row, 0 ≤ x ∧ x < to) : mapB (.tup [.int to, .tup (rowD row)]) = true := by
  simp [mapB, rowB, rowD, upToB, h0, h9, hl]
  intro x hx
  have := hr x hx
  omega
def St1 (l : List D) (M : MS) : Prop := ∃ a1 a2 a3 a4 a5 a6 a7, M = [some (.scr l, false), a1, a2, a3, a4, a5, a6, a7]
/-- a turn -/
theorem turn (l : List D) (c : Int) (M : MS) (hM : St1 l M) : ∃ M1 M2, gNm 1 (.int c) M = some M1 ∧ l_law_3 M1 = .nx M2 ∧ St1 l M2 := by
  obtain ⟨a1, a2, a3, a4, a5, a6, a7, rfl⟩ := hM
  have m0 : 0 ≤ c * 48271 % 9907 % 10 := Int.emod_nonneg _ (by omega)
  have m1 : c * 48271 % 9907 % 10 < 10 := Int.emod_lt_of_pos _ (by omega)
  have t0 : 0 ≤ c * 48271 % 9901 % 10 := Int.emod_nonneg _ (by omega)
  have t1 : c * 48271 % 9901 % 10 < 10 := Int.emod_lt_of_pos _ (by omega)
  obtain ⟨row, e, hr, hr0, hr1⟩ := map_row c (c * 48271 % 9907 % 10) (c * 48271 % 9901 % 10) m0 (by omega) t0 (by omega)
  generalize hmany : c * 48271 % 9907 % 10 = many at *
  generalize hto : c * 48271 % 9901 % 10 = to at *
  have hl : row.length ≤ 9 := by
    by_cases z : to = 0
    · rw [hr0 z]; simp
    · rw [hr1 (by omega)]; omega
  have hm := is_mapB t0 (by omega) hl hr
  have hcut : cut (rowD row) none (some 8) = (rowD row).take 8 := cut_to (by omega)
  generalize hless : (rowD row).take 8 = less at hcut
  have hll : less.length ≤ 8 := by rw [← hless, List.length_take]; omega
  have p0 : 0 < (less.length : Int) + 1 := by omega
  have k0 : 0 ≤ c / 7 % ((less.length : Int) + 1) := Int.emod_nonneg _ (by omega)
  have k1 : c / 7 % ((less.length : Int) + 1) < (less.length : Int) + 1 := Int.emod_lt_of_pos _ p0
  generalize hat : c / 7 % ((less.length : Int) + 1) = at' at k0 k1
  have c1 : cut less none (some at') = less.take at'.toNat := cut_to k0
  have c2 : cut less (some at') none = less.drop at'.toNat := cut_from k0 (by omega)
  have w1 : ∀ b : D, gAdd (.tup (less.take at'.toNat)) (.tup [b]) = some (.tup (less.take at'.toNat ++ [b]), false) := fun b => add_tt (by simp; omega)
  have w2 : ∀ b : D, gAdd (.tup (less.take at'.toNat ++ [b])) (.tup (less.drop at'.toNat)) = some (.tup (less.take at'.toNat ++ b :: less.drop at'.toNat), false) := fun b => by
    rw [add_tt (by simp; omega)]; simp
  have pw : gPow (.int 10) (.int 20) = some (.int 100000000000000000000, false) := by simp [gPow, gI]
  have n1 : upToB (.int to) (to - 1) = false := by simp [upToB]; omega
  have n2 : upToB (.int (-1)) (to - 1) = false := by simp [upToB]
  have n3 : upToB .non (to - 1) = false := rfl
  have n4 : upToB (.bl true) (to - 1) = false := rfl
  have n5 : upToB (.str "0") (to - 1) = false := rfl
  have n6 : upToB (.tup [.int 0]) (to - 1) = false := rfl
  have n7 : upToB (.int 100000000000000000000) (to - 1) = false := by simp [upToB]; omega
  generalize hq0 : l_law_3 [some (.scr l, false), some (.int c, false), a2, a3, a4, a5, a6, a7] = r
  have hq := hq0
  simp [l_law_3, l_law_1, l_law_2, mul_r, mix_eq, hmany, hto, e, map_eq, hm, hcut, p0, hat, loop_cons, loop_nil, c1, c2, w1, w2, pw, not_map n1, not_map n2, not_map n3, not_map n4, not_map n5, not_map n6, not_map n7] at hq
  have k1 : mapB (.tup [.int to, .lst (rowD row)]) = false := by simp [mapB, rowB]
  have k2 : mapB (.lst [.int to, .tup (rowD row)]) = false := rfl
  have k3 : mapB (.tup [.int to]) = false := rfl
  have k4 : mapB (.tup [.int to, .tup (rowD row), .int 0]) = false := rfl
  have k5 : mapB (.tup [.int 10, .tup (rowD row)]) = false := by simp [mapB]
  have k6 : mapB (.tup [.int (-1), .tup []]) = false := by simp [mapB]
  have k7 : mapB (.tup [.bl true, .tup [.int 0]]) = false := rfl
  have k8 : mapB (.tup [.non, .tup []]) = false := rfl
  simp [loop_cons, loop_nil, map_eq, k1, k2, k3, k4, k5, k6, k7, k8] at hq
  subst hq
  exact ⟨_, _, rfl, hq0, _, _, _, _, _, _, _, rfl⟩
theorem main : ∀ ns : List Int, ns.length ≤ 63 → f_law [.scr (ns.map D.int)] = .ok (.bl true) false := by
  intro ns _
  have hc : cut (ns.map D.int) none (some 8) = (ns.map D.int).take 8 := cut_to (by omega)
  obtain ⟨M', e, a1, a2, a3, a4, a5, a6, a7, rfl⟩ := loop_inv (g := gNm 1) (body := l_law_3) (St1 (ns.map D.int)) (ds := (ns.map D.int).take 8) (M := [some (.scr (ns.map D.int), false), none, none, none, none, none, none, none]) ⟨_, _, _, _, _, _, _, rfl⟩ (fun d hd M hM => by
    obtain ⟨c, _, rfl⟩ := List.mem_map.mp (List.mem_of_mem_take hd)
    exact turn _ c M hM)
  have k1 : mapB .non = false := rfl
  have k2 : mapB (.int 7) = false := rfl
  have k3 : mapB (.str "map") = false := rfl
  have k4 : mapB (.tup []) = false := rfl
  have k5 : mapB (.tup [.int 1, .tup [.int 0, .int 0, .int 0, .int 0, .int 0, .int 0, .int 0, .int 0, .int 0, .int 0]]) = false := by simp [mapB, rowB]
  have k6 : mapB (.tup [.tup [], .int 1]) = false := rfl
  have k7 : mapB (.tup [.int 0, .tup [.int 0]]) = false := by simp [mapB, rowB, upToB]
  have k8 : mapB (.tup [.str "1", .tup [.int 0]]) = false := rfl
  have k9 : mapB (.tup [.int 1, .str "0"]) = false := by simp [mapB, rowB]
  have j1 : mapB (.tup [.int 9, .tup [.int 8, .int 8, .int 8, .int 8, .int 8, .int 8, .int 8, .int 8, .int 8]]) = true := by simp [mapB, rowB, upToB]
  have j2 : mapB (.tup [.int 0, .tup []]) = true := by simp [mapB, rowB]
  have q1 : gMul (.tup [.int 0]) (.int 10) = some (.tup [.int 0, .int 0, .int 0, .int 0, .int 0, .int 0, .int 0, .int 0, .int 0, .int 0], false) := by simp [gMul, List.replicate]
  have q2 : gMul (.tup [.int 8]) (.int 9) = some (.tup [.int 8, .int 8, .int 8, .int 8, .int 8, .int 8, .int 8, .int 8, .int 8], false) := by simp [gMul, List.replicate]
  simp [f_law, ev_fun, b_law, hc, e, l_law_4, loop_cons, loop_nil, map_eq, q1, q2, k1, k2, k3, k4, k5, k6, k7, k8, k9, j1, j2]
end K01
set_option Elab.async false
set_option linter.all false
set_option maxRecDepth 100000
set_option maxHeartbeats 4000000
namespace K01
open PySem L2 Mw
theorem all_mk {l : PySem.W.OpenLaw} {w : World} {K : PySem.W.Frag} {h : Heap} {mg : Str → Option Value} {fa f1 f2 f3 f4 f5 f6 f7 : Addr} (X : K.In h) (G : h.Ns mainGlobals mg) (hfa : mg "law" = some (.ref fa))
    {od1 an1 od2 an2 od3 an3 od4 an4 od5 an5 od6 an6 od7 an7 : Option Addr} {sl1 sl2 sl3 sl4 sl5 sl6 sl7 : Array (Option Value)} {oc1 kV1 dc1 pm1 cd1 ct1 oc2 kV2 dc2 pm2 cd2 ct2 oc3 kV3 dc3 pm3 cd3 ct3 oc4 kV4 dc4 pm4 cd4 ct4 oc5 kV5 dc5 pm5 cd5 ct5 oc6 kV6 dc6 pm6 cd6 ct6 oc7 kV7 dc7 pm7 cd7 ct7 : Value} {t_MOST_THINGS : Tok}
    (a1 : PySem.W.nsIn K mainGlobals "_law_mix" = some (some (.ref f1))) (l1 : K.lookup f1 = some ⟨oc1, od1, .func (PySem.W.fnOf "_law_mix" "_law_mix" (defArgs s_law_mix) (defBody s_law_mix) (defScope s_law_mix) .none kV1 dc1 pm1 an1 cd1 ct1), sl1⟩) (c1 : PySem.W.codeIn K cd1 "_law_mix" = true) (k1 : PySem.W.keepIn K (.ref f1) = true)
    (a2 : PySem.W.nsIn K mainGlobals "_law_map" = some (some (.ref f2))) (l2 : K.lookup f2 = some ⟨oc2, od2, .func (PySem.W.fnOf "_law_map" "_law_map" (defArgs s_law_map) (defBody s_law_map) (defScope s_law_map) .none kV2 dc2 pm2 an2 cd2 ct2), sl2⟩) (c2 : PySem.W.codeIn K cd2 "_law_map" = true) (k2 : PySem.W.keepIn K (.ref f2) = true)
    (a3 : PySem.W.nsIn K mainGlobals "is_whole" = some (some (.ref f3))) (l3 : K.lookup f3 = some ⟨oc3, od3, .func (PySem.W.fnOf "is_whole" "is_whole" (defArgs s_is_whole) (defBody s_is_whole) (defScope s_is_whole) .none kV3 dc3 pm3 an3 cd3 ct3), sl3⟩) (c3 : PySem.W.codeIn K cd3 "is_whole" = true) (k3 : PySem.W.keepIn K (.ref f3) = true)
    (a4 : PySem.W.nsIn K mainGlobals "is_whole_up_to" = some (some (.ref f4))) (l4 : K.lookup f4 = some ⟨oc4, od4, .func (PySem.W.fnOf "is_whole_up_to" "is_whole_up_to" (defArgs s_is_whole_up_to) (defBody s_is_whole_up_to) (defScope s_is_whole_up_to) .none kV4 dc4 pm4 an4 cd4 ct4), sl4⟩) (c4 : PySem.W.codeIn K cd4 "is_whole_up_to" = true) (k4 : PySem.W.keepIn K (.ref f4) = true)
    (a5 : PySem.W.nsIn K mainGlobals "is_row_into" = some (some (.ref f5))) (l5 : K.lookup f5 = some ⟨oc5, od5, .func (PySem.W.fnOf "is_row_into" "is_row_into" (defArgs s_is_row_into) (defBody s_is_row_into) (defScope s_is_row_into) .none kV5 dc5 pm5 an5 cd5 ct5), sl5⟩) (c5 : PySem.W.codeIn K cd5 "is_row_into" = true) (k5 : PySem.W.keepIn K (.ref f5) = true)
    (a6 : PySem.W.nsIn K mainGlobals "is_map" = some (some (.ref f6))) (l6 : K.lookup f6 = some ⟨oc6, od6, .func (PySem.W.fnOf "is_map" "is_map" (defArgs s_is_map) (defBody s_is_map) (defScope s_is_map) .none kV6 dc6 pm6 an6 cd6 ct6), sl6⟩) (c6 : PySem.W.codeIn K cd6 "is_map" = true) (k6 : PySem.W.keepIn K (.ref f6) = true)
    (a7 : PySem.W.nsIn K mainGlobals "law" = some (some (.ref f7))) (l7 : K.lookup f7 = some ⟨oc7, od7, .func (PySem.W.fnOf "law" "law" (defArgs s_law) (defBody s_law) (defScope s_law) .none kV7 dc7 pm7 an7 cd7 ct7), sl7⟩) (c7 : PySem.W.codeIn K cd7 "law" = true) (k7 : PySem.W.keepIn K (.ref f7) = true)
    (y_MOST_THINGS : PySem.W.nsIn K mainGlobals "MOST_THINGS" = some (some (.int 9 t_MOST_THINGS)))
    (z_range : PySem.W.nsIn K mainGlobals "range" = some none)
    (z_list : PySem.W.nsIn K mainGlobals "list" = some none)
    (z_tuple : PySem.W.nsIn K mainGlobals "tuple" = some none)
    (z_isinstance : PySem.W.nsIn K mainGlobals "isinstance" = some none)
    (z_int : PySem.W.nsIn K mainGlobals "int" = some none)
    (z_bool : PySem.W.nsIn K mainGlobals "bool" = some none)
    (z_len : PySem.W.nsIn K mainGlobals "len" = some none)
    (z_all : PySem.W.nsIn K mainGlobals "all" = some none)
    : ∃ fd : FuncData, (∀ (s : Shared) (v : Value), BindsTo s fd ⟨[v], []⟩ [("_law_script", v)]) ∧ ∀ base : Heap, K.In base → base.Ns mainGlobals mg → FnOk l.prog w K mg base CX0 7 fa fd ["_law_script"] (spD K 1 f_law) := by
  have e := hfa.symm.trans (PySem.W.mg_of X G a7)
  cases e
  have F1 := fun_mk (st := s_law_mix) l1 c1 k1
  have F2 := fun_mk (st := s_law_map) l2 c2 k2
  have F3 := fun_mk (st := s_is_whole) l3 c3 k3
  have F4 := fun_mk (st := s_is_whole_up_to) l4 c4 k4
  have F5 := fun_mk (st := s_is_row_into) l5 c5 k5
  have F6 := fun_mk (st := s_is_map) l6 c6 k6
  have F7 := fun_mk (st := s_law) l7 c7 k7
  refine ⟨PySem.W.fnOf "law" "law" (defArgs s_law) (defBody s_law) (defScope s_law) .none kV7 dc7 pm7 an7 cd7 ct7, fun s v => .of_eq rfl, fun base _ _ => ?_⟩
  have G0 : Glb l.prog w K mg base 0 g0 ci cs bl := by
    refine Glb.start (fun p hp => ?_) (fun p hp => ?_) (fun x hx => ?_)
    · simp only [ci, List.mem_cons, List.not_mem_nil, or_false] at hp
      rcases hp with rfl
      · exact ⟨_, PySem.W.mg_of X G y_MOST_THINGS⟩
    · cases hp
    · simp only [bl, List.mem_cons, List.not_mem_nil, or_false] at hx
      rcases hx with rfl | rfl | rfl | rfl | rfl | rfl | rfl | rfl
      · exact PySem.W.mg_none_of X G z_range
      · exact PySem.W.mg_none_of X G z_list
      · exact PySem.W.mg_none_of X G z_tuple
      · exact PySem.W.mg_none_of X G z_isinstance
      · exact PySem.W.mg_none_of X G z_int
      · exact PySem.W.mg_none_of X G z_bool
      · exact PySem.W.mg_none_of X G z_len
      · exact PySem.W.mg_none_of X G z_all
  have G1 := ok_law_mix G0 F1 (PySem.W.mg_of X G a1)
  have G2 := ok_law_map G1 F2 (PySem.W.mg_of X G a2)
  have G3 := ok_is_whole G2 F3 (PySem.W.mg_of X G a3)
  have G4 := ok_is_whole_up_to G3 F4 (PySem.W.mg_of X G a4)
  have G5 := ok_is_row_into G4 F5 (PySem.W.mg_of X G a5)
  have G6 := ok_is_map G5 F6 (PySem.W.mg_of X G a6)
  exact ok_law G6 F7
theorem walk {l : PySem.W.OpenLaw} {q : Program} {loose : List Str} {XP : (Str → Option Value) → Heap → Prop} {YP : World → Heap → Prop} {d : DefRec} {K : Params → PySem.W.Frag} (hn : l.most = some 63) (hdf : d.params.defaults = [])
    (hY : ∀ (w : World) (h : Heap), YP w h → (K w.params).In h)
    (F : ∀ (w : World) (mg : Str → Option Value) (fa : Addr) (h : Heap), (K w.params).In h → h.Ns mainGlobals mg → mg d.name = some (.ref fa) →
      ∃ fd : FuncData, (∀ (s : Shared) (u : Value), BindsTo s fd ⟨[u], []⟩ [("_law_script", u)]) ∧ ∀ base : Heap, (K w.params).In base → base.Ns mainGlobals mg → FnOk l.prog w (K w.params) mg base CX0 7 fa fd ["_law_script"] (spD (K w.params) 1 f_law))
    (main : ∀ ns : List Int, ns.length ≤ 63 → f_law [.scr (ns.map D.int)] = .ok (.bl true) false) :
    PySem.W.WalkO q loose XP YP l.row.toRowW d [] (fun f vs => PySem.call f vs) :=
  L2.walk_of (n := 63) (k := 7) (x := "_law_script") (CX := fun _ => CX0) (sp := fun w => spD (K w.params) 1 f_law) hn (by decide) hdf ⟨rfl, by decide, by decide⟩ hY F (fun _ _ a ns hl hO hS => law_sp hO hS (main ns hl)) fun _ _ _ _ _ z => z
end K01
open PySem PySem.W PyProof.Rows
set_option maxRecDepth 100000 in
set_option maxHeartbeats 0 in
theorem PySem.Challenge.cw_mapweave_k01_maps_holds : PySem.Challenge.rw_mapweave_k01_maps.Holds := by
  w_on; o_law; k_head; (case hw => w_witness2)
  k_fill
  refine K01.walk (l := PySem.Challenge.rw_mapweave_k01_maps) rfl rfl (fun w h Y => PySem.W.kIn_of Y) ?F K01.main
  case F =>
    intro w mg fa h KX G hmg
    refine' K01.all_mk KX G hmg ?a1 ?l1 ?c1 ?k1 ?a2 ?l2 ?c2 ?k2 ?a3 ?l3 ?c3 ?k3 ?a4 ?l4 ?c4 ?k4 ?a5 ?l5 ?c5 ?k5 ?a6 ?l6 ?c6 ?k6 ?a7 ?l7 ?c7 ?k7 ?y_MOST_THINGS ?z_range ?z_list ?z_tuple ?z_isinstance ?z_int ?z_bool ?z_len ?z_all
    (case a1 => k_is); (case l1 => k_is); (case c1 => k_is); (case k1 => k_is); (case a2 => k_is); (case l2 => k_is); (case c2 => k_is); (case k2 => k_is); (case a3 => k_is); (case l3 => k_is); (case c3 => k_is); (case k3 => k_is); (case a4 => k_is); (case l4 => k_is); (case c4 => k_is); (case k4 => k_is); (case a5 => k_is); (case l5 => k_is); (case c5 => k_is); (case k5 => k_is); (case a6 => k_is); (case l6 => k_is); (case c6 => k_is); (case k6 => k_is); (case a7 => k_is); (case l7 => k_is); (case c7 => k_is); (case k7 => k_is); (case y_MOST_THINGS => k_is); (case z_range => k_is); (case z_list => k_is); (case z_tuple => k_is); (case z_isinstance => k_is); (case z_int => k_is); (case z_bool => k_is); (case z_len => k_is); (case z_all => k_is)
