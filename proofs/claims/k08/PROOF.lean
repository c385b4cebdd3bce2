import PyProof.Rows.All
import Wide.All
import OpenK.AllK
import Wide.FinOn
import Lean
import PyProof.EqAt
import PyProof.EqKinds
import PyProof.TupleCall
import KE.KDictList
import KE.KDictOf
import PySem.Challenge.RW_surehall_k08_refuter
set_option Elab.async false
set_option linter.all false
set_option maxRecDepth 100000
/-! THE HAND LAYER, for ints, bools, texts, own classes, LISTS and tuples (index, slices, in, append, pop ..), calls, loops. Paste it whole ahead of your own text; what your proof does not reach may be deleted. -/
namespace L2
open PySem PySem.Spec PyProof.Rows

/-- a key: an int or a str -/
abbrev Key := Sum Int Str
def keyIs : Key → Value → Bool
  | .inl k, v => Value.isInt k v
  | .inr x, v => Value.isStrOf x v
def keyH (w : World) : Key → Int
  | .inl k => hashInt k
  | .inr x => hashStr w x
theorem keyIs_shape : ∀ {k : Key} {v : Value}, keyIs k v = true → (∃ i t, k = Sum.inl i ∧ v = Value.int i t) ∨ (∃ x t, k = Sum.inr x ∧ v = Value.str x t)
  | .inl i, v, h => by
    obtain ⟨t, e⟩ := Value.isInt_shape (k := i) (v := v) h
    exact .inl ⟨i, t, rfl, e⟩
  | .inr x, v, h => by
    obtain ⟨t, e⟩ := Value.isStrOf_shape (x := x) (v := v) h
    exact .inr ⟨x, t, rfl, e⟩
theorem keyIs_int (i : Int) (t : Tok) : keyIs (.inl i) (.int i t) = true := by simp [keyIs, Value.isInt]
theorem keyIs_str (x : Str) (t : Tok) : keyIs (.inr x) (.str x t) = true := by simp [keyIs, Value.isStrOf]
theorem key_ll (a b : Int) : decide ((Sum.inl a : Key) = Sum.inl b) = (a == b) := by
  by_cases e : a = b
  · subst e; simp
  · have h : ¬ (Sum.inl a : Key) = Sum.inl b := fun q => e (Sum.inl.inj q)
    rw [decide_eq_false h]
    exact (beq_eq_false_iff_ne.mpr e).symm
theorem key_rr (a b : Str) : decide ((Sum.inr a : Key) = Sum.inr b) = decide (a = b) := by
  by_cases e : a = b
  · subst e; simp
  · have h : ¬ (Sum.inr a : Key) = Sum.inr b := fun q => e (Sum.inr.inj q)
    rw [decide_eq_false h, decide_eq_false e]
theorem key_lr (a : Int) (b : Str) : decide ((Sum.inl a : Key) = Sum.inr b) = false := decide_eq_false (fun q => nomatch q)
theorem key_rl (a : Str) (b : Int) : decide ((Sum.inr a : Key) = Sum.inl b) = false := decide_eq_false (fun q => nomatch q)

def mixKind (prog : Program) (w : World) : PySem.KeyKind prog w Key where
  is := keyIs
  hash := keyH w
  inj := fun v a b ha hb => by
    rcases keyIs_shape ha with ⟨i, t, rfl, rfl⟩ | ⟨x, t, rfl, rfl⟩
    · rcases keyIs_shape hb with ⟨j, u, rfl, e⟩ | ⟨y, u, rfl, e⟩
      · injection e with e1 _; rw [e1]
      · exact nomatch e
    · rcases keyIs_shape hb with ⟨j, u, rfl, e⟩ | ⟨y, u, rfl, e⟩
      · exact nomatch e
      · injection e with e1 _; rw [e1]
  byValue := fun k v h => by
    rcases keyIs_shape h with ⟨i, t, rfl, rfl⟩ | ⟨x, t, rfl, rfl⟩ <;> rfl
  pyHash := fun hv h => by
    rcases keyIs_shape hv with ⟨i, t, rfl, rfl⟩ | ⟨x, t, rfl, rfl⟩
    · exact wpAny_pyHash_int h
    · exact wpAny_pyHash_str h
  eqBool := fun hu hv h => by
    rcases keyIs_shape hu with ⟨i, t, rfl, rfl⟩ | ⟨x, t, rfl, rfl⟩
    · rcases keyIs_shape hv with ⟨j, u, rfl, rfl⟩ | ⟨y, u, rfl, rfl⟩
      · rw [key_ll] at h; exact wpAny_eqBool_int h
      · rw [key_lr] at h; exact SeqAt.EqAt.int_str i t y u _ _ _ _ h
    · rcases keyIs_shape hv with ⟨j, u, rfl, rfl⟩ | ⟨y, u, rfl, rfl⟩
      · rw [key_rl] at h; exact SeqAt.EqAt.str_int x t j u _ _ _ _ h
      · rw [key_rr] at h; exact wpAny_eqBool_str h
  «strs» := fun k x t v h => by
    rcases keyIs_shape h with ⟨i, u, rfl, e⟩ | ⟨y, u, rfl, e⟩
    · exact nomatch e
    · injection e with e1 _
      subst e1
      cases v <;> rfl

theorem mixKind_is (prog : Program) (w : World) (k : Key) (v : Value) : (mixKind prog w).is k v = keyIs k v := rfl
theorem mixKind_int (prog : Program) (w : World) (i : Int) (t : Tok) : (mixKind prog w).is (.inl i) (.int i t) = true := keyIs_int i t
theorem mixKind_str (prog : Program) (w : World) (x : Str) (t : Tok) : (mixKind prog w).is (.inr x) (.str x t) = true := keyIs_str x t
end L2

namespace L2
open PySem PySem.Spec PyProof.Rows

/-- a value, without the heap -/
inductive V where
  | non | bl (b : Bool) | int (i : Int) | str (x : Str) | byt (b : Array UInt8) | flt (b : UInt64) | ref (a : Addr) | ty (n : String)
  deriving DecidableEq

def RelV : V → Value → Prop
  | .non, u => u = Value.none
  | .bl b, u => u = Value.bool b
  | .int i, u => ∃ t, u = Value.int i t
  | .str x, u => ∃ t, u = Value.str x t
  | .byt b, u => ∃ t, u = Value.bytes b t
  | .flt b, u => ∃ t, u = Value.float b t
  | .ref a, u => u = Value.ref a
  | .ty n, u => u = Value.type n

abbrev Vals : List V → List Value → Prop := Paired RelV
theorem Vals.length {xs : List V} {us : List Value} (r : Vals xs us) : xs.length = us.length := Paired.length r
theorem Vals.get : ∀ {xs : List V} {us : List Value} {i : Nat} {x : V}, Vals xs us → xs[i]? = some x → ∃ u, us[i]? = some u ∧ RelV x u
  | _, _, _, _, .nil, e => by simp at e
  | _, _, 0, _, .cons r _, e => by simp at e; subst e; exact ⟨_, rfl, r⟩
  | _, _, i + 1, x, .cons _ t, e => by
    obtain ⟨u, h1, h2⟩ := Vals.get (i := i) (x := x) t (by simpa using e)
    exact ⟨u, by simpa using h1, h2⟩
theorem Vals.set {x : V} {u : Value} (r : RelV x u) : ∀ {xs : List V} {us : List Value} (i : Nat), Vals xs us → Vals (xs.set i x) (us.set i u)
  | _, _, _, .nil => .nil
  | _, _, 0, .cons _ t => .cons r t
  | _, _, i + 1, .cons q t => .cons q (Vals.set r i t)
theorem Vals.append : ∀ {xs ys : List V} {us ws : List Value}, Vals xs us → Vals ys ws → Vals (xs ++ ys) (us ++ ws)
  | _, _, _, _, .nil, s => s
  | _, _, _, _, .cons r t, s => .cons r (Vals.append t s)
theorem Vals.take : ∀ {xs : List V} {us : List Value} (n : Nat), Vals xs us → Vals (xs.take n) (us.take n)
  | _, _, 0, _ => .nil
  | _, _, _ + 1, .nil => .nil
  | _, _, n + 1, .cons r t => .cons r (Vals.take n t)
theorem Vals.drop : ∀ {xs : List V} {us : List Value} (n : Nat), Vals xs us → Vals (xs.drop n) (us.drop n)
  | _, _, 0, r => r
  | _, _, _ + 1, .nil => .nil
  | _, _, n + 1, .cons _ t => Vals.drop n t
theorem Vals.none_of : ∀ {xs : List V} {us : List Value} {i : Nat}, Vals xs us → xs[i]? = none → us[i]? = none := fun {xs us i} r e => by
  have h1 := r.length
  have h2 : xs.length ≤ i := List.getElem?_eq_none_iff.mp e
  exact List.getElem?_eq_none_iff.mpr (by omega)

def RelO : Option V → Option Value → Prop
  | some v, some u => RelV v u
  | none, none => True
  | _, _ => False
def KV {κ : Type} : List (κ × V) → List (κ × Value) → Prop := Paired fun (p : κ × V) (q : κ × Value) => p.1 = q.1 ∧ RelV p.2 q.2

/-- a key of a dict (00_mix): an int or a text -/
def kV : Key → V
  | .inl i => .int i
  | .inr x => .str x

/-- what stands at a tracked address -/
inductive HO where
  /-- a list -/
  | lst (xs : List V)
  /-- a tuple (never changes) -/
  | tup (xs : List V)
  /-- a dict whose keys are ints and texts; one whose keys are tuples of ints and texts (the empty one is both) -/
  | dK (kvs : List (Key × V)) | dT (kvs : List (List Key × V))
  /-- a set of ints: its members, its size -/
  | set (S : Int → Bool) (n : Nat)
  /-- an instance of the class at C, its dict at dx, its attributes -/
  | ins (C dx : Addr) (fs : List (Str × V))
  /-- the dict of the instance at x -/
  | own (x : Addr)
  /-- the dict of an exception -/
  | xd (fs : List (Str × V))
  /-- a bound method, f of x -/
  | met (f x : Addr)
  /-- a range object lo, lo + 1, .. below hi -/
  | rng (lo hi : Int)
  /-- a thing that is known to the object (the script; a dict while a loop walks it): read, never written while it is so -/
  | frz (o : Obj) (u : HO)
  /-- a code object's table -/
  | tbl (ps : Array Value)
  /-- any other thing, by what is true of its one object (a def of one's own: SetO a S n := HO.ext fun h => ..) -/
  | ext (φ : Heap → Prop)

abbrev Hp := Addr → Option HO
def upd (H : Hp) (a : Addr) (o : HO) : Hp := fun b => if b = a then some o else H b
theorem upd_same {H : Hp} {a : Addr} {o : HO} : upd H a o a = some o := by unfold upd; rw [if_pos rfl]
theorem upd_ne {H : Hp} {a b : Addr} {o : HO} (h : b ≠ a) : upd H a o b = H b := by unfold upd; rw [if_neg h]
theorem upd_upd {H : Hp} {a : Addr} {o u : HO} : upd (upd H a o) a u = upd H a u := by
  funext b; unfold upd; split <;> rfl
/-- two objects of different content stand apart -/
theorem ne_of {H : Hp} {a b : Addr} {o u : HO} (h : H a = some o) (h' : H b = some u) (d : o ≠ u) : a ≠ b := by
  intro e; subst e; rw [h] at h'; exact d (Option.some.inj h')
theorem ne_of_none {H : Hp} {a b : Addr} {o : HO} (h : H a = some o) (h' : H b = none) : a ≠ b := by
  intro e; subst e; rw [h] at h'; cases h'

section
variable (P : Program) (w : World)
def ObjOk (H : Hp) (h : Heap) (a : Addr) : HO → Prop
  | .lst xs => xs.length ≤ sizeLine ∧ ∃ (its : List Value) (n : Nat), Vals xs its ∧ h.get? a = some { cls := .type "list", data := .seq its.toArray n }
  | .tup xs => xs.length ≤ sizeLine ∧ ∃ its : List Value, Vals xs its ∧ IsTup h a its.toArray
  | .dK kvs => kvs.length ≤ sizeLine ∧ (a == sysModules) = false ∧ ∃ vs, KV kvs vs ∧ h.DictOf (mixKind P w) a vs
  | .dT kvs => kvs.length ≤ sizeLine ∧ (a == sysModules) = false ∧ ∃ xs : List (List Key × Addr × Value),
      Paired (fun (p : List Key × V) (q : List Key × Addr × Value) => p.1 = q.1 ∧ H q.2.1 = some (.tup (p.1.map kV)) ∧ RelV p.2 q.2.2) kvs xs ∧
      ∃ o es ep, h.get? a = some o ∧ o.ExactDict ∧ o.data = .dict es ep ∧ es.toList = xs.map (entryOfKey (tupleKind (mixKind P w))) ∧ (xs.map (·.1)).Nodup
  | .set S n => h.SetOf (intKind P w) a S n
  | .ins C dx fs => H dx = some (.own a) ∧ fs.length ≤ 1000 ∧ dx ≠ a ∧ h.get? a = some (PySem.W.instObj C dx) ∧
      ∃ mA, h.Ns1 dx mA ∧ (∀ f, RelO (fs.lookup f) (mA f)) ∧ PySem.Within mA (fs.map (·.1))
  | .own _ => ∃ o, h.get? a = some o
  | .xd fs => ∃ mA, h.Ns1 a mA ∧ ∀ f, RelO (fs.lookup f) (mA f)
  | .rng lo hi => ∃ t u v, h.get? a = some { cls := .type "range", data := .fields #[.int lo t, .int hi u, .int 1 v] }
  | .frz o u => h.get? a = some o ∧ ObjOk H h a u
  | .tbl ps => h.get? a = some { cls := .none, data := .fields ps }
  | .met f x => h.get? a = some (PySem.W.methodObj (.ref f) (.ref x))
  | .ext φ => φ h ∧ (∃ o, h.get? a = some o) ∧ ∀ h1 h2 : Heap, φ h1 → (∀ o, h1.get? a = some o → h2.get? a = some o) → φ h2
/-- the abstract heap is held -/
def HOk (H : Hp) (h : Heap) : Prop := ∀ a o, H a = some o → ObjOk P w H h a o
end

section
variable {P : Program} {w : World} {H H' : Hp} {h h' : Heap} {a : Addr} {o : HO}
theorem ObjOk.lt (x : ObjOk P w H h a o) : a < h.objs.size := by
  cases o with
  | lst xs => obtain ⟨_, _, _, _, e⟩ := x; exact Heap.lt_size e
  | tup xs => obtain ⟨_, _, _, p⟩ := x; exact p.lt
  | dK kvs => obtain ⟨_, _, _, _, o, _, _, e, _⟩ := x; exact Heap.lt_size e
  | dT kvs => obtain ⟨_, _, _, _, o, _, _, e, _⟩ := x; exact Heap.lt_size e
  | set S n => obtain ⟨o, _, _, _, e, _⟩ := x; exact Heap.lt_size e
  | ins C dx fs => obtain ⟨_, _, _, e, _⟩ := x; exact Heap.lt_size e
  | own y => obtain ⟨_, e⟩ := x; exact Heap.lt_size e
  | xd fs => obtain ⟨_, ⟨_, _, _, e, _⟩, _⟩ := x; exact Heap.lt_size e
  | rng lo hi => obtain ⟨_, _, _, e⟩ := x; exact Heap.lt_size e
  | frz ob u => obtain ⟨e, _⟩ := x; exact Heap.lt_size e
  | tbl ps => exact Heap.lt_size (show h.get? a = some _ from x)
  | met f y => exact Heap.lt_size (show h.get? a = some _ from x)
  | ext φ => obtain ⟨_, ⟨_, e⟩, _⟩ := x; exact Heap.lt_size e
theorem Paired.mapP {α β : Type} {F G : α → β → Prop} : ∀ {l₁ : List α} {l₂ : List β}, Paired F l₁ l₂ → (∀ a b, F a b → G a b) → Paired G l₁ l₂
  | _, _, .nil, _ => .nil
  | _, _, .cons r t, f => .cons (f _ _ r) (Paired.mapP t f)
theorem Paired.imp' {α β : Type} {F G : α → β → Prop} (f : ∀ a b, F a b → G a b) {l₁ : List α} {l₂ : List β} (r : Paired F l₁ l₂) : Paired G l₁ l₂ := Paired.mapP r f
/-- what an object's description leans on: its own object, its own dict, the tuples -/
theorem ObjOk.stay (x : ObjOk P w H h a o) (k : ∀ b u, (b = a ∨ H b = some (.own a)) → h.get? b = some u → h'.get? b = some u)
    (ho : ∀ b, H b = some (.own a) → H' b = some (.own a)) (ht : ∀ b xs, H b = some (.tup xs) → H' b = some (.tup xs)) : ObjOk P w H' h' a o := by
  induction o with
  | lst xs => obtain ⟨z, its, n, r, e⟩ := x; exact ⟨z, its, n, r, k _ _ (.inl rfl) e⟩
  | tup xs => obtain ⟨z, its, r, ob, e, c⟩ := x; exact ⟨z, its, r, ob, k _ _ (.inl rfl) e, c⟩
  | dK kvs => obtain ⟨z, y, vs, r, ob, es, ep, e, c⟩ := x; exact ⟨z, y, vs, r, ob, es, ep, k _ _ (.inl rfl) e, c⟩
  | dT kvs =>
    obtain ⟨z, y, xs, r, ob, es, ep, e, c⟩ := x
    exact ⟨z, y, xs, Paired.mapP r fun p q z => ⟨z.1, ht _ _ z.2.1, z.2.2⟩, ob, es, ep, k _ _ (.inl rfl) e, c⟩
  | set S n => obtain ⟨ob, es, ep, t, e, c⟩ := x; exact ⟨ob, es, ep, t, k _ _ (.inl rfl) e, c⟩
  | ins C dx fs =>
    obtain ⟨d, z, ne, e, mA, ⟨od, es, ep, e2, c⟩, r⟩ := x
    exact ⟨ho _ d, z, ne, k _ _ (.inl rfl) e, mA, ⟨od, es, ep, k _ _ (.inr d) e2, c⟩, r⟩
  | own y => obtain ⟨ob, e⟩ := x; exact ⟨ob, k _ _ (.inl rfl) e⟩
  | xd fs => obtain ⟨mA, ⟨od, es, ep, e, c⟩, r⟩ := x; exact ⟨mA, ⟨od, es, ep, k _ _ (.inl rfl) e, c⟩, r⟩
  | rng lo hi => obtain ⟨t, u, v, e⟩ := x; exact ⟨t, u, v, k _ _ (.inl rfl) e⟩
  | frz ob u ih => obtain ⟨e, q⟩ := x; exact ⟨k _ _ (.inl rfl) e, ih q⟩
  | tbl ps =>
    have e : h.get? a = some { cls := .none, data := .fields ps } := x
    show h'.get? a = some { cls := .none, data := .fields ps }
    exact k a _ (.inl rfl) e
  | met f y =>
    have e : h.get? a = some (PySem.W.methodObj (.ref f) (.ref y)) := x
    show h'.get? a = some (PySem.W.methodObj (.ref f) (.ref y))
    exact k a _ (.inl rfl) e
  | ext φ => obtain ⟨p, ⟨o, e⟩, st⟩ := x; exact ⟨st _ _ p fun o q => k _ _ (.inl rfl) q, ⟨o, k _ _ (.inl rfl) e⟩, st⟩
theorem HOk.lt (x : HOk P w H h) (e : H a = some o) : a < h.objs.size := (x a o e).lt
theorem HOk.fresh (x : HOk P w H h) (e : h.objs.size ≤ a) : H a = none := by
  cases q : H a with
  | none => rfl
  | some u => exact absurd (Nat.lt_of_lt_of_le (x.lt q) e) (Nat.lt_irrefl _)
/-- every object of the heap is kept -/
theorem HOk.kept (x : HOk P w H h) (k : ∀ b u, h.get? b = some u → h'.get? b = some u) : HOk P w H h' := fun a o e =>
  (x a o e).stay (fun b u _ q => k b u q) (fun _ q => q) fun _ _ q => q
/-- a new object is laid and tracked -/
theorem HOk.laid (x : HOk P w H h) (k : ∀ b u, h.get? b = some u → h'.get? b = some u) (hp : h.objs.size ≤ a) (new : ObjOk P w (upd H a o) h' a o) : HOk P w (upd H a o) h' := fun b u e => by
  have hn := x.fresh hp
  by_cases hb : b = a
  · subst hb; rw [upd_same] at e; cases e; exact new
  · rw [upd_ne hb] at e
    exact (x b u e).stay (fun c v _ q => k c v q) (fun c q => by rw [upd_ne (ne_of_none q hn)]; exact q) fun c xs q => by rw [upd_ne (ne_of_none q hn)]; exact q
end

/-- what may be read as u: it is u, or a known u -/
def Rd (H : Hp) (a : Addr) (u : HO) : Prop := H a = some u ∨ ∃ o, H a = some (.frz o u)
theorem Rd.of {H : Hp} {a : Addr} {u : HO} (h : H a = some u) : Rd H a u := .inl h
theorem Rd.ok {P : Program} {w : World} {H : Hp} {h : Heap} {a : Addr} {u : HO} (r : Rd H a u) (x : HOk P w H h) : ObjOk P w H h a u := by
  rcases r with r | ⟨o, r⟩
  · exact x a u r
  · obtain ⟨_, q⟩ := x a _ r
    exact q
/-- what may be written -/
def Mut : Option HO → Prop
  | some (.lst _) => True
  | some (.dK _) => True
  | some (.dT _) => True
  | some (.set _ _) => True
  | some (.ins _ _ _) => True
  | some (.ext _) => True
  | _ => False
section
variable {P : Program} {w : World} {H : Hp} {h h' : Heap} {x e : Addr} {o' : HO}
/-- the object at e is changed: x itself, or the dict of the instance x -/
theorem HOk.write (ok : HOk P w H h) (mu : Mut (H x)) (he : e = x ∨ H e = some (.own x)) (k : ∀ b u, b ≠ e → h.get? b = some u → h'.get? b = some u) (heo : ∃ u, h'.get? e = some u)
    (new : ObjOk P w (upd H x o') h' x o') : HOk P w (upd H x o') h' := fun b u q => by
  have nown : ∀ c y, H c = some (.own y) → c ≠ x := fun c y r z => by subst z; rw [r] at mu; exact mu
  have ntup : ∀ c xs, H c = some (.tup xs) → c ≠ x := fun c xs r z => by subst z; rw [r] at mu; exact mu
  by_cases hb : b = x
  · subst hb; rw [upd_same] at q; cases q; exact new
  · rw [upd_ne hb] at q
    by_cases hbe : b = e
    · have q' : H b = some (.own x) := by
        rcases he with z | z
        · exact absurd (hbe.trans z) hb
        · rw [hbe]; exact z
      rw [q] at q'; cases q'
      obtain ⟨v, hv⟩ := heo
      exact ⟨v, by rw [hbe]; exact hv⟩
    · refine (ok b u q).stay (fun c v hc r => k c v ?_ r) (fun c r => by rw [upd_ne (nown c b r)]; exact r) fun c xs r => by rw [upd_ne (ntup c xs r)]; exact r
      rcases hc with rfl | hc
      · exact hbe
      · rintro rfl
        rcases he with z | z
        · exact nown c b hc z
        · rw [hc] at z; cases z; exact hb rfl
end

/-! ### kept unless tracked; of the frames at fs (the callers') the slots may change (an exception that passes writes there); of the records at ex (iterators) nothing is said -/
structure Un (fs ex : List Addr) (H H' : Hp) (h h' : Heap) : Prop where
  keep : ∀ b o, h.get? b = some o → H b = none → b ∉ fs → b ∉ ex → h'.get? b = some o
  slot : ∀ b o, h.get? b = some o → H b = none → b ∈ fs → b ∉ ex → ∃ sl, h'.get? b = some { o with slots := sl }
  free : ∀ b o, h.get? b = some o → H b = none → b ∉ ex → H' b = none
  there : ∀ b o, h.get? b = some o → b ∉ ex → ∃ o', h'.get? b = some o'
  tups : ∀ b xs, H b = some (.tup xs) → H' b = some (.tup xs)
  frzs : ∀ b o u, H b = some (.frz o u) → H' b = some (.frz o u)
  tbls : ∀ b ps, H b = some (.tbl ps) → ∃ more, H' b = some (.tbl (ps ++ more))
section
variable {fs fs' ex ex' : List Addr} {H H1 H2 : Hp} {h h1 h2 h' : Heap} {a x e : Addr} {o : HO}
theorem Un.any (u : Un fs ex H H1 h h1) {b : Addr} {ob : Obj} (q : h.get? b = some ob) (n : H b = none) (hx : b ∉ ex) : ∃ sl, h1.get? b = some { ob with slots := sl } := by
  by_cases hb : b ∈ fs
  · exact u.slot b ob q n hb hx
  · exact ⟨ob.slots, u.keep b ob q n hb hx⟩
theorem Un.trans (a : Un fs ex H H1 h h1) (b : Un fs ex H1 H2 h1 h2) : Un fs ex H H2 h h2 where
  keep := fun c ob q n hc hx => b.keep c ob (a.keep c ob q n hc hx) (a.free c ob q n hx) hc hx
  slot := fun c ob q n hc hx => by
    obtain ⟨sl, e1⟩ := a.slot c ob q n hc hx
    obtain ⟨sl', e2⟩ := b.slot c _ e1 (a.free c ob q n hx) hc hx
    exact ⟨sl', e2⟩
  free := fun c ob q n hx => by
    obtain ⟨o', e1⟩ := a.there c ob q hx
    exact b.free c o' e1 (a.free c ob q n hx) hx
  there := fun c ob q hx => by
    obtain ⟨o', e1⟩ := a.there c ob q hx
    exact b.there c o' e1 hx
  tups := fun c xs q => b.tups c xs (a.tups c xs q)
  frzs := fun c ob xs q => b.frzs c ob xs (a.frzs c ob xs q)
  tbls := fun c ps q => by
    obtain ⟨m1, e1⟩ := a.tbls c ps q
    obtain ⟨m2, e2⟩ := b.tbls c _ e1
    exact ⟨m1 ++ m2, by rw [e2, Array.append_assoc]⟩
theorem Un.kept (k : ∀ b u, h.get? b = some u → h'.get? b = some u) : Un fs ex H H h h' :=
  ⟨fun b ob q _ _ _ => k b ob q, fun b ob q _ _ _ => ⟨ob.slots, k b ob q⟩, fun _ _ _ n _ => n, fun b ob q _ => ⟨ob, k b ob q⟩, fun _ _ q => q, fun _ _ _ q => q, fun _ ps q => ⟨#[], by rw [q]; simp⟩⟩
theorem Un.refl : Un fs ex H H h h := Un.kept fun _ _ q => q
theorem Un.laid (k : ∀ b u, h.get? b = some u → h'.get? b = some u) (hp : h.objs.size ≤ a) (hn : H a = none) : Un fs ex H (upd H a o) h h' where
  keep := fun b u q _ _ _ => k b u q
  slot := fun b u q _ _ _ => ⟨u.slots, k b u q⟩
  free := fun b u q n _ => by rw [upd_ne (Nat.ne_of_lt (Nat.lt_of_lt_of_le (Heap.lt_size q) hp))]; exact n
  there := fun b u q _ => ⟨u, k b u q⟩
  tups := fun b xs q => by rw [upd_ne (ne_of_none q hn)]; exact q
  frzs := fun b u xs q => by rw [upd_ne (ne_of_none q hn)]; exact q
  tbls := fun b ps q => ⟨#[], by rw [upd_ne (ne_of_none q hn), q]; simp⟩
theorem Un.write (mu : Mut (H x)) (he : e = x ∨ H e = some (.own x)) (k : ∀ b u, b ≠ e → h.get? b = some u → h'.get? b = some u) (heo : ∃ u, h'.get? e = some u) : Un fs ex H (upd H x o) h h' := by
  have hx : ∀ b, H b = none → b ≠ x := fun b n z => by subst z; rw [n] at mu; exact mu
  have hb : ∀ b, H b = none → b ≠ e := fun b n z => by
    subst z
    rcases he with r | r
    · exact hx b n r
    · rw [n] at r; cases r
  have hm : ∀ b u, H b = some u → ¬ Mut (some u) → b ≠ x := fun b u q nm z => by subst z; rw [q] at mu; exact nm mu
  refine ⟨fun b u q n _ _ => k b u (hb b n) q, fun b u q n _ _ => ⟨u.slots, k b u (hb b n) q⟩, fun b u q n _ => by rw [upd_ne (hx b n)]; exact n, fun b u q _ => ?_,
    fun b xs q => by rw [upd_ne (hm b _ q fun z => z)]; exact q, fun b u xs q => by rw [upd_ne (hm b _ q fun z => z)]; exact q, fun b ps q => ⟨#[], by rw [upd_ne (hm b _ q fun z => z), q]; simp⟩⟩
  by_cases hbe : b = e
  · subst hbe; exact heo
  · exact ⟨u, k b u hbe q⟩
theorem Un.mono (u : Un fs ex H H1 h h1) (hs : ∀ b ∈ fs, b ∈ fs') (hx : ∀ b ∈ ex, b ∈ ex') : Un fs' ex' H H1 h h1 :=
  ⟨fun b ob q n hb he => u.keep b ob q n (fun z => hb (hs b z)) fun z => he (hx b z), fun _ _ q n _ he => u.any q n fun z => he (hx _ z), fun b ob q n he => u.free b ob q n fun z => he (hx b z), fun b ob q he => u.there b ob q fun z => he (hx b z), u.tups, u.frzs, u.tbls⟩
end

/-! ### the heap without what is tracked -/
def trk (h : Heap) (H : Hp) : List Addr := (List.range h.objs.size).filter fun a => (H a).isSome
def hidT (h : Heap) (H : Hp) : Heap := PySem.W.hideAll h (trk h H)
theorem hidT_size (h : Heap) (H : Hp) : (hidT h H).objs.size = h.objs.size := PySem.W.hideAll_size _ _
theorem hidT_get {h : Heap} {H : Hp} {b : Addr} {o : Obj} (e : h.get? b = some o) (n : H b = none) : (hidT h H).get? b = some o :=
  PySem.W.hideAll_get _ e fun hm => by
    have q : (H b).isSome = true := (List.mem_filter.mp hm).2
    rw [n] at q; simp at q
theorem of_hidT {h : Heap} {H : Hp} {b : Addr} {o : Obj} (e : (hidT h H).get? b = some o) : h.get? b = some o ∧ H b = none := by
  have e' : h.get? b = some o := PySem.W.of_hideAll (trk h H) e
  refine ⟨e', ?_⟩
  cases q : H b with
  | none => rfl
  | some x =>
    have hm : b ∈ trk h H := List.mem_filter.mpr ⟨List.mem_range.mpr (Heap.lt_size e'), by simp [q]⟩
    have z : (hidT h H).get? b = none := PySem.W.hideAll_none (trk h H) hm
    rw [z] at e; cases e

/-! ### OpenK's ledger, filled with every new object but one -/
def allNews (g h : Heap) (L : Addr) : List (Addr × Obj) := (List.range h.objs.size).filterMap fun a => if a = L ∨ (g.get? a).isSome = true then none else (h.get? a).map fun o => (a, o)
theorem mem_allNews {g h : Heap} {L a : Addr} {o : Obj} (h1 : a ≠ L) (h2 : g.get? a = none) (h3 : h.get? a = some o) : (a, o) ∈ allNews g h L :=
  List.mem_filterMap.mpr ⟨a, List.mem_range.mpr (Heap.lt_size h3), by simp [h1, h2, h3]⟩
theorem of_mem_allNews {g h : Heap} {L : Addr} {p : Addr × Obj} (hp : p ∈ allNews g h L) : p.1 ≠ L ∧ g.get? p.1 = none ∧ h.get? p.1 = some p.2 := by
  obtain ⟨b, _, e⟩ := List.mem_filterMap.mp hp
  split at e
  · cases e
  · rename_i hn
    cases q : h.get? b with
    | none => rw [q] at e; simp at e
    | some u =>
      rw [q] at e
      simp only [Option.map_some, Option.some.injEq] at e
      subst e
      refine ⟨fun z => hn (.inl z), ?_, q⟩
      show g.get? b = none
      cases r : g.get? b with
      | none => rfl
      | some v => exact (hn (.inr (by simp [r]))).elim
def rest (g h : Heap) (L d : Addr) : List (Addr × Obj) := (allNews g h L).filter fun p => decide (p.1 ≠ d)
theorem rest_ne {g h : Heap} {L d : Addr} : ∀ p ∈ rest g h L d, p.1 ≠ d := fun p hp => of_decide_eq_true (List.mem_filter.mp hp).2
theorem mem_rest {g h : Heap} {L d a : Addr} {o : Obj} (h1 : a ≠ L) (h2 : g.get? a = none) (h3 : h.get? a = some o) (h4 : a ≠ d) : (a, o) ∈ rest g h L d :=
  List.mem_filter.mpr ⟨mem_allNews h1 h2 h3, decide_eq_true h4⟩
theorem news_all {g h : Heap} {L : Addr} : News g L h (allNews g h L) := fun p hp => let ⟨a, b, c⟩ := of_mem_allNews hp; ⟨c, a, b⟩
theorem news_at {g h : Heap} {L d : Addr} {o : Obj} (h1 : d ≠ L) (h2 : g.get? d = none) (h3 : h.get? d = some o) : News g L h ((d, o) :: rest g h L d) := fun p hp => by
  rcases List.mem_cons.mp hp with rfl | hp
  · exact ⟨h3, h1, h2⟩
  · exact news_all p (List.mem_filter.mp hp).1
/-- behind a rule that changed d alone: all else but the frame is kept -/
theorem kept_of_news {g h h' : Heap} {L d : Addr} {m : Str → Option Value} (k : ∀ b o, g.get? b = some o → h.get? b = some o) (F : Fr g L h' m) (N : News g L h' (rest g h L d)) :
    ∀ b o, b ≠ L → b ≠ d → h.get? b = some o → h'.get? b = some o := fun b o h1 h2 e => by
  cases q : g.get? b with
  | some u =>
    have := k b u q
    rw [e] at this; cases this
    exact F.keep b _ q
  | none => exact (N (b, o) (mem_rest h1 q e h2)).1
end L2

namespace L2
open PySem PySem.Spec PyProof.Rows

/-- the module's facts, over the base: the heap at the law's entry without what is tracked there -/
structure Mod (K : PySem.W.Frag) (mg : Str → Option Value) (base : Heap) : Prop where
  kin : K.In base
  glob : base.Ns mainGlobals mg
  blt : ∃ mb, base.Ns builtinsNs mb ∧ ∀ x : Str, x ≠ "__name__" → mb x = bootBuiltins x
  nolimit : base.NoLimit

/-- the context: a def's body (or a comprehension's block) running. base: fixed through the whole law; s₀, H₀: the entry; outer: the frames whose slots others may change (a def's callers); stack: all frames that run;
   ex: iterators that were made ahead of the entry and are walked here (a comprehension's); fn: the names whose cells were made at the entry (a def: all; a comprehension's block: its own); calm: not within an except suite; pn: pins that every state bears; xe: what is wanted of an exception that leaves the code -/
structure Cx where
  prog : Program
  w : World
  K : PySem.W.Frag
  mg : Str → Option Value
  base : Heap
  A : Around
  N : List Str
  s₀ : Shared
  H₀ : Hp
  env : Env
  outer : List Env
  stack : List Env
  ex : List Addr
  fn : Str → Bool
  calm : Bool
  pn : List (Addr × Obj)
  xe : Value → Shared → Prop
/-- the callers' frames -/
def frs (l : List Env) : List Addr := l.filterMap (·.frame)
abbrev Cx.fs (X : Cx) : List Addr := frs X.outer

def Vis (sc : Scope) (x : Str) : Prop := sc.names.lookup x = some .local ∨ sc.names.lookup x = some .cell ∨ sc.names.lookup x = some .free
def Loc (sc : Scope) (x : Str) : Prop := sc.names.lookup x = some .local ∨ sc.names.lookup x = some .cell
def Look (env : Env) (h : Heap) (m : Str → Option Value) (x : Str) (u : Value) : Prop :=
  (env.kindOf x = some .local ∧ m x = some u) ∨ ((env.kindOf x = some .cell ∨ env.kindOf x = some .free) ∧ ∃ c, env.cells.lookup x = some c ∧ h.IsCell c (some u))

structure Cx.Ok (X : Cx) : Prop where
  mod : Mod X.K X.mg X.base
  kind : X.env.scope.kind = .function
  glob : X.env.globals = mainGlobals
  blt : X.env.builtins = builtinsNs
  above : X.s₀.heap.objs.size ≤ X.env.locals
  inj : ∀ x y c, X.env.cells.lookup x = some c → X.env.cells.lookup y = some c → x = y
  has : ∀ x, (X.env.kindOf x = some .cell ∨ X.env.kindOf x = some .free) → ∃ c, X.env.cells.lookup x = some c
  cab : ∀ x c, X.fn x = true → X.env.cells.lookup x = some c → X.s₀.heap.objs.size ≤ c
  hd : X.calm = true → X.A.handled = none
  frames : X.A.frames = some X.stack
  stk : X.stack = X.outer ∨ (X.stack = X.env :: X.outer ∧ X.env.frame = some X.env.locals)
  exf : ∀ b ∈ X.ex, b ≠ X.env.locals ∧ ∀ x c, X.env.cells.lookup x = some c → c ≠ b
  bs : ∀ b o, X.base.get? b = some o → X.s₀.heap.get? b = some o ∧ X.H₀ b = none
  bsz : X.base.objs.size ≤ X.s₀.heap.objs.size
  noex : ∀ b o, X.base.get? b = some o → b ∉ X.ex
  exfs : ∀ b ∈ X.ex, b ∉ X.fs
  funs : X.s₀.heap.FunFrames X.base X.outer
  frf : ∀ b ∈ X.fs, X.H₀ b = none

structure Inv (X : Cx) (pins : List (Addr × Obj)) (σ : List (Option V)) (H : Hp) (s : Shared) : Prop where
  ok : X.Ok
  os : s.os = X.s₀.os
  bare : AllBare s.gens
  base : Un X.fs X.ex X.H₀ H X.s₀.heap s.heap
  loc : ∃ m, s.heap.Ns X.env.locals m ∧ ∀ (i : Nat) (x : Str) (v : V), X.N[i]? = some x → σ[i]? = some (some v) → Vis X.env.scope x → ∃ u, RelV v u ∧ Look X.env s.heap m x u
  cell : ∀ x c, X.env.cells.lookup x = some c → ∃ v, s.heap.IsCell c v
  free : H X.env.locals = none
  freeC : ∀ x c, X.env.cells.lookup x = some c → H c = none
  pin : ∀ p ∈ X.pn ++ pins, s.heap.get? p.1 = some p.2 ∧ H p.1 = none ∧ p.1 ≠ X.env.locals ∧ p.1 ∉ X.fs ∧ ∀ v, p.2.data ≠ .cell v
  hok : HOk X.prog X.w H s.heap
  len : σ.length = X.N.length

section
variable {X : Cx} {pins : List (Addr × Obj)} {σ : List (Option V)} {H H' : Hp} {s : Shared} {h' : Heap}

theorem Cx.Ok.nofr (ok : X.Ok) {b : Addr} {o : Obj} (e : X.base.get? b = some o) : b ∉ X.fs := fun hb => by
  have := (ok.funs.mem hb).1
  rw [e] at this; cases this
theorem Inv.bs (I : Inv X pins σ H s) : ∀ b o, X.base.get? b = some o → s.heap.get? b = some o ∧ H b = none := fun b o e =>
  ⟨I.base.keep b o (I.ok.bs b o e).1 (I.ok.bs b o e).2 (I.ok.nofr e) (I.ok.noex b o e), I.base.free b o (I.ok.bs b o e).1 (I.ok.bs b o e).2 (I.ok.noex b o e)⟩
theorem Inv.bk (I : Inv X pins σ H s) : ∀ b o, X.base.get? b = some o → s.heap.get? b = some o := fun b o e => (I.bs b o e).1
theorem Inv.mod (I : Inv X pins σ H s) : Mod X.K X.mg X.base := I.ok.mod
theorem Inv.kIn (I : Inv X pins σ H s) : X.K.In s.heap := I.ok.mod.kin.keeps I.bk
theorem Inv.nolimit (I : Inv X pins σ H s) : s.heap.NoLimit := I.ok.mod.nolimit.keeps I.bk
/-- the frame over the base: for OpenK's rules (K.In X.base is I.mod.kin) -/
theorem Inv.fr (I : Inv X pins σ H s) : ∃ m, Fr X.base X.env.locals s.heap m :=
  let ⟨m, hn, _⟩ := I.loc
  ⟨m, hn, I.bk, Nat.le_trans I.ok.bsz I.ok.above⟩
theorem Inv.lt (I : Inv X pins σ H s) : X.env.locals < s.heap.objs.size := let ⟨_, hn, _⟩ := I.loc; hn.lt
theorem Inv.sz (I : Inv X pins σ H s) : X.s₀.heap.objs.size ≤ s.heap.objs.size := Nat.le_trans I.ok.above (Nat.le_of_lt I.lt)
theorem Inv.nofs (I : Inv X pins σ H s) {a : Addr} (h : s.heap.objs.size ≤ a) : a ∉ X.fs := fun hb => by
  obtain ⟨_, o, ho, _⟩ := I.ok.funs.mem hb
  exact absurd (Nat.lt_of_lt_of_le (Heap.lt_size ho) (Nat.le_trans I.sz h)) (Nat.lt_irrefl _)
theorem Inv.cne (I : Inv X pins σ H s) : ∀ x c, X.env.cells.lookup x = some c → c ≠ X.env.locals := fun x c e z => by
  obtain ⟨v, o, ho, hd⟩ := I.cell x c e
  obtain ⟨m, ⟨o', es, ep, ho', hd', _⟩, _⟩ := I.loc
  rw [z, ho'] at ho; cases ho; rw [hd'] at hd; cases hd
theorem Inv.funs (I : Inv X pins σ H s) : s.heap.FunFrames X.base X.outer := by
  have all : ∀ (l : List Env), (∀ b ∈ frs l, b ∈ X.fs) → X.s₀.heap.FunFrames X.base l → s.heap.FunFrames X.base l := by
    intro l
    induction l with
    | nil => intro _ _; trivial
    | cons env r ih =>
      intro hs hl
      obtain ⟨hk, ⟨L, o, hf, hn, ho, hd⟩, hr⟩ := hl
      have hL : L ∈ X.fs := hs L (by unfold frs; rw [List.filterMap_cons, hf]; exact List.mem_cons_self)
      obtain ⟨sl, e⟩ := I.base.slot L o ho (I.ok.frf L hL) hL fun z => I.ok.exfs L z hL
      exact ⟨hk, ⟨L, _, hf, hn, e, hd⟩, ih (fun b hb => hs b (by unfold frs; rw [List.filterMap_cons, hf]; exact List.mem_cons_of_mem _ hb)) hr⟩
  exact all X.outer (fun _ hb => hb) I.ok.funs

/-- the frames that run, for a call -/
theorem Inv.stack (I : Inv X pins σ H s) : s.heap.FunFrames X.base X.stack := by
  rcases I.ok.stk with e | ⟨e, hf⟩
  · rw [e]; exact I.funs
  · rw [e]
    obtain ⟨m, hn, _⟩ := I.loc
    refine .cons (by rw [I.ok.kind]; decide) hf hn ?_ I.funs
    exact Heap.get?_none_of_le (Nat.le_trans I.ok.bsz I.ok.above)
theorem Inv.stkSub (I : Inv X pins σ H s) : ∀ b ∈ frs X.stack, b ∈ X.env.locals :: X.fs := fun b hb => by
  rcases I.ok.stk with e | ⟨e, hf⟩
  · rw [e] at hb; exact List.mem_cons_of_mem _ hb
  · rw [e] at hb
    unfold frs at hb
    rw [List.filterMap_cons, hf] at hb
    exact hb
theorem Inv.stkFree (I : Inv X pins σ H s) : ∀ b ∈ frs X.stack, H b = none := fun b hb => by
  rcases List.mem_cons.mp (I.stkSub b hb) with e | hb
  · rw [e]; exact I.free
  · obtain ⟨_, o, ho, _⟩ := I.ok.funs.mem hb
    exact I.base.free b o ho (I.ok.frf b hb) fun z => I.ok.exfs b z hb

/-- THE STEP: the untracked objects but the frame and the records at ch are kept (the callers' frames up to slots), the frame's map is kept, the new abstract heap is held -/
theorem Inv.step {g' : Array GenState} {t' : Nat} {d' : Drawn} {ch : List Addr} (I : Inv X pins σ H s)
    (hch : ∀ b ∈ ch, (b ∈ X.ex ∨ X.s₀.heap.objs.size ≤ b) ∧ b ≠ X.env.locals ∧ (∀ x c, X.env.cells.lookup x = some c → c ≠ b) ∧ ∀ p ∈ X.pn ++ pins, p.1 ≠ b)
    (keep : ∀ b o, b ≠ X.env.locals → b ∉ X.fs → b ∉ ch → s.heap.get? b = some o → H b = none → h'.get? b = some o)
    (slot : ∀ b o, b ≠ X.env.locals → b ∈ X.fs → b ∉ ch → s.heap.get? b = some o → H b = none → ∃ sl, h'.get? b = some { o with slots := sl }) (free : ∀ b o, b ∉ ch → s.heap.get? b = some o → H b = none → H' b = none)
    (there : ∀ b o, b ∉ ch → s.heap.get? b = some o → ∃ o', h'.get? b = some o')
    (tups : ∀ b xs, H b = some (.tup xs) → H' b = some (.tup xs)) (frzs : ∀ b o u, H b = some (.frz o u) → H' b = some (.frz o u)) (tbls : ∀ b ps, H b = some (.tbl ps) → ∃ more, H' b = some (.tbl (ps ++ more)))
    (ns : ∀ m, s.heap.Ns X.env.locals m → h'.Ns X.env.locals m) (hok : HOk X.prog X.w H' h') (hg : AllBare g') :
    Inv X pins σ H' { s with heap := h', gens := g', drawn := d', toks := t' } := by
  have neL : ∀ b o, X.s₀.heap.get? b = some o → b ≠ X.env.locals := fun b o e => Nat.ne_of_lt (Nat.lt_of_lt_of_le (Heap.lt_size e) I.ok.above)
  have neC : ∀ b o, X.s₀.heap.get? b = some o → b ∉ X.ex → b ∉ ch := fun b o e hx hb => by
    rcases (hch b hb).1 with z | z
    · exact hx z
    · exact absurd (Nat.lt_of_lt_of_le (Heap.lt_size e) z) (Nat.lt_irrefl _)
  have cellK : ∀ x c, X.env.cells.lookup x = some c → ∀ v, s.heap.IsCell c v → h'.IsCell c v := fun x c e v ⟨o, ho, hd⟩ => by
    have nch : c ∉ ch := fun z => (hch c z).2.2.1 x c e rfl
    by_cases hc : c ∈ X.fs
    · obtain ⟨sl, q⟩ := slot c o (I.cne x c e) hc nch ho (I.freeC x c e)
      exact ⟨_, q, hd⟩
    · exact ⟨o, keep c o (I.cne x c e) hc nch ho (I.freeC x c e), hd⟩
  refine ⟨I.ok, I.os, hg, ⟨fun b o e n hb hx => ?_, fun b o e n hb hx => ?_, fun b o e n hx => ?_, fun b o e hx => ?_, fun b xs e => tups b xs (I.base.tups b xs e), fun b o xs e => frzs b o xs (I.base.frzs b o xs e), fun b ps e => ?_⟩, ?_, fun x c e => ?_, ?_, fun x c e => ?_, fun p hp => ?_, hok, I.len⟩
  · exact keep b o (neL b o e) hb (neC b o e hx) (I.base.keep b o e n hb hx) (I.base.free b o e n hx)
  · obtain ⟨sl, e1⟩ := I.base.slot b o e n hb hx
    obtain ⟨sl', e2⟩ := slot b _ (neL b o e) hb (neC b o e hx) e1 (I.base.free b o e n hx)
    exact ⟨sl', e2⟩
  · obtain ⟨o', e1⟩ := I.base.there b o e hx
    exact free b o' (neC b o e hx) e1 (I.base.free b o e n hx)
  · obtain ⟨o', e1⟩ := I.base.there b o e hx
    exact there b o' (neC b o e hx) e1
  · obtain ⟨m1, e1⟩ := I.base.tbls b ps e
    obtain ⟨m2, e2⟩ := tbls b _ e1
    exact ⟨m1 ++ m2, by rw [e2, Array.append_assoc]⟩
  · obtain ⟨m, hn, hl⟩ := I.loc
    refine ⟨m, ns m hn, fun i x v e1 e2 e3 => ?_⟩
    obtain ⟨u, r, l⟩ := hl i x v e1 e2 e3
    refine ⟨u, r, ?_⟩
    rcases l with l | ⟨k, c, e, z⟩
    · exact .inl l
    · exact .inr ⟨k, c, e, cellK x c e _ z⟩
  · obtain ⟨v, z⟩ := I.cell x c e
    exact ⟨v, cellK x c e v z⟩
  · obtain ⟨m, ⟨o, _, _, ho, _⟩, _⟩ := I.loc
    exact free _ o (fun z => (hch _ z).2.1 rfl) ho I.free
  · obtain ⟨v, o, ho, hd⟩ := I.cell x c e
    exact free c o (fun z => (hch c z).2.2.1 x c e rfl) ho (I.freeC x c e)
  · obtain ⟨e, n, ne, nf, d⟩ := I.pin p hp
    have nch : p.1 ∉ ch := fun z => (hch p.1 z).2.2.2 p hp rfl
    exact ⟨keep p.1 p.2 ne nf nch e n, free p.1 p.2 nch e n, ne, nf, d⟩
/-- .. where the frame's own object is kept too -/
theorem Inv.un {t' : Nat} (I : Inv X pins σ H s) (u : Un X.fs [] H H' s.heap h') (hok : HOk X.prog X.w H' h') : Inv X pins σ H' { s with heap := h', toks := t' } := by
  obtain ⟨m, ⟨o, es, ep, ho, r⟩, _⟩ := id I.loc
  obtain ⟨sl, hL⟩ := u.any ho I.free (by simp)
  exact I.step (g' := s.gens) (d' := s.drawn) (ch := []) (fun _ z => nomatch z) (fun b o _ hb _ e n => u.keep b o e n hb (by simp)) (fun b o _ hb _ e n => u.slot b o e n hb (by simp)) (fun b o _ e n => u.free b o e n (by simp)) (fun b o _ e => u.there b o e (by simp)) u.tups u.frzs u.tbls (fun m' hm => by
    obtain ⟨o', es', ep', ho', r'⟩ := hm
    rw [ho] at ho'; cases ho'
    exact ⟨_, es', ep', hL, r'⟩) hok I.bare
/-- behind a call (or a comprehension's block): the slots of this frame may have changed too, the records at ch may have turned -/
theorem Inv.call {g' : Array GenState} {t' : Nat} {d' : Drawn} {ch : List Addr} (I : Inv X pins σ H s) (u : Un (frs X.stack) ch H H' s.heap h') (hok : HOk X.prog X.w H' h') (hg : AllBare g')
    (hch : ∀ b ∈ ch, (b ∈ X.ex ∨ X.s₀.heap.objs.size ≤ b) ∧ b ≠ X.env.locals ∧ (∀ x c, X.env.cells.lookup x = some c → c ≠ b) ∧ ∀ p ∈ X.pn ++ pins, p.1 ≠ b) :
    Inv X pins σ H' { s with heap := h', gens := g', drawn := d', toks := t' } := by
  obtain ⟨m, ⟨o, es, ep, ho, r⟩, _⟩ := id I.loc
  obtain ⟨sl, hL⟩ := u.any ho I.free fun z => (hch _ z).2.1 rfl
  exact I.step (ch := ch) hch (fun b o hL hb hc e n => u.keep b o e n (fun z => (List.mem_cons.mp (I.stkSub b z)).elim hL hb) hc) (fun b o _ _ hc e n => u.any e n hc) (fun b o hc e n => u.free b o e n hc) (fun b o hc e => u.there b o e hc) u.tups u.frzs u.tbls (fun m' hm => by
    obtain ⟨o', es', ep', ho', r'⟩ := hm
    rw [ho] at ho'; cases ho'
    exact ⟨_, es', ep', hL, r'⟩) hok hg
/-- an untracked record of ours (an iterator) has turned -/
theorem Inv.turned {t' : Nat} {it : Addr} (I : Inv X pins σ H s) (k : ∀ b o, b ≠ it → s.heap.get? b = some o → h'.get? b = some o) (hn : H it = none) (hL : it ≠ X.env.locals)
    (h1 : it ∈ X.ex ∨ X.s₀.heap.objs.size ≤ it) (h2 : ∀ x c, X.env.cells.lookup x = some c → c ≠ it) (h3 : ∀ p ∈ X.pn ++ pins, p.1 ≠ it) : Inv X pins σ H { s with heap := h', toks := t' } := by
  have nit : ∀ b u, H b = some u → b ≠ it := fun b u e z => by rw [z, hn] at e; cases e
  refine I.step (g' := s.gens) (d' := s.drawn) (ch := [it]) (fun b hb => ?_) (fun b o _ _ hc e _ => k b o (fun z => hc (by simp [z])) e) (fun b o _ _ hc e _ => ⟨o.slots, k b o (fun z => hc (by simp [z])) e⟩) (fun _ _ _ _ n => n)
    (fun b o hc e => ⟨o, k b o (fun z => hc (by simp [z])) e⟩) (fun _ _ e => e) (fun _ _ _ e => e) (fun b ps e => ⟨#[], by rw [e]; simp⟩) (fun m hm => ?_) (fun b u e => ?_) I.bare
  · have e : b = it := by simpa using hb
    subst e
    exact ⟨h1, hL, h2, h3⟩
  · obtain ⟨o, es, ep, ho, r⟩ := hm
    exact ⟨o, es, ep, k _ o (Ne.symm hL) ho, r⟩
  · refine (I.hok b u e).stay (fun c v hc q => k c v ?_ q) (fun _ q => q) fun _ _ q => q
    rcases hc with z | z
    · rw [z]; exact nit b u e
    · exact nit c _ z
theorem Inv.tok (I : Inv X pins σ H s) (t : Nat) : Inv X pins σ H { s with toks := t } := I.un (h' := s.heap) (t' := t) Un.refl I.hok
/-- all objects kept -/
theorem Inv.kept {t' : Nat} (I : Inv X pins σ H s) (k : ∀ b u, s.heap.get? b = some u → h'.get? b = some u) : Inv X pins σ H { s with heap := h', toks := t' } := I.un (Un.kept k) (I.hok.kept k)
/-- a new object laid and tracked -/
theorem Inv.laid {a : Addr} {o : HO} {t' : Nat} (I : Inv X pins σ H s) (k : ∀ b u, s.heap.get? b = some u → h'.get? b = some u) (hp : s.heap.objs.size ≤ a) (new : ObjOk X.prog X.w (upd H a o) h' a o) :
    Inv X pins σ (upd H a o) { s with heap := h', toks := t' } := I.un (Un.laid k hp (I.hok.fresh hp)) (I.hok.laid k hp new)
/-- an object written -/
theorem Inv.write {x e : Addr} {o : HO} {t' : Nat} (I : Inv X pins σ H s) (mu : Mut (H x)) (he : e = x ∨ H e = some (.own x)) (k : ∀ b u, b ≠ e → s.heap.get? b = some u → h'.get? b = some u) (heo : ∃ u, h'.get? e = some u)
    (new : ObjOk X.prog X.w (upd H x o) h' x o) : Inv X pins σ (upd H x o) { s with heap := h', toks := t' } := I.un (Un.write mu he k heo) (I.hok.write mu he k heo new)
/-- forgetting slots, pins -/
theorem Inv.weak {σ' : List (Option V)} (I : Inv X pins σ H s) (hl : σ'.length = σ.length) (w : ∀ (i : Nat) v, σ'[i]? = some (some v) → σ[i]? = some (some v)) : Inv X pins σ' H s :=
  ⟨I.ok, I.os, I.bare, I.base, let ⟨m, hn, hl'⟩ := I.loc; ⟨m, hn, fun i x v e1 e2 e3 => hl' i x v e1 (w i v e2) e3⟩, I.cell, I.free, I.freeC, I.pin, I.hok, hl.trans I.len⟩
theorem Inv.pins_of {pins' : List (Addr × Obj)} (I : Inv X pins σ H s) (h : ∀ p ∈ pins', s.heap.get? p.1 = some p.2 ∧ H p.1 = none ∧ p.1 ≠ X.env.locals ∧ p.1 ∉ X.fs ∧ ∀ v, p.2.data ≠ .cell v) : Inv X pins' σ H s :=
  ⟨I.ok, I.os, I.bare, I.base, I.loc, I.cell, I.free, I.freeC, fun p hp => (List.mem_append.mp hp).elim (fun z => I.pin p (List.mem_append_left _ z)) (h p), I.hok, I.len⟩

theorem nodup_ix {N : List Str} (hN : N.Nodup) {i j : Nat} {x : Str} (a : N[i]? = some x) (b : N[j]? = some x) : i = j := by
  obtain ⟨h1, e1⟩ := List.getElem?_eq_some_iff.mp a
  obtain ⟨h2, e2⟩ := List.getElem?_eq_some_iff.mp b
  exact (List.getElem_inj hN).mp (e1.trans e2.symm)

/-- a name is stored; what changed -/
theorem store_ok2 {M : Model} {A : Around} {E : Value → Shared → Prop} {i : Nat} {x : Str} {v : V} {u : Value} {Q : Unit → Shared → Prop} (I : Inv X pins σ H s) (hN : X.N.Nodup) (hi : X.N[i]? = some x) (hx : Loc X.env.scope x) (r : RelV v u)
    (h : ∀ s', Inv X pins (σ.set i (some v)) H s' → (∃ a, Heap.SameBut a s.heap s'.heap ∧ (a = X.env.locals ∨ X.env.cells.lookup x = some a)) → Q () s') (hf : X.fn x = true ∨ X.env.scope.names.lookup x = some .local := by first | exact .inl rfl | exact .inr rfl | assumption) : wpAny M A (storeName X.env x u) Q E s := by
  obtain ⟨m, hn, hl⟩ := id I.loc
  have hcls : (X.env.scope.kind == .class || (X.env.scope.kind == .module && X.env.locals != X.env.globals)) = false := by rw [I.ok.kind]; rfl
  have hiσ : i < σ.length := by rw [I.len]; exact (List.getElem?_eq_some_iff.mp hi).1
  have cne := I.cne
  have tracked : ∀ {a : Addr} {h' : Heap}, (∃ o, s.heap.get? a = some o ∧ H a = none) → Heap.SameBut a s.heap h' → HOk X.prog X.w H h' := fun {a h'} ha hs b ob e => by
    obtain ⟨_, _, hfree⟩ := ha
    refine (I.hok b ob e).stay (fun c w' hc q => (hs.2 c ?_).trans q) (fun _ q => q) fun _ _ q => q
    rintro rfl
    rcases hc with rfl | hc
    · rw [hfree] at e; cases e
    · rw [hfree] at hc; cases hc
  rcases hx with hk | hk
  · refine wpAny_storeName_local hk hn (fun h' hn' hs => ?_) hcls
    obtain ⟨oL, _, _, hoL, _⟩ := id hn
    refine h _ ⟨I.ok, I.os, I.bare, ⟨fun b o e n hb hx => ?_, fun b o e n hb hx => ?_, I.base.free, fun b o e hx => ?_, I.base.tups, I.base.frzs, I.base.tbls⟩, ⟨_, hn', fun j y v' e1 e2 e3 => ?_⟩, fun y c e => ?_, I.free, I.freeC, fun p hp => ?_, tracked ⟨oL, hoL, I.free⟩ hs, by simpa using I.len⟩ ⟨_, hs, .inl rfl⟩
    · exact (hs.2 b (Nat.ne_of_lt (Nat.lt_of_lt_of_le (Heap.lt_size e) I.ok.above))).trans (I.base.keep b o e n hb hx)
    · obtain ⟨sl, e1⟩ := I.base.slot b o e n hb hx
      exact ⟨sl, (hs.2 b (Nat.ne_of_lt (Nat.lt_of_lt_of_le (Heap.lt_size e) I.ok.above))).trans e1⟩
    · obtain ⟨o', e1⟩ := I.base.there b o e hx
      exact ⟨o', (hs.2 b (Nat.ne_of_lt (Nat.lt_of_lt_of_le (Heap.lt_size e) I.ok.above))).trans e1⟩
    · by_cases hj : j = i
      · subst hj
        rw [hi] at e1; cases e1
        rw [List.getElem?_set_self hiσ] at e2
        cases e2
        exact ⟨u, r, .inl ⟨hk, by simp⟩⟩
      · rw [List.getElem?_set_ne (Ne.symm hj)] at e2
        obtain ⟨u', r', q⟩ := hl j y v' e1 e2 e3
        refine ⟨u', r', ?_⟩
        rcases q with ⟨k, e⟩ | ⟨k, c, e, z⟩
        · refine .inl ⟨k, ?_⟩
          have : y ≠ x := fun e => hj (nodup_ix hN e1 (e ▸ hi))
          simp [this, e]
        · exact .inr ⟨k, c, e, z.sameBut hs (cne y c e)⟩
    · obtain ⟨w', z⟩ := I.cell y c e
      exact ⟨w', z.sameBut hs (cne y c e)⟩
    · obtain ⟨e, n, ne, nf, d⟩ := I.pin p hp
      exact ⟨(hs.2 p.1 ne).trans e, n, ne, nf, d⟩
  · have hfn : X.fn x = true := by
      rcases hf with z | z
      · exact z
      · rw [z] at hk; cases hk
    obtain ⟨c, hc⟩ := I.ok.has x (.inl hk)
    obtain ⟨w', z⟩ := I.cell x c hc
    refine wpAny_storeName_cell I.ok.kind hk hc z (fun h' hc' hs => ?_)
    obtain ⟨oc, hoc, hocd⟩ := id z
    refine h { s with heap := h' } ⟨I.ok, I.os, I.bare, ⟨fun b o e n hb hx => ?_, fun b o e n hb hx => ?_, I.base.free, fun b o e hx => ?_, I.base.tups, I.base.frzs, I.base.tbls⟩, ⟨m, hn.sameBut hs (Ne.symm (cne x c hc)), fun j y v' e1 e2 e3 => ?_⟩, fun y c' e => ?_, I.free, I.freeC, fun p hp => ?_, tracked ⟨oc, hoc, I.freeC x c hc⟩ hs, by simpa using I.len⟩ ⟨c, hs, .inr hc⟩
    · exact (hs.2 b (Nat.ne_of_lt (Nat.lt_of_lt_of_le (Heap.lt_size e) (I.ok.cab x c hfn hc)))).trans (I.base.keep b o e n hb hx)
    · obtain ⟨sl, e1⟩ := I.base.slot b o e n hb hx
      exact ⟨sl, (hs.2 b (Nat.ne_of_lt (Nat.lt_of_lt_of_le (Heap.lt_size e) (I.ok.cab x c hfn hc)))).trans e1⟩
    · obtain ⟨o', e1⟩ := I.base.there b o e hx
      exact ⟨o', (hs.2 b (Nat.ne_of_lt (Nat.lt_of_lt_of_le (Heap.lt_size e) (I.ok.cab x c hfn hc)))).trans e1⟩
    · by_cases hj : j = i
      · subst hj
        rw [hi] at e1; cases e1
        rw [List.getElem?_set_self hiσ] at e2
        cases e2
        exact ⟨u, r, .inr ⟨.inl hk, c, hc, hc'⟩⟩
      · rw [List.getElem?_set_ne (Ne.symm hj)] at e2
        obtain ⟨u', r', q⟩ := hl j y v' e1 e2 e3
        refine ⟨u', r', ?_⟩
        rcases q with q | ⟨k, c', e, z'⟩
        · exact .inl q
        · refine .inr ⟨k, c', e, z'.sameBut hs ?_⟩
          rintro rfl
          exact hj (nodup_ix hN e1 (I.ok.inj _ _ _ e hc ▸ hi))
    · by_cases hcc : c' = c
      · subst hcc; exact ⟨_, hc'⟩
      · obtain ⟨w2, z2⟩ := I.cell y c' e
        exact ⟨w2, z2.sameBut hs hcc⟩
    · obtain ⟨e, n, ne, nf, d⟩ := I.pin p hp
      refine ⟨(hs.2 p.1 ?_).trans e, n, ne, nf, d⟩
      intro q
      rw [q, hoc] at e
      have q' : oc = p.2 := Option.some.inj e
      exact d w' (by rw [← q']; exact hocd)
theorem store_ok {M : Model} {A : Around} {E : Value → Shared → Prop} {i : Nat} {x : Str} {v : V} {u : Value} {Q : Unit → Shared → Prop} (I : Inv X pins σ H s) (hN : X.N.Nodup) (hi : X.N[i]? = some x) (hx : Loc X.env.scope x) (r : RelV v u)
    (h : ∀ s', Inv X pins (σ.set i (some v)) H s' → Q () s') (hf : X.fn x = true ∨ X.env.scope.names.lookup x = some .local := by first | exact .inl rfl | exact .inr rfl | assumption) : wpAny M A (storeName X.env x u) Q E s :=
  store_ok2 I hN hi hx r (fun s' I' _ => h s' I') hf
/-- behind a call or a block, the state as it is -/
theorem Inv.call' {s' : Shared} {ch : List Addr} (I : Inv X pins σ H s) (ho : s'.os = s.os) (u : Un (frs X.stack) ch H H' s.heap s'.heap) (hok : HOk X.prog X.w H' s'.heap) (hg : AllBare s'.gens)
    (hch : ∀ b ∈ ch, (b ∈ X.ex ∨ X.s₀.heap.objs.size ≤ b) ∧ b ≠ X.env.locals ∧ (∀ x c, X.env.cells.lookup x = some c → c ≠ b) ∧ ∀ p ∈ X.pn ++ pins, p.1 ≠ b) : Inv X pins σ H' s' := by
  obtain ⟨h', g', d', t', o'⟩ := s'
  have e : o' = s.os := ho
  subst e
  exact I.call (g' := g') (t' := t') (d' := d') u hok hg hch
end

/-! ### the judgements -/
/-- an exception: its class, its own dict's address (where it has one), the abstract heap behind it -/
abbrev XK := Value → Option Addr → Hp → Prop
abbrev St := List (Option V)
abbrev VK := V → Hp → Prop
/-- an expression's reading; a test's; an argument list's -/
abbrev TE := St → Hp → VK → Prop
abbrev TT := St → Hp → (Bool → Hp → Prop) → Prop
abbrev TA := St → Hp → (List V → Hp → Prop) → Prop
/-- what is wanted behind a statement -/
structure Ends where
  nx : St → Hp → Prop
  rt : VK
  bk : St → Hp → Prop := fun _ _ => False
  ct : St → Hp → Prop := fun _ _ => False
abbrev TS := Ends → St → Hp → Prop

def EP (X : Cx) (pins : List (Addr × Obj)) (σ : St) (Q : VK) (u : Value) (s' : Shared) : Prop := ∃ v H', Inv X pins σ H' s' ∧ RelV v u ∧ Q v H'
def TP (X : Cx) (pins : List (Addr × Obj)) (σ : St) (Q : Bool → Hp → Prop) (b : Bool) (s' : Shared) : Prop := ∃ H', Inv X pins σ H' s' ∧ Q b H'
def AP (X : Cx) (pins : List (Addr × Obj)) (σ : St) (Q : List V → Hp → Prop) (us : List Value) (s' : Shared) : Prop := ∃ vs H', Inv X pins σ H' s' ∧ Vals vs us ∧ Q vs H'
def SP (X : Cx) (pins : List (Addr × Obj)) (D : Ends) (f : Flow) (s' : Shared) : Prop :=
  match f with
  | .next => ∃ σ' H', Inv X pins σ' H' s' ∧ D.nx σ' H'
  | .brk => ∃ σ' H', Inv X pins σ' H' s' ∧ D.bk σ' H'
  | .cont => ∃ σ' H', Inv X pins σ' H' s' ∧ D.ct σ' H'
  | .ret u => ∃ v σ' H', Inv X pins σ' H' s' ∧ RelV v u ∧ D.rt v H'

def PE (X : Cx) (e : Expr) (t : TE) : Prop :=
  ∀ (pins : List (Addr × Obj)) (s : Shared) (σ : St) (H : Hp) (Q : VK), Inv X pins σ H s → t σ H Q → wpAny (model X.prog X.w) X.A (eval e X.env) (EP X pins σ Q) X.xe s
def PT (X : Cx) (e : Expr) (t : TT) : Prop :=
  ∀ (pins : List (Addr × Obj)) (s : Shared) (σ : St) (H : Hp) (Q : Bool → Hp → Prop), Inv X pins σ H s → t σ H Q → wpAny (model X.prog X.w) X.A (isTrue e X.env (eval e X.env)) (TP X pins σ Q) X.xe s
/-- a test whatever its 'whole' is (and, or) -/
def PW (X : Cx) (e : Expr) (t : TT) : Prop :=
  ∀ (whole : Sem Value) (pins : List (Addr × Obj)) (s : Shared) (σ : St) (H : Hp) (Q : Bool → Hp → Prop), Inv X pins σ H s → t σ H Q → wpAny (model X.prog X.w) X.A (isTrue e X.env whole) (TP X pins σ Q) X.xe s
theorem PW.pt {X : Cx} {e : Expr} {t : TT} (h : PW X e t) : PT X e t := h _
/-- an argument list (no star), from the left -/
def PA (X : Cx) (es : List Expr) (t : TA) : Prop :=
  ∀ (pos : Pos) (pins : List (Addr × Obj)) (s : Shared) (σ : St) (H : Hp) (Q : List V → Hp → Prop), Inv X pins σ H s → t σ H Q → wpAny (model X.prog X.w) X.A (spliced (backTo pos (starEach es X.env))) (AP X pins σ Q) X.xe s
def PS (X : Cx) (st : Stmt) (t : TS) : Prop :=
  ∀ (pins : List (Addr × Obj)) (s : Shared) (σ : St) (H : Hp) (D : Ends), Inv X pins σ H s → t D σ H → wpAny (model X.prog X.w) X.A (exec st X.env) (SP X pins D) X.xe s
def PSs (X : Cx) (st : List Stmt) (t : TS) : Prop :=
  ∀ (pins : List (Addr × Obj)) (s : Shared) (σ : St) (H : Hp) (D : Ends), Inv X pins σ H s → t D σ H → wpAny (model X.prog X.w) X.A (execs st X.env) (SP X pins D) X.xe s
/-- weaken the end -/
theorem thn {α : Type} {t : Sem α} {Q Q' : α → Shared → Prop} {M : Model} {A : Around} {E : Value → Shared → Prop} {s : Shared} (h : wpAny M A t Q E s) (hQ : ∀ a s, Q a s → Q' a s) : wpAny M A t Q' E s := wpAny_mono h hQ fun _ _ x => x
end L2

namespace L2
open PySem PySem.Spec PyProof.Rows
section
variable {X : Cx}

/-- two expressions in a row -/
theorem bin {a b : Expr} {ta tb : TE} (ha : PE X a ta) (hb : PE X b tb) {pins : List (Addr × Obj)} {s : Shared} {σ : St} {H : Hp} {R : V → V → Hp → Prop} (I : Inv X pins σ H s) (h : ta σ H fun x H1 => tb σ H1 fun y H2 => R x y H2)
    {α : Type} {Q : α → Shared → Prop} {f : Value → Value → Sem α}
    (hf : ∀ v u s2 x y H2, Inv X pins σ H2 s2 → RelV x v → RelV y u → R x y H2 → wpAny (model X.prog X.w) X.A (f v u) Q X.xe s2) :
    wpAny (model X.prog X.w) X.A (eval a X.env) (fun v s₁ => wpAny (model X.prog X.w) X.A (eval b X.env) (fun u s₂ => wpAny (model X.prog X.w) X.A (f v u) Q X.xe s₂) X.xe s₁) X.xe s := by
  refine thn (ha pins s σ H _ I h) fun v s1 ⟨x, H1, I1, r1, q1⟩ => ?_
  refine thn (hb pins s1 σ H1 _ I1 q1) fun u s2 ⟨y, H2, I2, r2, q2⟩ => ?_
  exact hf v u s2 x y H2 I2 r1 r2 q2

/-! ### names and constants -/
def tVar (i : Nat) : TE := fun σ H Q => ∃ v, σ[i]? = some (some v) ∧ Q v H
def tC (v : V) : TE := fun _ H Q => Q v H
theorem pe_var {i : Nat} {x : Str} {pos : Pos} (hN : X.N[i]? = some x) (hv : Vis X.env.scope x) (hd : (x == ("__debug__" : Str)) = false := by decide) (hcd : (x == ("__classdict__" : Str)) = false := by decide) : PE X (.Name x pos) (tVar i) := by
  intro pins s σ H Q I h
  obtain ⟨v, e, h⟩ := h
  obtain ⟨m, hn, hl⟩ := I.loc
  obtain ⟨u, r, l⟩ := hl i x v hN e hv
  have fin : EP X pins σ Q u s := ⟨v, H, I, r, h⟩
  rcases l with ⟨hk, hm⟩ | ⟨hk, c, hc, hcell⟩
  · exact wpAny_Name (wpAny_loadName_local I.ok.kind hk hn hm fin) hd
  · rcases hk with hk | hk
    · exact wpAny_Name (wpAny_loadName_cell I.ok.kind hk hc hcell fin) hd
    · exact wpAny_Name (wpAny_loadName_free I.ok.kind hk hc hcell fin hcd) hd
theorem pe_int {i j pos} : PE X (.Constant (.int i) j pos) (tC (.int i)) := fun _ _ _ H _ I h => wpAny_Constant_int ⟨.int i, H, I.tok _, ⟨_, rfl⟩, h⟩
theorem pe_bl {b j pos} : PE X (.Constant (.bool b) j pos) (tC (.bl b)) := fun _ _ _ H _ I h => Constant_bool ⟨.bl b, H, I, rfl, h⟩
theorem pe_non {j pos} : PE X (.Constant .none j pos) (tC .non) := fun _ _ _ H _ I h => Constant_none ⟨.non, H, I, rfl, h⟩
theorem pe_str {x j pos} : PE X (.Constant (.str x) j pos) (tC (.str x)) := fun _ _ _ H _ I h => Calls.Constant_str ⟨.str x, H, I.tok _, ⟨_, rfl⟩, h⟩

/-- a global name of the def -/
def Gl (X : Cx) (x : Str) : Prop := X.env.kindOf x = some .globalImplicit
theorem ld_glob {E : Value → Shared → Prop} {pins : List (Addr × Obj)} {s : Shared} {σ : St} {H : Hp} {x : Str} {u : Value} {pos : Pos} {Q : Value → Shared → Prop} (I : Inv X pins σ H s) (hg : Gl X x) (hm : X.mg x = some u) (h : Q u s)
    (hd : (x == ("__debug__" : Str)) = false := by decide) : wpAny (model X.prog X.w) X.A (eval (.Name x pos) X.env) Q E s :=
  Calls.Name_function_global I.ok.kind hg (Calls.loadGlobal_global (by rw [I.ok.glob]; exact I.mod.glob.keeps I.bk) hm h) hd
theorem ld_blt {E : Value → Shared → Prop} {pins : List (Addr × Obj)} {s : Shared} {σ : St} {H : Hp} {x : Str} {u : Value} {pos : Pos} {Q : Value → Shared → Prop} (I : Inv X pins σ H s) (hg : Gl X x) (hm : X.mg x = none) (hv : bootBuiltins x = some u) (h : Q u s)
    (hn : x ≠ "__name__" := by decide) (hd : (x == ("__debug__" : Str)) = false := by decide) : wpAny (model X.prog X.w) X.A (eval (.Name x pos) X.env) Q E s := by
  obtain ⟨mb, h1, h2⟩ := I.mod.blt
  exact Calls.Name_function_global I.ok.kind hg (Calls.loadGlobal_builtin (by rw [I.ok.glob]; exact I.mod.glob.keeps I.bk) hm (by rw [I.ok.blt]; exact h1.keeps I.bk) ((h2 x hn).trans hv) h) hd
/-- a module's constant, a class, a function, as a value -/
theorem pe_glob {x : Str} {v : V} {u : Value} {pos : Pos} (hg : Gl X x) (hm : X.mg x = some u) (r : RelV v u) (hd : (x == ("__debug__" : Str)) = false := by decide) : PE X (.Name x pos) (tC v) :=
  fun _ _ _ H _ I h => ld_glob I hg hm ⟨v, H, I, r, h⟩ hd
theorem pe_bltn {x : Str} {v : V} {u : Value} {pos : Pos} (hg : Gl X x) (hm : X.mg x = none) (hv : bootBuiltins x = some u) (r : RelV v u) (hn : x ≠ "__name__" := by decide) (hd : (x == ("__debug__" : Str)) = false := by decide) : PE X (.Name x pos) (tC v) :=
  fun _ _ _ H _ I h => ld_blt I hg hm hv ⟨v, H, I, r, h⟩ hn hd

/-! ### arithmetic -/
/-- two ints -/
def t2I (ta tb : TE) (k : Int → Int → Hp → Prop) : St → Hp → Prop := fun σ H => ta σ H fun x H1 => tb σ H1 fun y H2 => ∃ i j, x = .int i ∧ y = .int j ∧ k i j H2
def tAdd (ta tb : TE) : TE := fun σ H Q => t2I ta tb (fun i j H2 => Q (.int (i + j)) H2) σ H
def tSub (ta tb : TE) : TE := fun σ H Q => t2I ta tb (fun i j H2 => Q (.int (i - j)) H2) σ H
/-- the left factor below 2^64 -/
def tMul (ta tb : TE) : TE := fun σ H Q => t2I ta tb (fun i j H2 => (-(2 ^ 64) < i ∧ i < 2 ^ 64) ∧ Q (.int (i * j)) H2) σ H
variable {a b : Expr} {ta tb : TE} {pos : Pos}
theorem pe_add (ha : PE X a ta) (hb : PE X b tb) : PE X (.BinOp a .Add b pos) (tAdd ta tb) := by
  intro pins s σ H Q I h
  refine wpAny_BinOp (bin ha hb I h fun v u s2 x y H2 I2 rx ry q => ?_)
  obtain ⟨i, j, rfl, rfl, q⟩ := q
  obtain ⟨t, rfl⟩ := rx
  obtain ⟨t', rfl⟩ := ry
  exact add_int ⟨.int _, H2, I2.tok _, ⟨_, rfl⟩, q⟩
theorem pe_sub (ha : PE X a ta) (hb : PE X b tb) : PE X (.BinOp a .Sub b pos) (tSub ta tb) := by
  intro pins s σ H Q I h
  refine wpAny_BinOp (bin ha hb I h fun v u s2 x y H2 I2 rx ry q => ?_)
  obtain ⟨i, j, rfl, rfl, q⟩ := q
  obtain ⟨t, rfl⟩ := rx
  obtain ⟨t', rfl⟩ := ry
  exact sub_int ⟨.int _, H2, I2.tok _, ⟨_, rfl⟩, q⟩
theorem pe_mul (ha : PE X a ta) (hb : PE X b tb) : PE X (.BinOp a .Mult b pos) (tMul ta tb) := by
  intro pins s σ H Q I h
  refine wpAny_BinOp (bin ha hb I h fun v u s2 x y H2 I2 rx ry q => ?_)
  obtain ⟨i, j, rfl, rfl, ⟨q1, q2⟩, q⟩ := q
  obtain ⟨t, rfl⟩ := rx
  obtain ⟨t', rfl⟩ := ry
  exact mul_int ⟨.int _, H2, I2.tok _, ⟨_, rfl⟩, q⟩ (.of_left (intBits_le_64 q1 q2))

/-! ### comparisons -/
def PC (X : Cx) (op : CmpOp) (a b : Expr) (t : TE) : Prop :=
  ∀ (pins : List (Addr × Obj)) (s : Shared) (σ : St) (H : Hp) (Q : VK), Inv X pins σ H s → t σ H Q →
    wpAny (model X.prog X.w) X.A (eval a X.env) (fun v s₁ => wpAny (model X.prog X.w) X.A (eval b X.env) (fun u s₂ => wpAny (model X.prog X.w) X.A (compareOp op v u) (EP X pins σ Q) X.xe s₂) X.xe s₁) X.xe s
theorem nobehind (b : Expr) {op : CmpOp} (h : op ≠ .In) (h2 : op ≠ .NotIn) : behindInMarks op b = false := by
  have e1 : (op == CmpOp.In) = false := by cases op <;> first | rfl | exact absurd rfl h
  have e2 : (op == CmpOp.NotIn) = false := by cases op <;> first | rfl | exact absurd rfl h2
  cases b <;> simp [behindInMarks, e1, e2]
def tCmp (p : Int → Int → Bool) (ta tb : TE) : TE := fun σ H Q => t2I ta tb (fun i j H2 => Q (.bl (p i j)) H2) σ H
abbrev tLt : TE → TE → TE := tCmp fun i j => decide (i < j)
abbrev tLe : TE → TE → TE := tCmp fun i j => decide (i ≤ j)
abbrev tGt : TE → TE → TE := tCmp fun i j => decide (j < i)
abbrev tGe : TE → TE → TE := tCmp fun i j => decide (j ≤ i)
abbrev tEqI : TE → TE → TE := tCmp fun i j => decide (i = j)
abbrev tNeI : TE → TE → TE := tCmp fun i j => !decide (i = j)
/-- a comparison of two ints, by its rule -/
theorem pc_int {op : CmpOp} {p : Int → Int → Bool} (ha : PE X a ta) (hb : PE X b tb)
    (rule : ∀ (i j : Int) (t u : Tok) (Q : Value → Shared → Prop) (s : Shared), Q (.bool (p i j)) s → wpAny (model X.prog X.w) X.A (compareOp op (.int i t) (.int j u)) Q X.xe s) : PC X op a b (tCmp p ta tb) := by
  intro pins s σ H Q I h
  refine bin ha hb I h fun v u s2 x y H2 I2 rx ry q => ?_
  obtain ⟨i, j, rfl, rfl, q⟩ := q
  obtain ⟨t, rfl⟩ := rx
  obtain ⟨t', rfl⟩ := ry
  exact rule i j t t' _ s2 ⟨.bl _, H2, I2, rfl, q⟩
theorem pc_lt (ha : PE X a ta) (hb : PE X b tb) : PC X .Lt a b (tLt ta tb) := pc_int ha hb fun _ _ _ _ _ _ h => lt_int h
theorem pc_le (ha : PE X a ta) (hb : PE X b tb) : PC X .LtE a b (tLe ta tb) := pc_int ha hb fun _ _ _ _ _ _ h => le_int h
theorem pc_gt (ha : PE X a ta) (hb : PE X b tb) : PC X .Gt a b (tGt ta tb) := pc_int ha hb fun _ _ _ _ _ _ h => gt_int h
theorem pc_ge (ha : PE X a ta) (hb : PE X b tb) : PC X .GtE a b (tGe ta tb) := pc_int ha hb fun _ _ _ _ _ _ h => ge_int h
theorem pc_eqI (ha : PE X a ta) (hb : PE X b tb) : PC X .Eq a b (tEqI ta tb) := pc_int ha hb fun _ _ _ _ _ _ h => eq_int (by rw [Bool.beq_eq_decide_eq]; exact h)
theorem pc_neI (ha : PE X a ta) (hb : PE X b tb) : PC X .NotEq a b (tNeI ta tb) := pc_int ha hb fun _ _ _ _ _ _ h => ne_int (by rw [bne, Bool.beq_eq_decide_eq]; exact h)
/-- is None -/
def tIsN (ta : TE) : TE := fun σ H Q => ta σ H fun x H1 => Q (.bl (decide (x = .non))) H1
def tNotN (ta : TE) : TE := fun σ H Q => ta σ H fun x H1 => Q (.bl (!decide (x = .non))) H1
theorem RelV.none_iff {x : V} {v : Value} (r : RelV x v) : (v == Value.none) = decide (x = .non) := by
  cases x with
  | non => cases r; rfl
  | bl _ => cases r; rfl
  | int _ => obtain ⟨t, rfl⟩ := r; rfl
  | str _ => obtain ⟨t, rfl⟩ := r; rfl
  | byt _ => obtain ⟨t, rfl⟩ := r; rfl
  | flt _ => obtain ⟨t, rfl⟩ := r; rfl
  | ref _ => cases r; rfl
  | ty _ => cases r; rfl
theorem pc_isN {j pos'} (ha : PE X a ta) : PC X .Is a (.Constant .none j pos') (tIsN ta) := by
  intro pins s σ H Q I h
  refine thn (ha pins s σ H _ I h) fun v s1 ⟨x, H1, I1, r1, q1⟩ => ?_
  exact Constant_none (is_none_gen ⟨.bl _, H1, I1, by rw [r1.none_iff]; rfl, q1⟩)
theorem pc_notN {j pos'} (ha : PE X a ta) : PC X .IsNot a (.Constant .none j pos') (tNotN ta) := by
  intro pins s σ H Q I h
  refine thn (ha pins s σ H _ I h) fun v s1 ⟨x, H1, I1, r1, q1⟩ => ?_
  exact Constant_none (isnot_none_gen ⟨.bl _, H1, I1, by rw [r1.none_iff]; rfl, q1⟩)
/-- a comparison as a value, as a test -/
def tB (t : TE) : TT := fun σ H Q => t σ H fun x H1 => ∃ c, x = .bl c ∧ Q c H1
theorem pe_cmp {op : CmpOp} {t : TE} (h : PC X op a b t) (h1 : behindInMarks op b = false := by first | exact nobehind _ (by decide) (by decide) | rfl) : PE X (.Compare a [op] [b] pos) t := fun pins s σ H Q I hw => wpAny_Compare1 (h pins s σ H Q I hw) h1
theorem pt_cmp {op : CmpOp} {t : TE} (h : PC X op a b t) (h1 : behindInMarks op b = false := by first | exact nobehind _ (by decide) (by decide) | rfl) : PT X (.Compare a [op] [b] pos) (tB t) := by
  intro pins s σ H Q I hw
  refine wpAny_isTrue_Compare1 (thn (h pins s σ H _ I hw) fun v s1 h1 => thn h1 fun u s2 h2 => thn h2 fun c s3 ⟨x, H1, I1, r1, q1⟩ => ?_) h1
  obtain ⟨d, rfl, q⟩ := q1
  cases r1
  exact wpAny_truthy_bool ⟨H1, I1, q⟩
/-- an expression whose value is a bool, as a test -/
theorem pt_val {e : Expr} {t : TE} (h : PE X e t) (he : ∀ whole, isTrue e X.env whole = (do let v ← whole; standAt e.pos; holding [v] (truthy v)) := by intro _; rfl) : PT X e (tB t) := by
  intro pins s σ H Q I hw
  refine isTrue_plain (thn (h pins s σ H _ I hw) fun v s1 ⟨x, H1, I1, r1, q1⟩ => ?_) (he _)
  obtain ⟨d, rfl, q⟩ := q1
  cases r1
  exact wpAny_truthy_bool ⟨H1, I1, q⟩

/-! ### and, or, not -/
variable {tA tB' : TT} {rest : List Expr}
def tAnd (t u : TT) : TT := fun σ H Q => t σ H fun c H1 => if c = true then u σ H1 Q else Q false H1
def tOr (t u : TT) : TT := fun σ H Q => t σ H fun c H1 => if c = true then Q true H1 else u σ H1 Q
def tNot (t : TT) : TT := fun σ H Q => t σ H fun c H1 => Q (!c) H1
theorem pw_and1 (ha : PT X a tA) : PW X (.BoolOp .And [a] pos) tA := by
  intro wh pins s σ H Q I h
  refine isTrue_and (thn (ha pins s σ H Q I h) fun c s1 e => ?_)
  cases c with
  | true => exact isTrue_and_nil e
  | false => exact e
theorem pw_or1 (ha : PT X a tA) : PW X (.BoolOp .Or [a] pos) tA := by
  intro wh pins s σ H Q I h
  refine isTrue_or (thn (ha pins s σ H Q I h) fun c s1 e => ?_)
  cases c with
  | false => exact isTrue_or_nil e
  | true => exact e
theorem pw_and (ha : PT X a tA) (hb : PW X (.BoolOp .And (b :: rest) pos) tB') : PW X (.BoolOp .And (a :: b :: rest) pos) (tAnd tA tB') := by
  intro wh pins s σ H Q I h
  refine isTrue_and (thn (ha pins s σ H _ I h) fun c s1 ⟨H1, I1, q1⟩ => ?_)
  cases c with
  | true => exact hb wh pins s1 σ H1 Q I1 q1
  | false => exact ⟨H1, I1, q1⟩
theorem pw_or (ha : PT X a tA) (hb : PW X (.BoolOp .Or (b :: rest) pos) tB') : PW X (.BoolOp .Or (a :: b :: rest) pos) (tOr tA tB') := by
  intro wh pins s σ H Q I h
  refine isTrue_or (thn (ha pins s σ H _ I h) fun c s1 ⟨H1, I1, q1⟩ => ?_)
  cases c with
  | true => exact ⟨H1, I1, q1⟩
  | false => exact hb wh pins s1 σ H1 Q I1 q1
theorem pt_not (ha : PT X a tA) : PT X (.UnaryOp .Not a pos) (tNot tA) := by
  intro pins s σ H Q I h
  exact isTrue_not (ha pins s σ H (fun c H1 => Q (!c) H1) I h)
/-- .. as values (bools) -/
def tAndV (ta tb : TE) : TE := fun σ H Q => ta σ H fun x H1 => ∃ c, x = .bl c ∧ if c = true then tb σ H1 Q else Q (.bl false) H1
def tOrV (ta tb : TE) : TE := fun σ H Q => ta σ H fun x H1 => ∃ c, x = .bl c ∧ if c = true then Q (.bl true) H1 else tb σ H1 Q
def tNotV (ta : TE) : TE := fun σ H Q => ta σ H fun x H1 => ∃ c, x = .bl c ∧ Q (.bl (!c)) H1
theorem pe_one {op} {t : TE} (h : PE X a t) : PE X (.BoolOp op [a] pos) t := fun pins s σ H Q I hw => BoolOp_one (h pins s σ H Q I hw)
theorem pe_and (ha : PE X a ta) (hb : PE X (.BoolOp .And (b :: rest) pos) tb) : PE X (.BoolOp .And (a :: b :: rest) pos) (tAndV ta tb) := by
  intro pins s σ H Q I h
  refine BoolOp_and (thn (ha pins s σ H _ I h) fun v s1 ⟨x, H1, I1, r1, q1⟩ => ?_)
  obtain ⟨c, rfl, q1⟩ := q1
  cases r1
  refine wpAny_truthy_bool ?_
  cases c with
  | true => exact hb pins s1 σ H1 Q I1 q1
  | false => exact ⟨.bl false, H1, I1, rfl, q1⟩
theorem pe_or (ha : PE X a ta) (hb : PE X (.BoolOp .Or (b :: rest) pos) tb) : PE X (.BoolOp .Or (a :: b :: rest) pos) (tOrV ta tb) := by
  intro pins s σ H Q I h
  refine BoolOp_or (thn (ha pins s σ H _ I h) fun v s1 ⟨x, H1, I1, r1, q1⟩ => ?_)
  obtain ⟨c, rfl, q1⟩ := q1
  cases r1
  refine wpAny_truthy_bool ?_
  cases c with
  | false => exact hb pins s1 σ H1 Q I1 q1
  | true => exact ⟨.bl true, H1, I1, rfl, q1⟩
theorem pe_not (ha : PE X a ta) : PE X (.UnaryOp .Not a pos) (tNotV ta) := by
  intro pins s σ H Q I h
  refine UnaryOp_ (thn (ha pins s σ H _ I h) fun v s1 ⟨x, H1, I1, r1, q1⟩ => ?_)
  obtain ⟨c, rfl, q1⟩ := q1
  cases r1
  exact not_of (wpAny_truthy_bool ⟨.bl (!c), H1, I1, rfl, q1⟩)
/-- a if t else b -/
def tIf (t : TT) (ta tb : TE) : TE := fun σ H Q => t σ H fun c H1 => if c = true then ta σ H1 Q else tb σ H1 Q
theorem pe_ifExp {c : Expr} (hc : PT X c tA) (ha : PE X a ta) (hb : PE X b tb) : PE X (.IfExp c a b pos) (tIf tA ta tb) := by
  intro pins s σ H Q I h
  refine wpAny_IfExp (thn (hc pins s σ H _ I h) fun d s1 ⟨H1, I1, q1⟩ => ?_)
  cases d with
  | true => exact ha pins s1 σ H1 Q I1 q1
  | false => exact hb pins s1 σ H1 Q I1 q1
end
end L2

namespace L2
open PySem PySem.Spec PyProof.Rows

/-! ### a list, a tuple that is read: tracked, frozen, or an object of the module -/
def SqL (K : PySem.W.Frag) (H : Hp) (a : Addr) (xs : List V) : Prop :=
  Rd H a (.lst xs) ∨
    ∃ (o : Obj) (its : Array Value) (n : Nat), K.lookup a = some o ∧ o.cls = .type "list" ∧ o.dict = none ∧ o.data = .seq its n ∧ its.size ≤ sizeLine ∧ Vals xs its.toList
def SqT (K : PySem.W.Frag) (H : Hp) (a : Addr) (xs : List V) : Prop :=
  Rd H a (.tup xs) ∨
    ∃ (o : Obj) (its : Array Value) (n : Nat), K.lookup a = some o ∧ o.cls = .type "tuple" ∧ o.data = .seq its n ∧ its.size ≤ sizeLine ∧ Vals xs its.toList
def absV : Value → Option V
  | .none => some .non
  | .bool b => some (.bl b)
  | .int i _ => some (.int i)
  | .str x _ => some (.str x)
  | .bytes b _ => some (.byt b)
  | .float b _ => some (.flt b)
  | .ref a => some (.ref a)
  | .type n => some (.ty n)
  | _ => none
theorem RelV.abs {x : V} {u : Value} (r : RelV x u) : absV u = some x := by
  cases x with
  | non => cases r; rfl
  | bl _ => cases r; rfl
  | int _ => obtain ⟨t, rfl⟩ := r; rfl
  | str _ => obtain ⟨t, rfl⟩ := r; rfl
  | byt _ => obtain ⟨t, rfl⟩ := r; rfl
  | flt _ => obtain ⟨t, rfl⟩ := r; rfl
  | ref _ => cases r; rfl
  | ty _ => cases r; rfl
theorem RelV.inj {x y : V} {u : Value} (r : RelV x u) (q : RelV y u) : x = y := Option.some.inj (r.abs.symm.trans q.abs)
theorem Vals.inj : ∀ {xs ys : List V} {us : List Value}, Vals xs us → Vals ys us → xs = ys
  | _, _, _, .nil, .nil => rfl
  | _, _, _, .cons r t, .cons r' t' => by rw [r.inj r', Vals.inj t t']
section
variable {X : Cx} {pins : List (Addr × Obj)} {σ : St} {H : Hp} {s : Shared} {a : Addr} {xs ys : List V}
theorem SqL.of {K : PySem.W.Frag} (h : H a = some (.lst xs)) : SqL K H a xs := .inl (.inl h)
theorem SqT.of {K : PySem.W.Frag} (h : H a = some (.tup xs)) : SqT K H a xs := .inl (.inl h)
theorem Inv.list (I : Inv X pins σ H s) (h : SqL X.K H a xs) : ∃ its : List Value, Vals xs its ∧ PlainL s.heap a its.toArray ∧ xs.length ≤ sizeLine := by
  rcases h with h | ⟨o, its, n, hk, hc, hd, hs, hz, r⟩
  · obtain ⟨z, its, n, r, e⟩ := h.ok I.hok
    exact ⟨its, r, ⟨_, n, e, rfl, rfl, rfl⟩, z⟩
  · refine ⟨its.toList, r, ⟨o, n, I.kIn a o hk, hc, hd, by simpa using hs⟩, ?_⟩
    have e := r.length
    simp only [Array.length_toList] at e
    omega
theorem Inv.tuple (I : Inv X pins σ H s) (h : SqT X.K H a xs) : ∃ its : List Value, Vals xs its ∧ IsTup s.heap a its.toArray ∧ xs.length ≤ sizeLine := by
  rcases h with h | ⟨o, its, n, hk, hc, hs, hz, r⟩
  · obtain ⟨z, its, r, p⟩ := h.ok I.hok
    exact ⟨its, r, p, z⟩
  · refine ⟨its.toList, r, ⟨o, I.kIn a o hk, hc, n, by simpa using hs⟩, ?_⟩
    have e := r.length
    simp only [Array.length_toList] at e
    omega
theorem Inv.list_inj (I : Inv X pins σ H s) (h : SqL X.K H a xs) (h' : SqL X.K H a ys) : xs = ys := by
  obtain ⟨its, r, ⟨o, n, e, _, _, d⟩, _⟩ := I.list h
  obtain ⟨its', r', ⟨o', n', e', _, _, d'⟩, _⟩ := I.list h'
  rw [e] at e'; cases e'
  rw [d] at d'
  injection d' with d1 _
  have : its = its' := by simpa using congrArg Array.toList d1
  subst this
  exact r.inj r'
theorem Inv.tuple_inj (I : Inv X pins σ H s) (h : SqT X.K H a xs) (h' : SqT X.K H a ys) : xs = ys := by
  obtain ⟨its, r, ⟨o, e, _, n, d⟩, _⟩ := I.tuple h
  obtain ⟨its', r', ⟨o', e', _, n', d'⟩, _⟩ := I.tuple h'
  rw [e] at e'; cases e'
  rw [d] at d'
  injection d' with d1 _
  have : its = its' := by simpa using congrArg Array.toList d1
  subst this
  exact r.inj r'
end

/-! ### another wish about exceptions -/
abbrev Cx.wish (X : Cx) (E : Value → Shared → Prop) : Cx := { X with xe := E }
/-- no exception leaves -/
abbrev Cx.nox (X : Cx) : Cx := X.wish fun _ _ => False
theorem Cx.Ok.wish {X : Cx} (ok : X.Ok) (E : Value → Shared → Prop) : (X.wish E).Ok :=
  ⟨ok.mod, ok.kind, ok.glob, ok.blt, ok.above, ok.inj, ok.has, ok.cab, ok.hd, ok.frames, ok.stk, ok.exf, ok.bs, ok.bsz, ok.noex, ok.exfs, ok.funs, ok.frf⟩
theorem Cx.Ok.unwish {X : Cx} {E : Value → Shared → Prop} (ok : (X.wish E).Ok) : X.Ok :=
  ⟨ok.mod, ok.kind, ok.glob, ok.blt, ok.above, ok.inj, ok.has, ok.cab, ok.hd, ok.frames, ok.stk, ok.exf, ok.bs, ok.bsz, ok.noex, ok.exfs, ok.funs, ok.frf⟩
section
variable {X : Cx} {pins : List (Addr × Obj)} {σ : St} {H : Hp} {s : Shared} {E : Value → Shared → Prop}
theorem Inv.wish (I : Inv X pins σ H s) (E : Value → Shared → Prop) : Inv (X.wish E) pins σ H s := ⟨I.ok.wish E, I.os, I.bare, I.base, I.loc, I.cell, I.free, I.freeC, I.pin, I.hok, I.len⟩
theorem Inv.unwish (I : Inv (X.wish E) pins σ H s) : Inv X pins σ H s := ⟨I.ok.unwish, I.os, I.bare, I.base, I.loc, I.cell, I.free, I.freeC, I.pin, I.hok, I.len⟩
theorem SP.unwish {D : Ends} {f : Flow} {s' : Shared} (h : SP (X.wish E) pins D f s') : SP X pins D f s' := by
  cases f with
  | next => obtain ⟨σ', H', I, q⟩ := h; exact ⟨σ', H', I.unwish, q⟩
  | brk => obtain ⟨σ', H', I, q⟩ := h; exact ⟨σ', H', I.unwish, q⟩
  | cont => obtain ⟨σ', H', I, q⟩ := h; exact ⟨σ', H', I.unwish, q⟩
  | ret u => obtain ⟨v, σ', H', I, r, q⟩ := h; exact ⟨v, σ', H', I.unwish, r, q⟩
theorem PE.nox {e : Expr} {t : TE} (h : PE X.nox e t) : PE X e t := fun pins s σ H Q I hw =>
  wpAny_mono (h pins s σ H Q (I.wish _) hw) (fun _ _ ⟨v, H', I', r, q⟩ => ⟨v, H', I'.unwish, r, q⟩) fun _ _ z => False.elim z
theorem PT.nox {e : Expr} {t : TT} (h : PT X.nox e t) : PT X e t := fun pins s σ H Q I hw =>
  wpAny_mono (h pins s σ H Q (I.wish _) hw) (fun _ _ ⟨H', I', q⟩ => ⟨H', I'.unwish, q⟩) fun _ _ z => False.elim z
theorem PSs.nox {st : List Stmt} {t : TS} (h : PSs X.nox st t) : PSs X st t := fun pins s σ H D I hw =>
  wpAny_mono (h pins s σ H D (I.wish _) hw) (fun _ _ q => q.unwish) fun _ _ z => False.elim z
end

/-! ### blocks and small statements -/
section
variable {X : Cx} {st : Stmt} {rest : List Stmt} {t u : TS} {e : Expr} {te : TE} {pos : Pos}
def tNext : TS := fun D σ H => D.nx σ H
def tSeq (t u : TS) : TS := fun D σ H => t { D with nx := u D } σ H
theorem pss_nil : PSs X [] tNext := fun _ _ σ H _ I h => wpAny_execs_nil ⟨σ, H, I, h⟩
theorem pss_cons (h1 : PS X st t) (h2 : PSs X rest u) : PSs X (st :: rest) (tSeq t u) := by
  intro pins s σ H D I h
  refine wpAny_execs_cons (thn (h1 pins s σ H { D with nx := u D } I h) fun f s1 q => ?_)
  cases f with
  | next =>
    obtain ⟨σ', H', I', q⟩ := q
    exact h2 pins s1 σ' H' D I' q
  | ret v => exact q
  | brk => exact q
  | cont => exact q
theorem pss_one (h1 : PS X st t) : PSs X [st] t := by
  intro pins s σ H D I h
  refine wpAny_execs_cons (thn (h1 pins s σ H D I h) fun f s1 q => ?_)
  cases f with
  | next => exact wpAny_execs_nil q
  | ret v => exact q
  | brk => exact q
  | cont => exact q
def tBreak : TS := fun D σ H => D.bk σ H
def tCont : TS := fun D σ H => D.ct σ H
theorem ps_pass : PS X (.Pass pos) tNext := fun _ _ σ H _ I h => wpAny_Pass ⟨σ, H, I, h⟩
theorem ps_break : PS X (.Break pos) tBreak := fun _ _ σ H _ I h => wpAny_Break ⟨σ, H, I, h⟩
theorem ps_continue : PS X (.Continue pos) tCont := fun _ _ σ H _ I h => wpAny_Continue ⟨σ, H, I, h⟩
/-- in a def's body nothing is shown -/
theorem Inv.quiet {pins : List (Addr × Obj)} {σ : St} {H : Hp} {s : Shared} (I : Inv X pins σ H s) : interactive X.env = false := by simp [interactive, I.ok.kind]
/-- a docstring -/
theorem ps_doc {x j pos pos'} : PS X (.Expr (.Constant (.str x) j pos) pos') tNext := fun _ s σ H _ I h => wpAny_Expr (Calls.Constant_str (show SP X _ _ .next { s with toks := s.toks + 1 } from ⟨σ, H, I.tok _, h⟩)) I.quiet
/-- an expression whose value is dropped -/
def tDrop (te : TE) : TS := fun D σ H => te σ H fun _ H1 => D.nx σ H1
theorem ps_expr (he : PE X e te) (hs : swapsWith e none pos.line X.env = pure false := by rfl) : PS X (.Expr e pos) (tDrop te) := by
  intro pins s σ H D I h
  exact wpAny_Expr_any (thn (he pins s σ H _ I h) fun v s1 ⟨x, H1, I1, r1, q1⟩ => ⟨σ, H1, I1, q1⟩) I.quiet hs
def tRet (te : TE) : TS := fun D σ H => te σ H D.rt
theorem ps_ret (he : PE X e te) : PS X (.Return (some e) pos) (tRet te) := by
  intro pins s σ H D I h
  exact wpAny_Return_some (thn (he pins s σ H _ I h) fun v s1 ⟨x, H1, I1, r1, q1⟩ => ⟨x, σ, H1, I1, r1, q1⟩)
def tRetN : TS := fun D _ H => D.rt .non H
theorem ps_retN : PS X (.Return none pos) tRetN := fun _ _ σ H _ I h => wpAny_Return_none ⟨.non, σ, H, I, rfl, h⟩
def tIfS (c : TT) (t u : TS) : TS := fun D σ H => c σ H fun b H1 => if b = true then t D σ H1 else u D σ H1
theorem ps_if {c : Expr} {a b : List Stmt} {tc : TT} (hc : PT X c tc) (ha : PSs X a t) (hb : PSs X b u) : PS X (.If c a b pos) (tIfS tc t u) := by
  intro pins s σ H D I h
  refine wpAny_If (thn (hc pins s σ H _ I h) fun d s1 ⟨H1, I1, q1⟩ => ?_)
  cases d with
  | true => exact ha pins s1 σ H1 D I1 q1
  | false => exact hb pins s1 σ H1 D I1 q1
/-- code that the proof never comes to -/
def tNever : TS := fun _ _ _ => False
theorem ps_never : PS X st tNever := fun _ _ _ _ _ _ h => h.elim
theorem pss_never {sts : List Stmt} : PSs X sts tNever := fun _ _ _ _ _ _ h => h.elim
end

/-! ### targets -/
abbrev TG := V → St → Hp → (St → Hp → Prop) → Prop
abbrev TGs := List V → St → Hp → (St → Hp → Prop) → Prop
def PG (X : Cx) (target : Expr) (t : TG) : Prop :=
  ∀ (pins : List (Addr × Obj)) (s : Shared) (σ : St) (H : Hp) (v : V) (u : Value) (Q : St → Hp → Prop), Inv X pins σ H s → RelV v u → t v σ H Q →
    wpAny (model X.prog X.w) X.A (assign target X.env u) (fun _ s' => ∃ σ' H', Inv X pins σ' H' s' ∧ Q σ' H') X.xe s
/-- several targets, one after another -/
def PGs (X : Cx) (ts : List Expr) (t : TGs) : Prop :=
  ∀ (pins : List (Addr × Obj)) (s : Shared) (σ : St) (H : Hp) (vs : List V) (us : List Value) (Q : St → Hp → Prop), Inv X pins σ H s → Vals vs us → t vs σ H Q →
    wpAny (model X.prog X.w) X.A (assignInOrder ((assignEach ts X.env).map (·.2)) us) (fun _ s' => ∃ σ' H', Inv X pins σ' H' s' ∧ Q σ' H') X.xe s
/-- o[i] = v, by values -/
abbrev TSet := V → V → V → Hp → (Hp → Prop) → Prop
def PSet (X : Cx) (t : TSet) : Prop :=
  ∀ (pins : List (Addr × Obj)) (s : Shared) (σ : St) (H : Hp) (o i v : V) (ov iv u : Value) (Q : Hp → Prop), Inv X pins σ H s → RelV o ov → RelV i iv → RelV v u → t o i v H Q →
    wpAny (model X.prog X.w) X.A (setItem ov iv u) (fun _ s' => ∃ H', Inv X pins σ H' s' ∧ Q H') X.xe s
/-- a op= b, by values -/
abbrev TIp := V → V → Hp → VK → Prop
def PIp (X : Cx) (op : Operator) (t : TIp) : Prop :=
  ∀ (pins : List (Addr × Obj)) (s : Shared) (σ : St) (H : Hp) (x y : V) (v u : Value) (Q : VK), Inv X pins σ H s → RelV x v → RelV y u → t x y H Q →
    wpAny (model X.prog X.w) X.A (inplaceOp op v u) (EP X pins σ Q) X.xe s
section
variable {X : Cx} {pos : Pos}
def gName (i : Nat) : TG := fun v σ H Q => Q (σ.set i (some v)) H
theorem pg_name {i : Nat} {x : Str} (hN : X.N.Nodup) (hi : X.N[i]? = some x) (hx : Loc X.env.scope x) (hf : X.fn x = true ∨ X.env.scope.names.lookup x = some .local := by first | exact .inl rfl | exact .inr rfl | assumption) : PG X (.Name x pos) (gName i) := by
  intro pins s σ H v u Q I r h
  exact wpAny_assign_Name (store_ok I hN hi hx r (fun s' I' => ⟨_, H, I', h⟩) hf)
def gNil : TGs := fun vs σ H Q => vs = [] ∧ Q σ H
def gCons (t : TG) (u : TGs) : TGs := fun vs σ H Q => ∃ v r, vs = v :: r ∧ t v σ H fun σ' H' => u r σ' H' Q
theorem pgs_nil : PGs X [] gNil := by
  intro pins s σ H vs us Q I r h
  obtain ⟨e, h⟩ := h
  subst e
  cases r
  exact assignInOrder_nil ⟨σ, H, I, h⟩
theorem pgs_cons {e : Expr} {es : List Expr} {t : TG} {u : TGs} (h1 : PG X e t) (h2 : PGs X es u)
    (hs : (assignEach (e :: es) X.env).map (·.2) = assign e X.env :: (assignEach es X.env).map (·.2) := by rfl) : PGs X (e :: es) (gCons t u) := by
  intro pins s σ H vs us Q I r h
  obtain ⟨v, vr, e1, h⟩ := h
  subst e1
  cases r with
  | cons r rr =>
    rw [hs]
    refine assignInOrder_cons (thn (h1 pins s σ H _ _ _ I r h) fun _ s1 ⟨σ1, H1, I1, q1⟩ => ?_)
    exact h2 pins s1 σ1 H1 _ _ Q I1 rr q1
/-- (a, b, ..) = a tuple of that length -/
def gTup (K : PySem.W.Frag) (n : Nat) (t : TGs) : TG := fun v σ H Q => ∃ a xs, v = .ref a ∧ SqT K H a xs ∧ xs.length = n ∧ t xs σ H Q
theorem pg_tup {es : List Expr} {k : Nat} {t : TGs} {n : Nat} (hc : X.calm = true) (h : PGs X es t)
    (hn : (assignEach es X.env).length = n := by rfl) (hst : (assignEach es X.env).findIdx? (·.1) = none := by rfl) : PG X (.Tuple es k pos) (gTup X.K n t) := by
  intro pins s σ H v u Q I r hw
  obtain ⟨a, xs, e1, hq, hl, hw⟩ := hw
  subst e1
  cases r
  obtain ⟨its, rv, ht, hz⟩ := I.tuple hq
  refine assign_Tuple_tuple (I.ok.hd hc) ht (by simp [hn, ← hl, rv.length]) hst fun h' hx => ?_
  have I1 : Inv X pins σ H { s with heap := h' } := I.kept (t' := s.toks) fun b o e => hx b o (Nat.ne_of_lt (Heap.lt_size e)) e
  exact h pins _ σ H xs _ Q I1 (by simpa using rv) hw
/-- o[i] = .. -/
def gSub (to ti : TE) (t : TSet) : TG := fun v σ H Q => to σ H fun o H1 => ti σ H1 fun i H2 => t o i v H2 fun H3 => Q σ H3
theorem pg_sub {o i : Expr} {to ti : TE} {t : TSet} (ho : PE X o to) (hi : PE X i ti) (hs : PSet X t)
    (ha : ∀ v, assign (.Subscript o i pos) X.env v = (do
      let ov ← holding [v] (eval o X.env)
      let iv ← holding [v, ov] (eval i X.env)
      standAt pos
      holding [v, ov, iv] (setItem ov iv v)
      release [v, ov, iv] []) := by intro _; rfl) : PG X (.Subscript o i pos) (gSub to ti t) := by
  intro pins s σ H v u Q I r h
  rw [ha]
  refine wpAny_bind (wpAny_holding (thn (ho pins s σ H _ I h) fun ov s1 ⟨x, H1, I1, r1, q1⟩ => ?_))
  refine wpAny_bind (wpAny_holding (thn (hi pins s1 σ H1 _ I1 q1) fun iv s2 ⟨y, H2, I2, r2, q2⟩ => ?_))
  refine wpAny_bind (wpAny_standAt (wpAny_bind (wpAny_holding (thn (hs pins s2 σ H2 x y v ov iv u _ I2 r1 r2 r q2) fun _ s3 ⟨H3, I3, q3⟩ => ?_))))
  exact wpAny_release ⟨σ, H3, I3, q3⟩
/-- target = value -/
def tAsg (te : TE) (g : TG) : TS := fun D σ H => te σ H fun x H1 => g x σ H1 D.nx
theorem ps_asg {tg e : Expr} {te : TE} {g : TG} (he : PE X e te) (hg : PG X tg g) (hs : swapsWithSole [tg] e pos.line X.env = pure false := by rfl) (hw : swappedStores [tg] e X.env = pure none := by rfl)
    (h1 : (assignEach [tg] X.env).map (·.2) = [assign tg X.env] := by rfl) : PS X (.Assign [tg] e pos) (tAsg te g) := by
  intro pins s σ H D I h
  refine wpAny_Assign_stores (thn (he pins s σ H _ I h) fun v s1 ⟨x, H1, I1, r1, q1⟩ => ?_) hs hw
  rw [h1]
  exact thn (hg pins s1 σ H1 x v _ I1 r1 q1) fun _ s2 q => q
/-- name = value -/
theorem ps_set {i : Nat} {x : Str} {e : Expr} {te : TE} {pos' : Pos} (hN : X.N.Nodup) (hi : X.N[i]? = some x) (hx : Loc X.env.scope x) (he : PE X e te) (hs : swapsWith e (some (.Name x pos')) pos.line X.env = pure false := by rfl) (hf : X.fn x = true ∨ X.env.scope.names.lookup x = some .local := by first | exact .inl rfl | exact .inr rfl | assumption) :
    PS X (.Assign [.Name x pos'] e pos) (tAsg te (gName i)) := by
  intro pins s σ H D I h
  refine wpAny_Assign_Name (thn (he pins s σ H _ I h) fun v s1 ⟨y, H1, I1, r1, q1⟩ => ?_) hs
  exact store_ok I1 hN hi hx r1 (fun s2 I2 => ⟨_, H1, I2, q1⟩) hf
/-- a, b = x, y with plain local names: stored from the right; the pair itself is not tracked (the opening rows as in PyProof/Rows/TupAssign.lean:23) -/
def tPar (i j : Nat) (ta : TA) : TS := fun D σ H => ta σ H fun vs H1 => ∃ v w, vs = [v, w] ∧ D.nx ((σ.set i (some v)).set j (some w)) H1
theorem ps_par {i j : Nat} {x y : Str} {a b : Expr} {ta : TA} {px py pt : Pos} {kt k2 pt2} (hc : X.calm = true) (hN : X.N.Nodup) (hi : X.N[i]? = some x) (hj : X.N[j]? = some y) (hij : i ≠ j)
    (hx : X.env.scope.names.lookup x = some .local) (hy : X.env.scope.names.lookup y = some .local) (ha : PA X [a, b] ta)
    (hw : swappedStores [.Tuple [.Name x px, .Name y py] kt pt] (.Tuple [a, b] k2 pt2) X.env = pure (some [x, y]))
    (hs : swapsWithSole [.Tuple [.Name x px, .Name y py] kt pt] (.Tuple [a, b] k2 pt2) pos.line X.env = pure false := by rfl) :
    PS X (.Assign [.Tuple [.Name x px, .Name y py] kt pt] (.Tuple [a, b] k2 pt2) pos) (tPar i j ta) := by
  intro pins s σ H D I h
  rw [exec_Assign_arm]
  refine wpAny_bind (wpAny_standAt ?_)
  rw [hs]
  refine wpAny_bind (wpAny_pure ?_)
  rw [if_neg (by decide)]
  refine wpAny_bind (Tuple_ (thn (ha _ pins s σ H _ I h) fun us s1 ⟨vs, H1, I1, r1, q1⟩ => ?_))
  obtain ⟨v, w, e1, q1⟩ := q1
  subst e1
  obtain ⟨u1, u2, rfl, rv, rw'⟩ : ∃ u1 u2, us = [u1, u2] ∧ RelV v u1 ∧ RelV w u2 := by
    cases r1 with
    | cons p q =>
      cases q with
      | cons p' q' =>
        cases q'
        exact ⟨_, _, rfl, p, p'⟩
  refine wpAny_newObj_type ?_ (by show 2 ≤ sizeLine; decide)
  have I2 : Inv X pins σ H1 { s1 with heap := s1.heap.push { cls := .type "tuple", data := .seq [u1, u2].toArray } } := I1.kept (t' := s1.toks) fun b o e => Heap.get?_push_of_some _ e
  rw [hw]
  refine wpAny_bind (wpAny_pure ?_)
  show wpAny (model X.prog X.w) X.A (do rule "assign.swapped-stores"; let items ← unpackItems (.ref s1.heap.objs.size) 2 none; assignInOrder [fun v => bindName X.env y v, fun v => bindName X.env x v] items.reverse; pure Flow.next) _ _ _
  refine wpAny_bind (wpAny_rule (wpAny_bind (unpackItems_tuple (items := #[u1, u2]) (I.ok.hd hc) (IsTup.new s1.heap _) fun h' hx' => ?_)))
  have I3 := I2.kept (h' := h') (t' := s1.toks) fun b o e => hx' b o (Nat.ne_of_lt (Heap.lt_size e)) e
  show wpAny _ _ (assignInOrder [fun v => bindName X.env y v, fun v => bindName X.env x v] [u2, u1] >>= fun _ => pure Flow.next) _ _ _
  refine wpAny_bind (assignInOrder_cons (wpAny_bindName (store_ok I3 hN hj (.inl hy) rw' (fun s2 I4 => ?_) (.inr hy))))
  refine assignInOrder_cons (wpAny_bindName (store_ok I4 hN hi (.inl hx) rv (fun s3 I5 => assignInOrder_nil (wpAny_pure ?_)) (.inr hx)))
  rw [List.set_comm _ _ (Ne.symm hij)] at I5
  exact ⟨_, H1, I5, q1⟩
/-- name op= e -/
def tAug (i : Nat) (te : TE) (ti : TIp) : TS := fun D σ H => ∃ x, σ[i]? = some (some x) ∧ te σ H fun y H1 => ti x y H1 fun z H2 => D.nx (σ.set i (some z)) H2
theorem ps_aug {i : Nat} {x : Str} {e : Expr} {te : TE} {op : Operator} {ti : TIp} {pos' : Pos} (hN : X.N.Nodup) (hi : X.N[i]? = some x) (hx : Loc X.env.scope x) (he : PE X e te) (ho : PIp X op ti) (hf : X.fn x = true ∨ X.env.scope.names.lookup x = some .local := by first | exact .inl rfl | exact .inr rfl | assumption) :
    PS X (.AugAssign (.Name x pos') op e pos) (tAug i te ti) := by
  intro pins s σ H D I h
  obtain ⟨v, e1, h⟩ := h
  obtain ⟨m, hn, hl⟩ := I.loc
  have vis : Vis X.env.scope x := by rcases hx with k | k; exact .inl k; exact .inr (.inl k)
  obtain ⟨u, r, l⟩ := hl i x v hi e1 vis
  refine wpAny_AugAssign_Name ?_
  have go : wpAny (model X.prog X.w) X.A (eval e X.env) (fun w s₂ => wpAny (model X.prog X.w) X.A (inplaceOp op u w) (fun r s₃ => wpAny (model X.prog X.w) X.A (storeName X.env x r) (fun _ => SP X pins D .next) X.xe s₃) X.xe s₂) X.xe s := by
    refine thn (he pins s σ H _ I h) fun w s1 ⟨y, H1, I1, r1, q1⟩ => ?_
    refine thn (ho pins s1 σ H1 v y u w _ I1 r r1 q1) fun z s2 ⟨zv, H2, I2, r2, q2⟩ => ?_
    exact store_ok I2 hN hi hx r2 (fun s3 I3 => ⟨_, H2, I3, q2⟩) hf
  rcases l with ⟨hk, hm⟩ | ⟨hk, c, hc, hcell⟩
  · exact wpAny_loadName_local I.ok.kind hk hn hm go
  · rcases hk with hk | hk
    · exact wpAny_loadName_cell I.ok.kind hk hc hcell go
    · rcases hx with k | k
      · have : X.env.scope.names.lookup x = some .free := hk
        rw [k] at this; cases this
      · have : X.env.scope.names.lookup x = some .free := hk
        rw [k] at this; cases this
/-- o[i] op= e -/
def tAugS (to ti te : TE) (tget : V → V → Hp → VK → Prop) (tip : TIp) (tset : TSet) : TS := fun D σ H => to σ H fun o H1 => ti σ H1 fun i H2 => tget o i H2 fun x H3 => te σ H3 fun y H4 => tip x y H4 fun z H5 => tset o i z H5 fun H6 => D.nx σ H6
/-- o[i], by values -/
def PGet (X : Cx) (t : V → V → Hp → VK → Prop) : Prop :=
  ∀ (pins : List (Addr × Obj)) (s : Shared) (σ : St) (H : Hp) (o i : V) (ov iv : Value) (Q : VK), Inv X pins σ H s → RelV o ov → RelV i iv → t o i H Q →
    wpAny (model X.prog X.w) X.A (getItem ov iv) (EP X pins σ Q) X.xe s
theorem ps_augS {o i e : Expr} {to ti te : TE} {tget : V → V → Hp → VK → Prop} {tip : TIp} {tset : TSet} {op : Operator} {tpos : Pos} (ho : PE X o to) (hi : PE X i ti) (hg : PGet X tget) (he : PE X e te) (hp : PIp X op tip) (hs : PSet X tset)
    (ha : ∀ ov iv new, augStore i ov iv new = (do holding [new, ov, iv] (setItem ov iv new); release [new, ov, iv] []; pure .next) := by intros; rfl) : PS X (.AugAssign (.Subscript o i tpos) op e pos) (tAugS to ti te tget tip tset) := by
  intro pins s σ H D I h
  refine wpAny_AugAssign_SubscriptAny (thn (ho pins s σ H _ I h) fun ov s1 ⟨x1, H1, I1, r1, q1⟩ => ?_) ha
  refine thn (hi pins s1 σ H1 _ I1 q1) fun iv s2 ⟨x2, H2, I2, r2, q2⟩ => ?_
  refine thn (hg pins s2 σ H2 x1 x2 ov iv _ I2 r1 r2 q2) fun old s3 ⟨x3, H3, I3, r3, q3⟩ => ?_
  refine thn (he pins s3 σ H3 _ I3 q3) fun v s4 ⟨x4, H4, I4, r4, q4⟩ => ?_
  refine thn (hp pins s4 σ H4 x3 x4 old v _ I4 r3 r4 q4) fun new s5 ⟨x5, H5, I5, r5, q5⟩ => ?_
  exact thn (hs pins s5 σ H5 x1 x2 x5 ov iv new _ I5 r1 r2 r5 q5) fun _ s6 ⟨H6, I6, q6⟩ => ⟨σ, H6, I6, q6⟩
/-- ints -/
def ipI (f : Int → Int → Int) : TIp := fun x y H Q => ∃ i j, x = .int i ∧ y = .int j ∧ Q (.int (f i j)) H
theorem ip_add : PIp X .Add (ipI fun i j => i + j) := by
  intro pins s σ H x y v u Q I r1 r2 h
  obtain ⟨i, j, e1, e2, q⟩ := h
  subst e1; subst e2
  obtain ⟨t, rfl⟩ := r1
  obtain ⟨t', rfl⟩ := r2
  exact iadd_int ⟨.int _, H, I.tok _, ⟨_, rfl⟩, q⟩
theorem ip_sub : PIp X .Sub (ipI fun i j => i - j) := by
  intro pins s σ H x y v u Q I r1 r2 h
  obtain ⟨i, j, e1, e2, q⟩ := h
  subst e1; subst e2
  obtain ⟨t, rfl⟩ := r1
  obtain ⟨t', rfl⟩ := r2
  exact isub_int ⟨.int _, H, I.tok _, ⟨_, rfl⟩, q⟩
end

/-! ### while -/
section
variable {X : Cx} {pos : Pos}
/-- the invariant W with its measure -/
def tWhile (c : TT) (tb : TS) : TS := fun D σ H => ∃ W : Nat → St → Hp → Prop, (∃ m, W m σ H) ∧ ∀ m σ H, W m σ H →
  c σ H fun b H1 => if b = true then ∃ N : St → Hp → Prop, (∀ σ' H', N σ' H' → ∃ m', m' < m ∧ W m' σ' H') ∧ tb { D with nx := N, ct := N, bk := D.nx } σ H1 else D.nx σ H1
theorem ps_while {c : Expr} {body : List Stmt} {tc : TT} {tb : TS} (hp : PassesOwn (model X.prog X.w) X.A X.env X.xe) (hc : PT X c tc) (hb : PSs X body tb) : PS X (.While c body [] pos) (tWhile tc tb) := by
  intro pins s σ H D I h
  obtain ⟨W, ⟨m0, w0⟩, turn⟩ := h
  refine wpAny_While (codeAny_whileLoop (fun n s' => ∃ σ' H', Inv X pins σ' H' s' ∧ W n σ' H') ?_ m0 ⟨σ, H, I, w0⟩)
  rintro n s1 ⟨σ1, H1, I1, w1⟩
  refine wpAny_passesOwn hp (thn (hc pins s1 σ1 H1 _ I1 (turn n σ1 H1 w1)) fun b s2 ⟨H2, I2, q2⟩ => ?_)
  cases b with
  | true =>
    obtain ⟨N, hN, q2⟩ := q2
    rw [if_pos rfl]
    refine wpAny_passesOwn hp (thn (hb pins s2 σ1 H2 _ I2 q2) fun f s3 q3 => ?_)
    cases f with
    | next =>
      obtain ⟨σ3, H3, I3, n3⟩ := q3
      obtain ⟨m', hm, w3⟩ := hN σ3 H3 n3
      exact ⟨m', hm, σ3, H3, I3, w3⟩
    | cont =>
      obtain ⟨σ3, H3, I3, n3⟩ := q3
      obtain ⟨m', hm, w3⟩ := hN σ3 H3 n3
      exact ⟨m', hm, σ3, H3, I3, w3⟩
    | brk => exact q3
    | ret v => exact q3
  | false =>
    rw [if_neg Bool.false_ne_true]
    exact wpAny_execs_nil ⟨σ1, H2, I2, q2⟩
end

/-! ### what a loop or a comprehension walks -/
/-- at turn i: it yields x (the heap may grow), or it stops -/
structure It where
  go : Nat → Hp → Prop
  yld : Nat → Hp → V → Hp → Prop
  stop : Nat → Hp → Prop
/-- the iterator's own objects may turn: they are not the frame's, not pinned, younger than the entry (or a comprehension's own) -/
def FpOk (X : Cx) (pins : List (Addr × Obj)) (H : Hp) (b : Addr) : Prop :=
  H b = none ∧ b ≠ X.env.locals ∧ b ∉ X.fs ∧ (b ∈ X.ex ∨ X.s₀.heap.objs.size ≤ b) ∧ (∀ x c, X.env.cells.lookup x = some c → c ≠ b) ∧ ∀ p ∈ X.pn ++ pins, p.1 ≠ b
theorem Inv.fpOk {X : Cx} {pins : List (Addr × Obj)} {σ : St} {H H' : Hp} {s : Shared} {b : Addr} (I : Inv X pins σ H s) (hb : s.heap.objs.size ≤ b) (hn : H' b = none) : FpOk X pins H' b := by
  refine ⟨hn, Nat.ne_of_gt (Nat.lt_of_lt_of_le I.lt hb), I.nofs hb, .inr (Nat.le_trans I.sz hb), fun x c e z => ?_, fun p hp z => ?_⟩
  · obtain ⟨v, q⟩ := I.cell x c e
    exact absurd (Nat.lt_of_lt_of_le q.lt (by rw [z]; exact hb)) (Nat.lt_irrefl _)
  · exact absurd (Nat.lt_of_lt_of_le (Heap.lt_size (I.pin p hp).1) (by rw [z]; exact hb)) (Nat.lt_irrefl _)
structure Turn (P : Program) (w : World) (K : PySem.W.Frag) (tg : Expr) (J : It) (fp : List Addr) (it : Addr) (tn : Nat → Heap → Prop) : Prop where
  mem : it ∈ fp
  obj : ∀ i h, tn i h → ∀ b ∈ fp, ∃ o, h.get? b = some o ∧ ∀ v, o.data ≠ .cell v
  keep : ∀ i h h', tn i h → (∀ b ∈ fp, ∀ o, h.get? b = some o → h'.get? b = some o) → tn i h'
  item : ∀ (X : Cx), X.prog = P → X.w = w → X.K = K → X.calm = true → ∀ (i : Nat) (pins : List (Addr × Obj)) (s : Shared) (σ : St) (H : Hp) (E : Value → Shared → Prop), Inv X pins σ H s → (∀ b ∈ fp, FpOk X pins H b) → tn i s.heap → J.go i H →
    wpAny (model P w) X.A (pyNext (.ref it)) (fun r s1 => ∃ u, r = some u ∧
      wpAny (model P w) X.A (letOwnedTupleGo tg (.ref it) u) (fun _ s2 => ∃ x H', Inv X pins σ H' s2 ∧ RelV x u ∧ J.yld i H x H' ∧ tn (i + 1) s2.heap ∧ ∀ b ∈ fp, H' b = none) E s1) E s
  done : ∀ (X : Cx), X.prog = P → X.w = w → X.K = K → X.calm = true → ∀ (i : Nat) (pins : List (Addr × Obj)) (s : Shared) (σ : St) (H : Hp) (E : Value → Shared → Prop), Inv X pins σ H s → (∀ b ∈ fp, FpOk X pins H b) → tn i s.heap → J.stop i H →
    wpAny (model P w) X.A (pyNext (.ref it)) (fun r s1 => r = none ∧ Inv X pins σ H s1) E s
  self : ∀ (A : Around) (i : Nat) (s : Shared) (Q : Value → Shared → Prop) (E : Value → Shared → Prop), tn i s.heap → Q (.ref it) s → wpAny (model P w) A (pyIter (.ref it)) Q E s
abbrev TI := St → Hp → (It → Hp → Prop) → Prop
/-- an iterator has come -/
def PIE (X : Cx) (pins : List (Addr × Obj)) (σ : St) (tg : Expr) (R : It → Hp → Prop) (itv : Value) (s2 : Shared) : Prop :=
  ∃ (it : Addr) (fp : List Addr) (tn : Nat → Heap → Prop) (J : It) (H' : Hp), itv = .ref it ∧ Inv X pins σ H' s2 ∧ Turn X.prog X.w X.K tg J fp it tn ∧ tn 0 s2.heap ∧ (∀ b ∈ fp, FpOk X pins H' b) ∧ R J H'
def PI (X : Cx) (tg iter : Expr) (wi : TI) : Prop :=
  ∀ (pins : List (Addr × Obj)) (s : Shared) (σ : St) (H : Hp) (R : It → Hp → Prop), Inv X pins σ H s → wi σ H R →
    wpAny (model X.prog X.w) X.A (eval iter X.env) (fun v s1 => wpAny (model X.prog X.w) X.A (pyIter v) (PIE X pins σ tg R) X.xe s1) X.xe s

/-- the step ahead of the store is nothing for an iterator that keeps no tuple -/
theorem go_of {M : Model} {A : Around} {E : Value → Shared → Prop} {s : Shared} {tg : Expr} {it : Addr} {u : Value} {o : Obj} {n : String} {vs : Array Value} {Q : Unit → Shared → Prop} (ho : s.heap.get? it = some o) (hc : o.cls = .type n) (hd : o.data = .fields vs)
    (hn : ["enumerate", "zip", "dict_itemiterator", "dict_reverseitemiterator", "odict_iterator", "itertools.zip_longest", "itertools.pairwise"].contains n = false) (hQ : Q () s) : wpAny M A (letOwnedTupleGo tg (.ref it) u) Q E s := by
  unfold letOwnedTupleGo
  cases tg <;> first
    | exact wpAny_pure hQ
    | (cases u <;> first
        | exact wpAny_pure hQ
        | (refine wpAny_bind (wpAny_load ho ?_)
           rw [hc, hd]
           show wpAny M A (if (["enumerate", "zip", "dict_itemiterator", "dict_reverseitemiterator", "odict_iterator", "itertools.zip_longest", "itertools.pairwise"].contains n && vs[0]? == some (rawInt _)) = true then _ else _) Q E s
           rw [if_neg (by intro h; rw [hn, Bool.false_and] at h; cases h)]
           exact wpAny_pure hQ))

/-- the list at a, as it stands at each turn (a loop may append to it) -/
def Itl (K : PySem.W.Frag) (a : Addr) : It :=
  ⟨fun i H => ∃ xs x, SqL K H a xs ∧ xs[i]? = some x, fun i H x H' => H' = H ∧ ∀ xs, SqL K H a xs → xs[i]? = some x, fun i H => ∃ xs, SqL K H a xs ∧ xs.length ≤ i⟩
def Itt (K : PySem.W.Frag) (a : Addr) : It :=
  ⟨fun i H => ∃ xs x, SqT K H a xs ∧ xs[i]? = some x, fun i H x H' => H' = H ∧ ∀ xs, SqT K H a xs → xs[i]? = some x, fun i H => ∃ xs, SqT K H a xs ∧ xs.length ≤ i⟩
/-- lo, lo + 1, .. (n of them) -/
def Itr (lo : Int) (n : Nat) : It := ⟨fun i _ => i < n, fun i H x H' => H' = H ∧ x = .int (lo + i), fun i _ => n ≤ i⟩
theorem turn_list {P : Program} {w : World} {K : PySem.W.Frag} {tg : Expr} (a it : Addr) : Turn P w K tg (Itl K a) [it] it (fun i h => h.IsListIter it a i) where
  mem := by simp
  obj := fun i h st b hb => by
    have e : b = it := by simpa using hb
    subst e
    obtain ⟨o, e, c, d⟩ := st
    exact ⟨o, e, fun v z => by rw [d] at z; cases z⟩
  keep := fun i h h' st k => st.at fun o e => k it (by simp) o e
  item := by
    intro X hP hw hK hc i pins s σ H E I hf st hg
    subst hP hw hK
    obtain ⟨xs, x, hq, hx⟩ := hg
    obtain ⟨its, rv, p, hz⟩ := I.list hq
    obtain ⟨u, hu, ru⟩ := rv.get hx
    obtain ⟨f0, f1, f2, f3, f4, f5⟩ := hf it (by simp)
    refine wpAny_pyNext_list_item st p.isList (x := u) (by simpa using hu) fun h' st' sb => ?_
    have I1 : Inv X pins σ H { s with heap := h' } := I.turned (t' := s.toks) (fun b o hb e => (sb.2 b hb).trans e) f0 f1 f3 f4 f5
    obtain ⟨o, e, c, d⟩ := id st'
    exact ⟨u, rfl, go_of (s := { s with heap := h' }) e c d (by decide) ⟨x, H, I1, ru, ⟨rfl, fun ys hy => by rw [I.list_inj hy hq]; exact hx⟩, st', fun b hb => (hf b hb).1⟩⟩
  done := by
    intro X hP hw hK hc i pins s σ H E I hf st hg
    subst hP hw hK
    obtain ⟨xs, hq, hx⟩ := hg
    obtain ⟨its, rv, p, hz⟩ := I.list hq
    obtain ⟨f0, f1, f2, f3, f4, f5⟩ := hf it (by simp)
    have hl := rv.length
    exact wpAny_pyNext_list_end (I.ok.hd hc) st p.isList (by simp; omega) fun h' eb => ⟨rfl, I.turned (t' := s.toks) (fun b o hb e => eb b o hb e) f0 f1 f3 f4 f5⟩
  self := fun _ _ _ _ _ st h => wpAny_pyIter_listiter st h
theorem turn_tuple {P : Program} {w : World} {K : PySem.W.Frag} {tg : Expr} (a it : Addr) : Turn P w K tg (Itt K a) [it] it (fun i h => h.IsTupleIter it a i) where
  mem := by simp
  obj := fun i h st b hb => by
    have e : b = it := by simpa using hb
    subst e
    obtain ⟨o, e, c, d⟩ := st
    exact ⟨o, e, fun v z => by rw [d] at z; cases z⟩
  keep := fun i h h' st k => st.at fun o e => k it (by simp) o e
  item := by
    intro X hP hw hK hc i pins s σ H E I hf st hg
    subst hP hw hK
    obtain ⟨xs, x, hq, hx⟩ := hg
    obtain ⟨its, rv, p, hz⟩ := I.tuple hq
    obtain ⟨u, hu, ru⟩ := rv.get hx
    obtain ⟨f0, f1, f2, f3, f4, f5⟩ := hf it (by simp)
    refine wpAny_pyNext_tuple_item st (show s.heap.IsTuple a its.toArray from p) (x := u) (by simpa using hu) fun h' st' sb => ?_
    have I1 : Inv X pins σ H { s with heap := h' } := I.turned (t' := s.toks) (fun b o hb e => (sb.2 b hb).trans e) f0 f1 f3 f4 f5
    obtain ⟨o, e, c, d⟩ := id st'
    exact ⟨u, rfl, go_of (s := { s with heap := h' }) e c d (by decide) ⟨x, H, I1, ru, ⟨rfl, fun ys hy => by rw [I.tuple_inj hy hq]; exact hx⟩, st', fun b hb => (hf b hb).1⟩⟩
  done := by
    intro X hP hw hK hc i pins s σ H E I hf st hg
    subst hP hw hK
    obtain ⟨xs, hq, hx⟩ := hg
    obtain ⟨its, rv, p, hz⟩ := I.tuple hq
    obtain ⟨f0, f1, f2, f3, f4, f5⟩ := hf it (by simp)
    have hl := rv.length
    exact wpAny_pyNext_tuple_end (I.ok.hd hc) st (show s.heap.IsTuple a its.toArray from p) (by simp; omega) fun h' eb => ⟨rfl, I.turned (t' := s.toks) (fun b o hb e => eb b o hb e) f0 f1 f3 f4 f5⟩
  self := fun _ _ _ _ _ st h => wpAny_pyIter_tupleiter st h
theorem turn_range {P : Program} {w : World} {K : PySem.W.Frag} {tg : Expr} (it : Addr) (lo : Int) (n : Nat) : Turn P w K tg (Itr lo n) [it] it (fun i h => IsRangeIter h it (lo + (i : Nat) * 1) ((n : Int) - (i : Nat)) 1) where
  mem := by simp
  obj := fun i h st b hb => by
    have e : b = it := by simpa using hb
    subst e
    exact ⟨_, st, fun v z => by
      have z' : Data.fields _ = Data.cell v := z
      cases z'⟩
  keep := fun i h h' st k => k it (by simp) _ st
  item := by
    intro X hP hw hK hc i pins s σ H E I hf st hg
    subst hP hw hK
    obtain ⟨f0, f1, f2, f3, f4, f5⟩ := hf it (by simp)
    have W := Walks.range (prog := X.prog) (w := X.w) (I.ok.hd hc) it lo 1 n
    refine W.item i s _ _ hg st fun v h' tk hv st' kk => ?_
    obtain ⟨t, rfl⟩ := hv
    have I1 : Inv X pins σ H { s with heap := h', toks := tk } := I.turned (fun b o hb e => kk b o (by simpa using hb) e) f0 f1 f3 f4 f5
    refine ⟨_, rfl, go_of (s := { s with heap := h', toks := tk }) (n := "range_iterator") st' rfl rfl (by decide) ⟨.int (lo + i), H, I1, ⟨t, ?_⟩, ⟨rfl, rfl⟩, st', fun b hb => (hf b hb).1⟩⟩
    rw [Int.mul_one]
  done := by
    intro X hP hw hK hc i pins s σ H E I hf st hg
    subst hP hw hK
    obtain ⟨f0, f1, f2, f3, f4, f5⟩ := hf it (by simp)
    exact wpAny_pyNext_range_end (I.ok.hd hc) st (by have : n ≤ i := hg; omega) fun h' eb => ⟨rfl, I.turned (t' := s.toks) (fun b o hb e => eb b o hb e) f0 f1 f3 f4 f5⟩
  self := fun _ _ _ _ _ st h => wpAny_pyIter_rangeiter st h
end L2

namespace L2
open PySem PySem.Spec PyProof.Rows
section
variable {X : Cx} {tg : Expr}
def iList (K : PySem.W.Frag) (tl : TE) : TI := fun σ H R => tl σ H fun x H1 => ∃ a, x = .ref a ∧ (∃ xs, SqL K H1 a xs) ∧ R (Itl K a) H1
def iTup (K : PySem.W.Frag) (tl : TE) : TI := fun σ H R => tl σ H fun x H1 => ∃ a, x = .ref a ∧ (∃ xs, SqT K H1 a xs) ∧ R (Itt K a) H1
theorem pi_list {l : Expr} {tl : TE} (hl : PE X l tl) : PI X tg l (iList X.K tl) := by
  intro pins s σ H R I h
  refine thn (hl pins s σ H _ I h) fun v s1 ⟨x, H1, I1, r1, q1⟩ => ?_
  obtain ⟨a, e, ⟨xs, hq⟩, q⟩ := q1
  subst e
  cases r1
  obtain ⟨its, rv, p, hz⟩ := I1.list hq
  refine wpAny_pyIter_list p.isList ?_
  refine ⟨s1.heap.objs.size, [s1.heap.objs.size], _, _, H1, rfl, I1.kept (t' := s1.toks) fun b o e => Heap.get?_push_of_some _ e, turn_list a _, ⟨_, Heap.get?_push_size _ rfl, rfl, rfl⟩, fun b hb => ?_, q⟩
  have e : b = s1.heap.objs.size := by simpa using hb
  subst e
  exact I1.fpOk (Nat.le_refl _) (I1.hok.fresh (Nat.le_refl _))
theorem pi_tup {l : Expr} {tl : TE} (hl : PE X l tl) : PI X tg l (iTup X.K tl) := by
  intro pins s σ H R I h
  refine thn (hl pins s σ H _ I h) fun v s1 ⟨x, H1, I1, r1, q1⟩ => ?_
  obtain ⟨a, e, ⟨xs, hq⟩, q⟩ := q1
  subst e
  cases r1
  obtain ⟨its, rv, p, hz⟩ := I1.tuple hq
  refine wpAny_pyIter_tuple (show s1.heap.IsTuple a its.toArray from p) ?_
  refine ⟨s1.heap.objs.size, [s1.heap.objs.size], _, _, H1, rfl, I1.kept (t' := s1.toks) fun b o e => Heap.get?_push_of_some _ e, turn_tuple a _, ⟨_, Heap.get?_push_size _ rfl, rfl, rfl⟩, fun b hb => ?_, q⟩
  have e : b = s1.heap.objs.size := by simpa using hb
  subst e
  exact I1.fpOk (Nat.le_refl _) (I1.hok.fresh (Nat.le_refl _))
/-- a range object just made, walked -/
theorem range_it {pins : List (Addr × Obj)} {σ : St} {H : Hp} {s : Shared} {R : It → Hp → Prop} {E : Value → Shared → Prop} {lo hi : Int} {t u v : Tok} {tk : Nat} (I : Inv X pins σ H s) (h1 : -(2 ^ 62) ≤ lo) (h2 : lo < 2 ^ 62) (h3 : -(2 ^ 62) ≤ hi) (h4 : hi < 2 ^ 62)
    (q : R (Itr lo (hi - lo).toNat) H) : wpAny (model X.prog X.w) X.A (pyIter (.ref s.heap.objs.size)) (PIE X pins σ tg R) E { s with heap := s.heap.push { cls := .type "range", data := .fields #[.int lo t, .int hi u, .int 1 v] }, toks := tk } := by
  refine wpAny_pyIter_range (IsRange.new ..) (small_one h1 h2 h3 h4) ?_
  have I1 : Inv X pins σ H { s with heap := s.heap.push { cls := .type "range", data := .fields #[.int lo t, .int hi u, .int 1 v] }, toks := tk } := I.kept fun b o e => Heap.get?_push_of_some _ e
  refine ⟨(s.heap.push { cls := .type "range", data := .fields #[.int lo t, .int hi u, .int 1 v] }).objs.size, [(s.heap.push { cls := .type "range", data := .fields #[.int lo t, .int hi u, .int 1 v] }).objs.size], _, _, H, rfl,
    I1.kept (t' := tk) fun b o e => Heap.get?_push_of_some _ e, turn_range _ lo (hi - lo).toNat, ?_, fun b hb => ?_, q⟩
  · have e1 : lo + ((0 : Nat) : Int) * 1 = lo := by simp
    have e2 : (((hi - lo).toNat : Nat) : Int) - ((0 : Nat) : Int) = Builtin.Range.rangeSize lo hi 1 := by rw [rangeSize_one]; split <;> omega
    show IsRangeIter _ _ (lo + ((0 : Nat) : Int) * 1) ((((hi - lo).toNat : Nat) : Int) - ((0 : Nat) : Int)) 1
    rw [e1, e2]
    exact Heap.get?_push_size _ rfl
  · have e : b = (s.heap.push { cls := .type "range", data := .fields #[.int lo t, .int hi u, .int 1 v] }).objs.size := by simpa using hb
    subst e
    exact I1.fpOk (Nat.le_refl _) (I1.hok.fresh (Nat.le_refl _))
def iRng1 (ta : TA) : TI := fun σ H R => ta σ H fun vs H1 => ∃ j : Int, vs = [.int j] ∧ -(2 ^ 62) ≤ j ∧ j < 2 ^ 62 ∧ R (Itr 0 j.toNat) H1
def iRng2 (ta : TA) : TI := fun σ H R => ta σ H fun vs H1 => ∃ i j : Int, vs = [.int i, .int j] ∧ (-(2 ^ 62) ≤ i ∧ i < 2 ^ 62 ∧ -(2 ^ 62) ≤ j ∧ j < 2 ^ 62) ∧ R (Itr i (j - i).toNat) H1
theorem pi_range1 {a : Expr} {ta : TA} {p pos : Pos} (hg : Gl X "range") (hm : X.mg "range" = none) (ha : PA X [a] ta) (hs : starEach [a] X.env = [(false, eval a X.env)] := by rfl) : PI X tg (.Call (.Name "range" p) [a] [] pos) (iRng1 ta) := by
  intro pins s σ H R I h
  refine Call_ (ld_blt I hg hm boot_range (PyProof.Rows.callWith_type1 (thn (ha pos pins s σ H _ I h) fun us s1 ⟨vs, H1, I1, r1, q1⟩ => ?_) hs rfl))
  obtain ⟨j, e, q1, q2, q⟩ := q1
  subst e
  cases r1 with
  | cons r rr =>
    cases rr
    obtain ⟨t, rfl⟩ := r
    exact call_range_1 (range_it I1 (by omega) (by omega) q1 q2 (by simpa using q))
theorem pi_range2 {a b : Expr} {ta : TA} {p pos : Pos} (hg : Gl X "range") (hm : X.mg "range" = none) (ha : PA X [a, b] ta) (hs : starEach [a, b] X.env = [(false, eval a X.env), (false, eval b X.env)] := by rfl) (hs2 : starEach [b] X.env = [(false, eval b X.env)] := by rfl) :
    PI X tg (.Call (.Name "range" p) [a, b] [] pos) (iRng2 ta) := by
  intro pins s σ H R I h
  refine Call_ (ld_blt I hg hm boot_range (PyProof.Rows.callWith_type1 (thn (ha pos pins s σ H _ I h) fun us s1 ⟨vs, H1, I1, r1, q1⟩ => ?_) (by rw [hs, hs2]) (by rw [hs2]; rfl)))
  obtain ⟨i, j, e, ⟨q1, q2, q3, q4⟩, q⟩ := q1
  subst e
  cases r1 with
  | cons r rr =>
    cases rr with
    | cons r' rr =>
      cases rr
      obtain ⟨t, rfl⟩ := r
      obtain ⟨t', rfl⟩ := r'
      exact call_range_2 (range_it I1 q1 q2 q3 q4 q)

/-! ### for -/
/-- W: the invariant by the turn and a measure; N: what the body is to reach -/
def tFor (wi : TI) (g : TG) (tb : TS) : TS := fun D σ H => wi σ H fun J H1 => ∃ W : Nat → Nat → St → Hp → Prop, (∃ m, W 0 m σ H1) ∧ ∀ i m σ H, W i m σ H →
  (J.stop i H ∧ D.nx σ H) ∨ (J.go i H ∧ ∃ N : St → Hp → Prop, (∀ σ' H', N σ' H' → ∃ m', m' < m ∧ W (i + 1) m' σ' H') ∧ ∀ x H', J.yld i H x H' → g x σ H' fun σ2 H2 => tb { D with nx := N, ct := N, bk := D.nx } σ2 H2)
/-- the records at fp as they stand -/
def pinsAt (fp : List Addr) (h : Heap) : List (Addr × Obj) := fp.filterMap fun b => (h.get? b).map fun o => (b, o)
theorem mem_pinsAt {fp : List Addr} {h : Heap} {b : Addr} {o : Obj} (hb : b ∈ fp) (e : h.get? b = some o) : (b, o) ∈ pinsAt fp h := List.mem_filterMap.mpr ⟨b, hb, by rw [e]; rfl⟩
theorem of_pinsAt {fp : List Addr} {h : Heap} {p : Addr × Obj} (hp : p ∈ pinsAt fp h) : p.1 ∈ fp ∧ h.get? p.1 = some p.2 := by
  obtain ⟨b, hb, e⟩ := List.mem_filterMap.mp hp
  cases q : h.get? b with
  | none => rw [q] at e; cases e
  | some o =>
    rw [q] at e
    have e' : (b, o) = p := Option.some.inj e
    subst e'
    exact ⟨hb, q⟩
theorem Inv.pinned {pins : List (Addr × Obj)} {σ : St} {H : Hp} {s : Shared} {fp : List Addr} (I : Inv X pins σ H s) (hf : ∀ b ∈ fp, FpOk X pins H b) (ho : ∀ b ∈ fp, ∃ o, s.heap.get? b = some o ∧ ∀ v, o.data ≠ .cell v) : Inv X (pins ++ pinsAt fp s.heap) σ H s :=
  I.pins_of fun p hp => (List.mem_append.mp hp).elim (fun z => I.pin p (List.mem_append_right _ z)) fun z => by
    obtain ⟨hb, e⟩ := of_pinsAt z
    obtain ⟨f0, f1, f2, _⟩ := hf p.1 hb
    obtain ⟨o, e', d⟩ := ho p.1 hb
    rw [e] at e'; cases e'
    exact ⟨e, f0, f1, f2, d⟩
theorem Inv.unpinned {pins pl : List (Addr × Obj)} {σ : St} {H : Hp} {s : Shared} (I : Inv X (pins ++ pl) σ H s) : Inv X pins σ H s := I.pins_of fun p hp => I.pin p (List.mem_append_right _ (List.mem_append_left _ hp))
theorem ps_for {iter : Expr} {body : List Stmt} {wi : TI} {g : TG} {tb : TS} {pos : Pos} (hp : PassesOwn (model X.prog X.w) X.A X.env X.xe) (hc : X.calm = true) (hi : PI X tg iter wi) (hg : PG X tg g) (hb : PSs X body tb)
    (hs : ∀ x, foldedSetIterable iter X.env x = pure x := by intro _; rfl) : PS X (.For tg iter body [] pos) (tFor wi g tb) := by
  intro pins s σ H D I h
  refine wpAny_For (thn (hi pins s σ H _ I h) fun v s1 h1 => thn h1 fun itv s2 h2 => ?_) hs
  obtain ⟨it, fp, tn, J, H2, e, I2, T, st2, f2, W, ⟨m0, w0⟩, turn⟩ := h2
  subst e
  -- what stays true of the iterator's objects through the loop
  have stat : ∀ {H' : Hp}, (∀ b ∈ fp, H' b = none) → ∀ b ∈ fp, FpOk X pins H' b := fun hn b hb => ⟨hn b hb, (f2 b hb).2⟩
  refine codeAny_forLoop_any (fun n s' => ∃ i σ' H', Inv X pins σ' H' s' ∧ tn i s'.heap ∧ (∀ b ∈ fp, H' b = none) ∧ W i n σ' H') ?_ m0 ⟨0, σ, H2, I2, st2, fun b hb => (f2 b hb).1, w0⟩
  rintro n s3 ⟨i, σ3, H3, I3, st3, fr3, w3⟩
  rcases turn i n σ3 H3 w3 with ⟨stop, qn⟩ | ⟨go, N, hN, step⟩
  · refine wpAny_passesOwn hp (thn (T.done X rfl rfl rfl hc i pins s3 σ3 H3 X.xe I3 (stat fr3) st3 stop) fun r s4 ⟨hr, I4⟩ => ?_)
    subst hr
    exact wpAny_execs_nil ⟨σ3, H3, I4, qn⟩
  · refine wpAny_passesOwn hp (thn (T.item X rfl rfl rfl hc i pins s3 σ3 H3 X.xe I3 (stat fr3) st3 go) fun r s4 ⟨u, hr, h4⟩ => ?_)
    subst hr
    refine wpAny_passesOwn hp (thn h4 fun _ s5 ⟨x, H5, I5, r5, y5, st5, fr5⟩ => ?_)
    have I5' := I5.pinned (stat fr5) (T.obj _ _ st5)
    refine wpAny_passesOwn hp (thn (hg _ s5 σ3 H5 x u _ I5' r5 (step x H5 y5)) fun _ s6 ⟨σ6, H6, I6, q6⟩ => ?_)
    refine wpAny_passesOwn hp (thn (hb _ s6 σ6 H6 _ I6 q6) fun f s7 q7 => ?_)
    have again : ∀ {σ7 : St} {H7 : Hp}, Inv X (pins ++ pinsAt fp s5.heap) σ7 H7 s7 → N σ7 H7 → ∃ m, m < n ∧ ∃ i σ' H', Inv X pins σ' H' s7 ∧ tn i s7.heap ∧ (∀ b ∈ fp, H' b = none) ∧ W i m σ' H' := fun {σ7 H7} I7 n7 => by
      obtain ⟨m', hm, w7⟩ := hN σ7 H7 n7
      refine ⟨m', hm, i + 1, σ7, H7, I7.unpinned, T.keep _ _ _ st5 fun b hb o e => (I7.pin (b, o) (List.mem_append_right _ (List.mem_append_right _ (mem_pinsAt hb e)))).1, fun b hb => ?_, w7⟩
      obtain ⟨o, e, d⟩ := T.obj _ _ st5 b hb
      exact (I7.pin (b, o) (List.mem_append_right _ (List.mem_append_right _ (mem_pinsAt hb e)))).2.1
    cases f with
    | next => obtain ⟨σ7, H7, I7, n7⟩ := q7; exact again I7 n7
    | cont => obtain ⟨σ7, H7, I7, n7⟩ := q7; exact again I7 n7
    | brk => obtain ⟨σ7, H7, I7, q7⟩ := q7; exact ⟨σ7, H7, I7.unpinned, q7⟩
    | ret v => obtain ⟨x7, σ7, H7, I7, r7, q7⟩ := q7; exact ⟨x7, σ7, H7, I7.unpinned, r7, q7⟩
end

/-! ### the forms one uses -/
/-- over a list that the body leaves as it is -/
theorem for_list {K : PySem.W.Frag} {a : Addr} {xs : List V} {g : TG} {tb : TS} {D : Ends} {σ : St} {H : Hp} (Pv : Nat → St → Hp → Prop) (h0 : Pv 0 σ H) (hl : ∀ i σ H, i ≤ xs.length → Pv i σ H → SqL K H a xs)
    (hs : ∀ i x σ H, xs[i]? = some x → Pv i σ H → g x σ H fun σ2 H2 => tb { D with nx := Pv (i + 1), ct := Pv (i + 1), bk := D.nx } σ2 H2) (hd : ∀ σ H, Pv xs.length σ H → D.nx σ H) :
    ∃ W : Nat → Nat → St → Hp → Prop, (∃ m, W 0 m σ H) ∧ ∀ i m σ H, W i m σ H →
      ((Itl K a).stop i H ∧ D.nx σ H) ∨ ((Itl K a).go i H ∧ ∃ N : St → Hp → Prop, (∀ σ' H', N σ' H' → ∃ m', m' < m ∧ W (i + 1) m' σ' H') ∧ ∀ x H', (Itl K a).yld i H x H' → g x σ H' fun σ2 H2 => tb { D with nx := N, ct := N, bk := D.nx } σ2 H2) := by
  refine ⟨fun i m σ H => m = xs.length - i ∧ i ≤ xs.length ∧ Pv i σ H, ⟨xs.length, by simp, Nat.zero_le _, h0⟩, ?_⟩
  rintro i m σ H ⟨rfl, hi, p⟩
  have q := hl i σ H hi p
  by_cases hlt : i < xs.length
  · refine .inr ⟨⟨xs, xs[i], q, by simp [hlt]⟩, Pv (i + 1), fun σ' H' p' => ⟨xs.length - (i + 1), by omega, rfl, hlt, p'⟩, fun x H' y => ?_⟩
    obtain ⟨e, y⟩ := y
    subst e
    exact hs i x σ _ (y xs q) p
  · have e : i = xs.length := by omega
    subst e
    exact .inl ⟨⟨xs, q, Nat.le_refl _⟩, hd σ H p⟩
theorem for_tup {K : PySem.W.Frag} {a : Addr} {xs : List V} {g : TG} {tb : TS} {D : Ends} {σ : St} {H : Hp} (Pv : Nat → St → Hp → Prop) (h0 : Pv 0 σ H) (hl : ∀ i σ H, i ≤ xs.length → Pv i σ H → SqT K H a xs)
    (hs : ∀ i x σ H, xs[i]? = some x → Pv i σ H → g x σ H fun σ2 H2 => tb { D with nx := Pv (i + 1), ct := Pv (i + 1), bk := D.nx } σ2 H2) (hd : ∀ σ H, Pv xs.length σ H → D.nx σ H) :
    ∃ W : Nat → Nat → St → Hp → Prop, (∃ m, W 0 m σ H) ∧ ∀ i m σ H, W i m σ H →
      ((Itt K a).stop i H ∧ D.nx σ H) ∨ ((Itt K a).go i H ∧ ∃ N : St → Hp → Prop, (∀ σ' H', N σ' H' → ∃ m', m' < m ∧ W (i + 1) m' σ' H') ∧ ∀ x H', (Itt K a).yld i H x H' → g x σ H' fun σ2 H2 => tb { D with nx := N, ct := N, bk := D.nx } σ2 H2) := by
  refine ⟨fun i m σ H => m = xs.length - i ∧ i ≤ xs.length ∧ Pv i σ H, ⟨xs.length, by simp, Nat.zero_le _, h0⟩, ?_⟩
  rintro i m σ H ⟨rfl, hi, p⟩
  have q := hl i σ H hi p
  by_cases hlt : i < xs.length
  · refine .inr ⟨⟨xs, xs[i], q, by simp [hlt]⟩, Pv (i + 1), fun σ' H' p' => ⟨xs.length - (i + 1), by omega, rfl, hlt, p'⟩, fun x H' y => ?_⟩
    obtain ⟨e, y⟩ := y
    subst e
    exact hs i x σ _ (y xs q) p
  · have e : i = xs.length := by omega
    subst e
    exact .inl ⟨⟨xs, q, Nat.le_refl _⟩, hd σ H p⟩
theorem for_range {lo : Int} {n : Nat} {g : TG} {tb : TS} {D : Ends} {σ : St} {H : Hp} (Pv : Nat → St → Hp → Prop) (h0 : Pv 0 σ H)
    (hs : ∀ i σ H, i < n → Pv i σ H → g (.int (lo + i)) σ H fun σ2 H2 => tb { D with nx := Pv (i + 1), ct := Pv (i + 1), bk := D.nx } σ2 H2) (hd : ∀ σ H, Pv n σ H → D.nx σ H) :
    ∃ W : Nat → Nat → St → Hp → Prop, (∃ m, W 0 m σ H) ∧ ∀ i m σ H, W i m σ H →
      ((Itr lo n).stop i H ∧ D.nx σ H) ∨ ((Itr lo n).go i H ∧ ∃ N : St → Hp → Prop, (∀ σ' H', N σ' H' → ∃ m', m' < m ∧ W (i + 1) m' σ' H') ∧ ∀ x H', (Itr lo n).yld i H x H' → g x σ H' fun σ2 H2 => tb { D with nx := N, ct := N, bk := D.nx } σ2 H2) := by
  refine ⟨fun i m σ H => m = n - i ∧ i ≤ n ∧ Pv i σ H, ⟨n, by simp, Nat.zero_le _, h0⟩, ?_⟩
  rintro i m σ H ⟨rfl, hi, p⟩
  by_cases hlt : i < n
  · refine .inr ⟨hlt, Pv (i + 1), fun σ' H' p' => ⟨n - (i + 1), by omega, rfl, hlt, p'⟩, fun x H' y => ?_⟩
    obtain ⟨e, y⟩ := y
    subst e y
    exact hs i σ _ hlt p
  · have e : i = n := by omega
    subst e
    exact .inl ⟨Nat.le_refl _, hd σ H p⟩
/-- while, by a word and a measure of the state -/
theorem while_by {c : TT} {tb : TS} {D : Ends} {σ : St} {H : Hp} (Pv : St → Hp → Prop) (μ : St → Hp → Nat) (h0 : Pv σ H)
    (hs : ∀ σ H, Pv σ H → c σ H fun b H1 => if b = true then tb { D with nx := fun σ' H' => Pv σ' H' ∧ μ σ' H' < μ σ H, ct := fun σ' H' => Pv σ' H' ∧ μ σ' H' < μ σ H, bk := D.nx } σ H1 else D.nx σ H1)
    (mono : ∀ σ H Q Q', (∀ b H1, Q b H1 → Q' b H1) → c σ H Q → c σ H Q') : tWhile c tb D σ H := by
  refine ⟨fun m σ H => m = μ σ H ∧ Pv σ H, ⟨_, rfl, h0⟩, ?_⟩
  rintro m σ H ⟨rfl, p⟩
  refine mono σ H _ _ (fun b H1 q => ?_) (hs σ H p)
  cases b with
  | true => exact ⟨_, fun σ' H' ⟨p', l⟩ => ⟨_, l, rfl, p'⟩, q⟩
  | false => exact q
end L2

namespace L2
open PySem PySem.Spec PyProof.Rows

abbrev R2 := V → V → Hp → VK → Prop
/-- a two-place operation on values: f is binaryOp op, inplaceOp op or compareOp op -/
def OpR (X : Cx) (f : Value → Value → Sem Value) (r : R2) : Prop :=
  ∀ (pins : List (Addr × Obj)) (s : Shared) (σ : St) (H : Hp) (x y : V) (v u : Value) (Q : VK), Inv X pins σ H s → RelV x v → RelV y u → r x y H Q →
    wpAny (model X.prog X.w) X.A (f v u) (EP X pins σ Q) X.xe s
/-- a one-place operation -/
def UnR (X : Cx) (f : Value → Sem Value) (r : V → Hp → VK → Prop) : Prop :=
  ∀ (pins : List (Addr × Obj)) (s : Shared) (σ : St) (H : Hp) (x : V) (v : Value) (Q : VK), Inv X pins σ H s → RelV x v → r x H Q →
    wpAny (model X.prog X.w) X.A (f v) (EP X pins σ Q) X.xe s
/-- a call of a value that is known (a builtin, a type) with values -/
def CallR (X : Cx) (f : Value) (r : List V → Hp → VK → Prop) : Prop :=
  ∀ (pins : List (Addr × Obj)) (s : Shared) (σ : St) (H : Hp) (xs : List V) (us : List Value) (Q : VK), Inv X pins σ H s → Vals xs us → r xs H Q →
    wpAny (model X.prog X.w) X.A (call f us) (EP X pins σ Q) X.xe s
/-- a value's truth -/
def TruR (X : Cx) (r : V → Hp → (Bool → Hp → Prop) → Prop) : Prop :=
  ∀ (pins : List (Addr × Obj)) (s : Shared) (σ : St) (H : Hp) (x : V) (v : Value) (Q : Bool → Hp → Prop), Inv X pins σ H s → RelV x v → r x H Q →
    wpAny (model X.prog X.w) X.A (truthy v) (TP X pins σ Q) X.xe s

def tOp (r : R2) (ta tb : TE) : TE := fun σ H Q => ta σ H fun x H1 => tb σ H1 fun y H2 => r x y H2 Q
def tUn (r : V → Hp → VK → Prop) (ta : TE) : TE := fun σ H Q => ta σ H fun x H1 => r x H1 Q
/-- ints in, under C, and a value out -/
def rI (C : Int → Int → Prop) (g : Int → Int → V) : R2 := fun x y H Q => ∃ i j, x = .int i ∧ y = .int j ∧ C i j ∧ Q (g i j) H
def rI0 (g : Int → Int → V) : R2 := fun x y H Q => ∃ i j, x = .int i ∧ y = .int j ∧ Q (g i j) H
def rU (g : Int → V) : V → Hp → VK → Prop := fun x H Q => ∃ i, x = .int i ∧ Q (g i) H

section
variable {X : Cx} {a b c : Expr} {ta tb tc : TE} {pos : Pos}

theorem binT (ha : PE X a ta) (hb : PE X b tb) {pins : List (Addr × Obj)} {s : Shared} {σ : St} {H : Hp} {R : V → V → Hp → Prop} (I : Inv X pins σ H s)
    (h : ta σ H fun x H1 => tb σ H1 fun y H2 => R x y H2) {Q : Value → Shared → Prop} {f : Value → Value → Sem Value}
    (hf : ∀ v u s2 x y H2, Inv X pins σ H2 s2 → RelV x v → RelV y u → R x y H2 → wpAny (model X.prog X.w) X.A (f v u) Q X.xe s2) :
    wpAny (model X.prog X.w) X.A (eval a X.env) (fun v s₁ => wpAny (model X.prog X.w) X.A (eval b X.env) (fun u s₂ => wpAny (model X.prog X.w) X.A (f v u) Q X.xe s₂) X.xe s₁) X.xe s := by
  refine thn (ha pins s σ H _ I h) fun v s1 ⟨x, H1, I1, r1, q1⟩ => ?_
  refine thn (hb pins s1 σ H1 _ I1 q1) fun u s2 ⟨y, H2, I2, r2, q2⟩ => ?_
  exact hf v u s2 x y H2 I2 r1 r2 q2

theorem pe_op {op : Operator} {r : R2} (ho : OpR X (binaryOp op) r) (ha : PE X a ta) (hb : PE X b tb) : PE X (.BinOp a op b pos) (tOp r ta tb) := by
  intro pins s σ H Q I h
  exact wpAny_BinOp (binT ha hb I h fun v u s2 x y H2 I2 rx ry q => ho pins s2 σ H2 x y v u Q I2 rx ry q)
theorem pe_un {op : UnaryOp} {r : V → Hp → VK → Prop} (ho : UnR X (unaryOp op) r) (ha : PE X a ta) : PE X (.UnaryOp op a pos) (tUn r ta) := by
  intro pins s σ H Q I h
  exact UnaryOp_ (thn (ha pins s σ H _ I h) fun v s1 ⟨x, H1, I1, r1, q1⟩ => ho pins s1 σ H1 x v Q I1 r1 q1)
/-- a op= e at a name: the name's slot i -/
theorem augR {op : Operator} {r : R2} (ho : OpR X (inplaceOp op) r) {pins : List (Addr × Obj)} {s : Shared} {σ : St} {H : Hp} {x y : V} {v u : Value} {Q : VK} (I : Inv X pins σ H s)
    (rx : RelV x v) (ry : RelV y u) (q : r x y H Q) : wpAny (model X.prog X.w) X.A (inplaceOp op v u) (EP X pins σ Q) X.xe s := ho pins s σ H x y v u Q I rx ry q

/-! ### ints -/
theorem opI {f : Value → Value → Sem Value} {C : Int → Int → Prop} {g : Int → Int → Int}
    (rule : ∀ (i j : Int) (t u : Tok) (s : Shared) (Q : Value → Shared → Prop) (E : Value → Shared → Prop), C i j → Q (.int (g i j) s.toks) { s with toks := s.toks + 1 } → wpAny (model X.prog X.w) X.A (f (.int i t) (.int j u)) Q E s) :
    OpR X f (rI C fun i j => .int (g i j)) := by
  intro pins s σ H x y v u Q I rx ry h
  obtain ⟨i, j, rfl, rfl, hc, q⟩ := h
  obtain ⟨t, rfl⟩ := rx
  obtain ⟨t', rfl⟩ := ry
  exact rule i j t t' s _ _ hc ⟨.int (g i j), H, I.tok _, ⟨_, rfl⟩, q⟩
theorem opI0 {f : Value → Value → Sem Value} {g : Int → Int → Int}
    (rule : ∀ (i j : Int) (t u : Tok) (s : Shared) (Q : Value → Shared → Prop) (E : Value → Shared → Prop), Q (.int (g i j) s.toks) { s with toks := s.toks + 1 } → wpAny (model X.prog X.w) X.A (f (.int i t) (.int j u)) Q E s) :
    OpR X f (rI0 fun i j => .int (g i j)) := by
  intro pins s σ H x y v u Q I rx ry h
  obtain ⟨i, j, rfl, rfl, q⟩ := h
  obtain ⟨t, rfl⟩ := rx
  obtain ⟨t', rfl⟩ := ry
  exact rule i j t t' s _ _ ⟨.int (g i j), H, I.tok _, ⟨_, rfl⟩, q⟩
theorem opB0 {f : Value → Value → Sem Value} {g : Int → Int → Bool}
    (rule : ∀ (i j : Int) (t u : Tok) (s : Shared) (Q : Value → Shared → Prop) (E : Value → Shared → Prop), Q (.bool (g i j)) s → wpAny (model X.prog X.w) X.A (f (.int i t) (.int j u)) Q E s) :
    OpR X f (rI0 fun i j => .bl (g i j)) := by
  intro pins s σ H x y v u Q I rx ry h
  obtain ⟨i, j, rfl, rfl, q⟩ := h
  obtain ⟨t, rfl⟩ := rx
  obtain ⟨t', rfl⟩ := ry
  exact rule i j t t' s _ _ ⟨.bl (g i j), H, I, rfl, q⟩

def CDiv (i j : Int) : Prop := 0 < j ∧ j < 1073741824
def CDivN (i j : Int) : Prop := j ≠ 0 ∧ j.natAbs < 1073741824
def CPow (i j : Int) : Prop := 0 ≤ j ∧ j ≤ 1000000 ∧ i.natAbs < 2 ^ 64
def CMul (i j : Int) : Prop := (-(2 ^ 64) < i ∧ i < 2 ^ 64) ∨ (-(2 ^ 64) < j ∧ j < 2 ^ 64)
theorem CMul.ok {i j : Int} (h : CMul i j) : IntMulOk i j := by
  rcases h with ⟨h1, h2⟩ | ⟨h1, h2⟩
  · exact .of_left (intBits_le_64 h1 h2)
  · exact .of_right (intBits_le_64 h1 h2)
theorem two_pow_nn (k : Nat) : (0 : Int) ≤ 2 ^ k := by
  rw [two_pow_cast]
  exact Int.natCast_nonneg _

theorem op_add : OpR X (binaryOp .Add) (rI0 fun i j => .int (i + j)) := opI0 fun _ _ _ _ _ _ _ q => add_int q
theorem op_sub : OpR X (binaryOp .Sub) (rI0 fun i j => .int (i - j)) := opI0 fun _ _ _ _ _ _ _ q => sub_int q
theorem op_mul : OpR X (binaryOp .Mult) (rI CMul fun i j => .int (i * j)) := opI fun _ _ _ _ _ _ _ hc q => mul_int q hc.ok
/-- // by a positive divisor -/
theorem op_fdiv : OpR X (binaryOp .FloorDiv) (rI CDiv fun i j => .int (i / j)) := opI fun i j _ _ _ _ _ hc q => by
  have h1 : (0 : Int) < j := hc.1
  have h2 : j < 1073741824 := hc.2
  exact floordiv_int (by omega) (by rw [Int.fdiv_eq_ediv_of_nonneg i (by omega)]; exact q) (.inl (PyProof.noPylong_small (by omega)))
theorem op_fdivN : OpR X (binaryOp .FloorDiv) (rI CDivN fun i j => .int (i.fdiv j)) := opI fun _ _ _ _ _ _ _ hc q => floordiv_int hc.1 q (.inl (PyProof.noPylong_small hc.2))
/-- % by a positive divisor of any size -/
theorem op_mod : OpR X (binaryOp .Mod) (rI (fun _ j => 0 < j) fun i j => .int (i % j)) := opI fun i j _ _ _ _ _ hc q => by
  have h1 : (0 : Int) < j := hc
  exact mod_int' (by omega) (by rw [Int.fmod_eq_emod_of_nonneg i (by omega)]; exact q)
theorem op_modN : OpR X (binaryOp .Mod) (rI (fun _ j => j ≠ 0) fun i j => .int (i.fmod j)) := opI fun _ _ _ _ _ _ _ hc q => mod_int' hc q
theorem op_pow : OpR X (binaryOp .Pow) (rI CPow fun i j => .int (i ^ j.toNat)) := opI fun _ _ _ _ _ _ _ hc q => pow_int_small hc.1 hc.2.1 hc.2.2 q
theorem op_shl : OpR X (binaryOp .LShift) (rI CPow fun i j => .int (i * 2 ^ j.toNat)) := opI fun _ _ _ _ _ _ _ hc q => lshift_int_small hc.1 hc.2.1 hc.2.2 q
theorem op_shr : OpR X (binaryOp .RShift) (rI (fun _ j => 0 ≤ j) fun i j => .int (i / 2 ^ j.toNat)) := opI fun i j _ _ _ _ _ hc q =>
  rshift_int hc (by rw [Int.fdiv_eq_ediv_of_nonneg i (two_pow_nn _)]; exact q)
theorem op_and : OpR X (binaryOp .BitAnd) (rI0 fun i j => .int (Builtin.bitAnd i j)) := opI0 fun _ _ _ _ _ _ _ q => and_int q
theorem op_or : OpR X (binaryOp .BitOr) (rI0 fun i j => .int (Builtin.bitOr i j)) := opI0 fun _ _ _ _ _ _ _ q => or_int q
theorem op_xor : OpR X (binaryOp .BitXor) (rI0 fun i j => .int (Builtin.bitXor i j)) := opI0 fun _ _ _ _ _ _ _ q => xor_int q

theorem iop_add : OpR X (inplaceOp .Add) (rI0 fun i j => .int (i + j)) := opI0 fun _ _ _ _ _ _ _ q => iadd_int q
theorem iop_sub : OpR X (inplaceOp .Sub) (rI0 fun i j => .int (i - j)) := opI0 fun _ _ _ _ _ _ _ q => isub_int q
theorem iop_mul : OpR X (inplaceOp .Mult) (rI CMul fun i j => .int (i * j)) := opI fun _ _ _ _ _ _ _ hc q => imul_int q hc.ok
theorem iop_fdiv : OpR X (inplaceOp .FloorDiv) (rI CDiv fun i j => .int (i / j)) := opI fun i j _ _ _ _ _ hc q => by
  have h1 : (0 : Int) < j := hc.1
  have h2 : j < 1073741824 := hc.2
  exact ifloordiv_int (by omega) (by rw [Int.fdiv_eq_ediv_of_nonneg i (by omega)]; exact q) (.inl (PyProof.noPylong_small (by omega)))
theorem iop_mod : OpR X (inplaceOp .Mod) (rI (fun _ j => 0 < j) fun i j => .int (i % j)) := opI fun i j _ _ _ _ _ hc q => by
  have h1 : (0 : Int) < j := hc
  exact imod_int (by omega) (by rw [Int.fmod_eq_emod_of_nonneg i (by omega)]; exact q)
theorem iop_shl : OpR X (inplaceOp .LShift) (rI CPow fun i j => .int (i * 2 ^ j.toNat)) := opI fun _ _ _ _ _ _ _ hc q => ilshift_int_small hc.1 hc.2.1 hc.2.2 q
theorem iop_shr : OpR X (inplaceOp .RShift) (rI (fun _ j => 0 ≤ j) fun i j => .int (i / 2 ^ j.toNat)) := opI fun i j _ _ _ _ _ hc q =>
  irshift_int hc (by rw [Int.fdiv_eq_ediv_of_nonneg i (two_pow_nn _)]; exact q)
theorem iop_and : OpR X (inplaceOp .BitAnd) (rI0 fun i j => .int (Builtin.bitAnd i j)) := opI0 fun _ _ _ _ _ _ _ q => iand_int q
theorem iop_or : OpR X (inplaceOp .BitOr) (rI0 fun i j => .int (Builtin.bitOr i j)) := opI0 fun _ _ _ _ _ _ _ q => ior_int q
theorem iop_xor : OpR X (inplaceOp .BitXor) (rI0 fun i j => .int (Builtin.bitXor i j)) := opI0 fun _ _ _ _ _ _ _ q => ixor_int q

theorem unI {f : Value → Sem Value} {g : Int → Int}
    (rule : ∀ (i : Int) (t : Tok) (s : Shared) (Q : Value → Shared → Prop) (E : Value → Shared → Prop), Q (.int (g i) s.toks) { s with toks := s.toks + 1 } → wpAny (model X.prog X.w) X.A (f (.int i t)) Q E s) :
    UnR X f (rU fun i => .int (g i)) := by
  intro pins s σ H x v Q I rx h
  obtain ⟨i, rfl, q⟩ := h
  obtain ⟨t, rfl⟩ := rx
  exact rule i t s _ _ ⟨.int (g i), H, I.tok _, ⟨_, rfl⟩, q⟩
theorem un_neg : UnR X (unaryOp .USub) (rU fun i => .int (-i)) := unI fun _ _ _ _ _ q => neg_int q
theorem un_inv : UnR X (unaryOp .Invert) (rU fun i => .int (Builtin.bitNot i)) := unI fun _ _ _ _ _ q => invert_int q

/-! ### bools among ints: n += (a < b) -/
theorem op_add_ib : OpR X (binaryOp .Add) (fun x y H Q => ∃ i k, x = .int i ∧ y = .bl k ∧ Q (.int (i + b2i k)) H) := by
  intro pins s σ H x y v u Q I rx ry h
  obtain ⟨i, k, rfl, rfl, q⟩ := h
  obtain ⟨t, rfl⟩ := rx
  cases ry
  exact add_int_bool ⟨.int (i + b2i k), H, I.tok _, ⟨_, rfl⟩, q⟩
end

/-! ### comparisons -/
/-- the scalars that == tells apart as data does -/
def scal : V → V → Bool
  | .non, .non => true | .non, .int _ => true | .int _, .non => true | .non, .bl _ => true | .bl _, .non => true | .non, .str _ => true | .str _, .non => true
  | .int _, .int _ => true | .bl _, .bl _ => true | .str _, .str _ => true | .byt _, .byt _ => true
  | .int _, .str _ => true | .str _, .int _ => true | .bl _, .str _ => true | .str _, .bl _ => true
  | _, _ => false
def rEq : R2 := fun x y H Q => scal x y = true ∧ Q (.bl (decide (x = y))) H
def rNe : R2 := fun x y H Q => scal x y = true ∧ Q (.bl (!decide (x = y))) H

theorem dec_int {i j : Int} : decide (V.int i = V.int j) = (i == j) := by
  rw [Bool.eq_iff_iff]
  simp
theorem dec_bl {i j : Bool} : decide (V.bl i = V.bl j) = (i == j) := by
  rw [Bool.eq_iff_iff]
  simp
theorem dec_str {i j : Str} : decide (V.str i = V.str j) = (i == j) := by
  rw [Bool.eq_iff_iff]
  simp
theorem dec_byt {i j : Array UInt8} : decide (V.byt i = V.byt j) = (i.toList == j.toList) := by
  rw [Bool.eq_iff_iff]
  cases i
  cases j
  simp

section
variable {X : Cx} {a b c : Expr} {ta tb tc : TE} {pos : Pos}
theorem fin_bl {pins : List (Addr × Obj)} {σ : St} {H : Hp} {s : Shared} {Q : VK} {k k' : Bool} (I : Inv X pins σ H s) (q : Q (.bl k) H) (e : k = k') : EP X pins σ Q (.bool k') s := by
  subst e
  exact ⟨.bl k, H, I, rfl, q⟩
theorem op_eq : OpR X (compareOp .Eq) rEq := by
  intro pins s σ H x y v u Q I rx ry h
  obtain ⟨hs, q⟩ := h
  cases x with
  | non =>
    cases rx
    cases y with
    | non => cases ry; exact PySem.EqNone.eq_none_none (fin_bl I q (by simp))
    | bl j => cases ry; exact PySem.EqNone.eq_none_bool (fin_bl I q (by simp))
    | int j => obtain ⟨t', rfl⟩ := ry; exact PySem.EqNone.eq_none_int (fin_bl I q (by simp))
    | str j => obtain ⟨t', rfl⟩ := ry; exact PySem.EqNone.eq_none_str (fin_bl I q (by simp))
    | _ => exact absurd (show false = true from hs) Bool.false_ne_true
  | bl i =>
    cases rx
    cases y with
    | non => cases ry; exact PySem.EqNone.eq_bool_none (fin_bl I q (by simp))
    | bl j => cases ry; exact eq_bool (fin_bl I q dec_bl)
    | str j => obtain ⟨t', rfl⟩ := ry; exact PySem.EqMixed.eq_bool_str (fin_bl I q (by simp))
    | _ => exact absurd (show false = true from hs) Bool.false_ne_true
  | int i =>
    obtain ⟨t, rfl⟩ := rx
    cases y with
    | non => cases ry; exact PySem.EqNone.eq_int_none (fin_bl I q (by simp))
    | int j => obtain ⟨t', rfl⟩ := ry; exact eq_int (fin_bl I q dec_int)
    | str j => obtain ⟨t', rfl⟩ := ry; exact PySem.EqMixed.eq_int_str (fin_bl I q (by simp))
    | _ => exact absurd (show false = true from hs) Bool.false_ne_true
  | str i =>
    obtain ⟨t, rfl⟩ := rx
    cases y with
    | non => cases ry; exact PySem.EqNone.eq_str_none (fin_bl I q (by simp))
    | bl j => cases ry; exact PySem.EqMixed.eq_str_bool (fin_bl I q (by simp))
    | int j => obtain ⟨t', rfl⟩ := ry; exact PySem.EqMixed.eq_str_int (fin_bl I q (by simp))
    | str j => obtain ⟨t', rfl⟩ := ry; exact eq_str (fin_bl I q dec_str)
    | _ => exact absurd (show false = true from hs) Bool.false_ne_true
  | byt i =>
    obtain ⟨t, rfl⟩ := rx
    cases y with
    | byt j => obtain ⟨t', rfl⟩ := ry; exact PySem.W.eq_bytes (fin_bl I q dec_byt)
    | _ => exact absurd (show false = true from hs) Bool.false_ne_true
  | _ => cases y <;> exact absurd (show false = true from hs) Bool.false_ne_true
theorem op_ne : OpR X (compareOp .NotEq) rNe := by
  intro pins s σ H x y v u Q I rx ry h
  obtain ⟨hs, q⟩ := h
  cases x with
  | non =>
    cases rx
    cases y with
    | non => cases ry; exact PySem.EqNone.ne_none_none (fin_bl I q (by simp))
    | bl j => cases ry; exact PySem.EqNone.ne_none_bool (fin_bl I q (by simp))
    | int j => obtain ⟨t', rfl⟩ := ry; exact PySem.EqNone.ne_none_int (fin_bl I q (by simp))
    | str j => obtain ⟨t', rfl⟩ := ry; exact PySem.EqNone.ne_none_str (fin_bl I q (by simp))
    | _ => exact absurd (show false = true from hs) Bool.false_ne_true
  | bl i =>
    cases rx
    cases y with
    | non => cases ry; exact PySem.EqNone.ne_bool_none (fin_bl I q (by simp))
    | bl j => cases ry; exact ne_bool (fin_bl I q (congrArg not dec_bl))
    | str j => obtain ⟨t', rfl⟩ := ry; exact PySem.EqMixed.ne_bool_str (fin_bl I q (by simp))
    | _ => exact absurd (show false = true from hs) Bool.false_ne_true
  | int i =>
    obtain ⟨t, rfl⟩ := rx
    cases y with
    | non => cases ry; exact PySem.EqNone.ne_int_none (fin_bl I q (by simp))
    | int j => obtain ⟨t', rfl⟩ := ry; exact ne_int (fin_bl I q (congrArg not dec_int))
    | str j => obtain ⟨t', rfl⟩ := ry; exact PySem.EqMixed.ne_int_str (fin_bl I q (by simp))
    | _ => exact absurd (show false = true from hs) Bool.false_ne_true
  | str i =>
    obtain ⟨t, rfl⟩ := rx
    cases y with
    | non => cases ry; exact PySem.EqNone.ne_str_none (fin_bl I q (by simp))
    | bl j => cases ry; exact PySem.EqMixed.ne_str_bool (fin_bl I q (by simp))
    | int j => obtain ⟨t', rfl⟩ := ry; exact PySem.EqMixed.ne_str_int (fin_bl I q (by simp))
    | str j => obtain ⟨t', rfl⟩ := ry; exact ne_str (fin_bl I q (congrArg not dec_str))
    | _ => exact absurd (show false = true from hs) Bool.false_ne_true
  | byt i =>
    obtain ⟨t, rfl⟩ := rx
    cases y with
    | byt j => obtain ⟨t', rfl⟩ := ry; exact PySem.W.ne_bytes (fin_bl I q (congrArg not dec_byt))
    | _ => exact absurd (show false = true from hs) Bool.false_ne_true
  | _ => cases y <;> exact absurd (show false = true from hs) Bool.false_ne_true

theorem op_lt : OpR X (compareOp .Lt) (rI0 fun i j => .bl (decide (i < j))) := opB0 fun _ _ _ _ _ _ _ q => lt_int q
theorem op_le : OpR X (compareOp .LtE) (rI0 fun i j => .bl (decide (i ≤ j))) := opB0 fun _ _ _ _ _ _ _ q => le_int q
theorem op_gt : OpR X (compareOp .Gt) (rI0 fun i j => .bl (decide (j < i))) := opB0 fun _ _ _ _ _ _ _ q => gt_int q
theorem op_ge : OpR X (compareOp .GtE) (rI0 fun i j => .bl (decide (j ≤ i))) := opB0 fun _ _ _ _ _ _ _ q => ge_int q
theorem op_lt_str : OpR X (compareOp .Lt) (fun x y H Q => ∃ i j, x = .str i ∧ y = .str j ∧ Q (.bl (decide (i.cps.toList < j.cps.toList))) H) := by
  intro pins s σ H x y v u Q I rx ry h
  obtain ⟨i, j, rfl, rfl, q⟩ := h
  obtain ⟨t, rfl⟩ := rx
  obtain ⟨t', rfl⟩ := ry
  exact lt_str (fin_bl I q rfl)
/-- the one string within the other -/
theorem op_in_str : OpR X (compareOp .In) (fun x y H Q => ∃ i j, x = .str i ∧ y = .str j ∧ Q (.bl (!(Builtin.Str.occurrences j i 0 j.length 1).isEmpty)) H) := by
  intro pins s σ H x y v u Q I rx ry h
  obtain ⟨i, j, rfl, rfl, q⟩ := h
  obtain ⟨t, rfl⟩ := rx
  obtain ⟨t', rfl⟩ := ry
  exact in_str (fin_bl I q rfl)

/-- is None, is not None: the right side a value none -/
theorem op_isN : OpR X (compareOp .Is) (fun x y H Q => y = .non ∧ Q (.bl (decide (x = .non))) H) := by
  intro pins s σ H x y v u Q I rx ry h
  obtain ⟨rfl, q⟩ := h
  cases ry
  refine is_none_gen (fin_bl I q ?_)
  cases x <;> first
    | (cases rx; rfl)
    | (obtain ⟨t, rfl⟩ := rx; rfl)
theorem op_notN : OpR X (compareOp .IsNot) (fun x y H Q => y = .non ∧ Q (.bl (!decide (x = .non))) H) := by
  intro pins s σ H x y v u Q I rx ry h
  obtain ⟨rfl, q⟩ := h
  cases ry
  refine isnot_none_gen (fin_bl I q ?_)
  cases x <;> first
    | (cases rx; rfl)
    | (obtain ⟨t, rfl⟩ := rx; rfl)

theorem op_notin_str : OpR X (compareOp .NotIn) (fun x y H Q => ∃ i j, x = .str i ∧ y = .str j ∧ Q (.bl (!(!(Builtin.Str.occurrences j i 0 j.length 1).isEmpty))) H) := by
  intro pins s σ H x y v u Q I rx ry h
  obtain ⟨i, j, rfl, rfl, q⟩ := h
  obtain ⟨t, rfl⟩ := rx
  obtain ⟨t', rfl⟩ := ry
  exact notIn_str (fin_bl I q rfl)
/-- is, is not of two objects that are tracked lists or instances -/
def isObj : HO → Bool
  | .lst _ => true
  | .ins _ _ _ => true
  | _ => false
theorem obj_there {pins : List (Addr × Obj)} {s : Shared} {σ : St} {H : Hp} {a : Addr} {o : HO} (I : Inv X pins σ H s) (h : H a = some o) (p : isObj o = true) : ∃ ob, s.heap.get? a = some ob ∧ ob.cls ≠ .type "tuple" := by
  cases o with
  | lst xs =>
    obtain ⟨_, its, n, _, e⟩ : xs.length ≤ sizeLine ∧ ∃ (its : List Value) (n : Nat), Vals xs its ∧ s.heap.get? a = some { cls := .type "list", data := .seq its.toArray n } := I.hok a _ h
    exact ⟨_, e, (by show Value.type "list" ≠ .type "tuple"; decide +kernel)⟩
  | ins C dx fs =>
    have x := I.hok a _ h
    obtain ⟨_, _, _, e, _⟩ := x
    exact ⟨_, e, (by show Value.ref C ≠ .type "tuple"; exact fun z => by cases z)⟩
  | _ => exact absurd (show false = true from p) Bool.false_ne_true
theorem op_is_ref : OpR X (compareOp .Is) (fun x y H Q => ∃ a b oa ob, x = .ref a ∧ y = .ref b ∧ H a = some oa ∧ isObj oa = true ∧ H b = some ob ∧ isObj ob = true ∧ Q (.bl (decide (a = b))) H) := by
  intro pins s σ H x y v u Q I rx ry h
  obtain ⟨a, b, oa, ob, rfl, rfl, ha, pa, hb, pb, q⟩ := h
  cases rx
  cases ry
  obtain ⟨o1, e1, n1⟩ := obj_there I ha pa
  obtain ⟨o2, e2, _⟩ := obj_there I hb pb
  by_cases z : a = b
  · subst z
    exact wpAny_is_ref_self (fin_bl I q (by simp))
  · exact wpAny_is_ref_other z e1 e2 n1 (fin_bl I q (by simp [z]))
theorem op_isnot_ref : OpR X (compareOp .IsNot) (fun x y H Q => ∃ a b oa ob, x = .ref a ∧ y = .ref b ∧ H a = some oa ∧ isObj oa = true ∧ H b = some ob ∧ isObj ob = true ∧ Q (.bl (!decide (a = b))) H) := by
  intro pins s σ H x y v u Q I rx ry h
  obtain ⟨a, b, oa, ob, rfl, rfl, ha, pa, hb, pb, q⟩ := h
  cases rx
  cases ry
  obtain ⟨o1, e1, n1⟩ := obj_there I ha pa
  obtain ⟨o2, e2, _⟩ := obj_there I hb pb
  by_cases z : a = b
  · subst z
    exact wpAny_isNot_ref_self (fin_bl I q (by simp))
  · exact wpAny_isNot_ref_other z e1 e2 n1 (fin_bl I q (by simp [z]))

/-- two rules for one operation: by cases -/
theorem OpR.or {f : Value → Value → Sem Value} {r r' : R2} (h : OpR X f r) (h' : OpR X f r') : OpR X f (fun x y H Q => r x y H Q ∨ r' x y H Q) := by
  intro pins s σ H x y v u Q I rx ry q
  rcases q with q | q
  · exact h pins s σ H x y v u Q I rx ry q
  · exact h' pins s σ H x y v u Q I rx ry q

theorem nomark (b : Expr) {op : CmpOp} (h : op ≠ .In := by decide) (h2 : op ≠ .NotIn := by decide) : behindInMarks op b = false := by
  have e1 : (op == CmpOp.In) = false := by cases op <;> first | rfl | exact absurd rfl h
  have e2 : (op == CmpOp.NotIn) = false := by cases op <;> first | rfl | exact absurd rfl h2
  cases b <;> simp [behindInMarks, e1, e2]
/-- a comparison as a value; hm: nomark b, or (for in, not in) by with_unfolding_all rfl -/
theorem pe_cmpR {op : CmpOp} {r : R2} (ho : OpR X (compareOp op) r) (ha : PE X a ta) (hb : PE X b tb) (hm : behindInMarks op b = false) : PE X (.Compare a [op] [b] pos) (tOp r ta tb) := by
  intro pins s σ H Q I h
  exact wpAny_Compare1 (binT ha hb I h fun v u s2 x y H2 I2 rx ry q => ho pins s2 σ H2 x y v u Q I2 rx ry q) hm
/-- a reading of a value as a test -/
def tTest (t : TE) : TT := fun σ H Q => t σ H fun x H' => ∃ k, x = .bl k ∧ Q k H'
theorem pt_cmpR {op : CmpOp} {r : R2} (ho : OpR X (compareOp op) r) (ha : PE X a ta) (hb : PE X b tb) (hm : behindInMarks op b = false) : PT X (.Compare a [op] [b] pos) (tTest (tOp r ta tb)) := by
  intro pins s σ H Q I h
  refine wpAny_isTrue_Compare1 (thn (ha pins s σ H _ I h) fun v s1 ⟨x, H1, I1, r1, q1⟩ => thn (hb pins s1 σ H1 _ I1 q1) fun u s2 ⟨y, H2, I2, r2, q2⟩ =>
    thn (ho pins s2 σ H2 x y v u _ I2 r1 r2 q2) fun c s3 ⟨z, H3, I3, r3, k, e, q3⟩ => ?_) hm
  subst e
  cases r3
  exact wpAny_truthy_bool ⟨H3, I3, q3⟩
/-- a op1 b op2 c -/
def tChain (r r' : R2) (ta tb tc : TE) : TE := fun σ H Q => ta σ H fun x H1 => tb σ H1 fun y H2 => r x y H2 fun z H3 => ∃ k, z = .bl k ∧
  (if k = true then tc σ H3 fun w' H4 => r' y w' H4 Q else Q (.bl false) H3)
theorem pe_chain {op op' : CmpOp} {r r' : R2} (ho : OpR X (compareOp op) r) (ho' : OpR X (compareOp op') r') (ha : PE X a ta) (hb : PE X b tb) (hc : PE X c tc)
    (hm : lastMarks [op, op'] [b, c] = false := by with_unfolding_all rfl) : PE X (.Compare a [op, op'] [b, c] pos) (tChain r r' ta tb tc) := by
  intro pins s σ H Q I h
  refine Compare_chain (thn (ha pins s σ H _ I h) fun v s1 ⟨x, H1, I1, r1, q1⟩ => chain_link (thn (hb pins s1 σ H1 _ I1 q1) fun u s2 ⟨y, H2, I2, r2, q2⟩ =>
    thn (ho pins s2 σ H2 x y v u _ I2 r1 r2 q2) fun d s3 ⟨z, H3, I3, r3, k, e, q3⟩ => ?_)) hm
  subst e
  cases r3
  refine wpAny_truthy_bool ?_
  cases k with
  | false => exact ite_ff ⟨.bl false, H3, I3, rfl, q3⟩
  | true => exact ite_tt (chain_last (thn (hc pins s3 σ H3 _ I3 q3) fun w' s4 ⟨z', H4, I4, r4, q4⟩ => ho' pins s4 σ H4 y z' u w' Q I4 r2 r4 q4))
theorem pt_chain {op op' : CmpOp} {r r' : R2} (ho : OpR X (compareOp op) r) (ho' : OpR X (compareOp op') r') (ha : PE X a ta) (hb : PE X b tb) (hc : PE X c tc)
    (hm : lastMarks [op, op'] [b, c] = false := by with_unfolding_all rfl) : PT X (.Compare a [op, op'] [b, c] pos) (tTest (tChain r r' ta tb tc)) := by
  intro pins s σ H Q I h
  refine isTrue_chain (thn (ha pins s σ H _ I h) fun v s1 ⟨x, H1, I1, r1, q1⟩ => test_link (thn (hb pins s1 σ H1 _ I1 q1) fun u s2 ⟨y, H2, I2, r2, q2⟩ =>
    thn (ho pins s2 σ H2 x y v u _ I2 r1 r2 q2) fun d s3 ⟨z, H3, I3, r3, k, e, q3⟩ => ?_)) hm
  subst e
  cases r3
  refine wpAny_truthy_bool ?_
  cases k with
  | false =>
    obtain ⟨k', e', q'⟩ := q3
    cases e'
    exact ite_ff ⟨H3, I3, q'⟩
  | true =>
    refine ite_tt (test_last (thn (hc pins s3 σ H3 _ I3 q3) fun w' s4 ⟨z', H4, I4, r4, q4⟩ => thn (ho' pins s4 σ H4 y z' u w' _ I4 r2 r4 q4) fun d' s5 ⟨z2, H5, I5, r5, k2, e2, q5⟩ => ?_))
    subst e2
    cases r5
    exact wpAny_truthy_bool ⟨H5, I5, q5⟩

/-! ### truth -/
/-- a value's truth by the abstract heap -/
def TruV (K : PySem.W.Frag) (x : V) (H : Hp) (k : Bool) : Prop :=
  match x with
  | .non => k = false
  | .bl b => k = b
  | .int i => k = (i != 0)
  | .str y => y.length ≤ sizeLine ∧ k = ((y.length : Int) != 0)
  | .byt y => y.size ≤ sizeLine ∧ k = ((y.size : Int) != 0)
  | .ref p => (∃ xs, SqL K H p xs ∧ k = !xs.isEmpty) ∨ (∃ xs, SqT K H p xs ∧ k = !xs.isEmpty) ∨ ∃ kvs, H p = some (.dK kvs) ∧ k = !kvs.isEmpty
  | _ => False
theorem isEmpty_kv {κ : Type} {kvs : List (κ × V)} {vs : List (κ × Value)} (r : KV kvs vs) : (!vs.isEmpty) = !kvs.isEmpty := by
  cases r <;> rfl
theorem isEmpty_of {xs : List V} {its : List Value} (r : Vals xs its) : (!its.toArray.isEmpty) = !xs.isEmpty := by
  cases r <;> simp
theorem line63 : (sizeLine : Nat) < 2 ^ 63 := by rw [sizeLine_eq]; decide
theorem tru_ok : TruR X (fun x H Q => ∃ k, TruV X.K x H k ∧ Q k H) := by
  intro pins s σ H x v Q I rx h
  obtain ⟨k, e, q⟩ := h
  have hl := line63
  have hs : sizeLine = 16777216 := sizeLine_eq
  cases x with
  | non =>
    cases rx
    have e' : k = false := e
    subst e'
    exact truthy_none ⟨H, I, q⟩
  | bl b =>
    cases rx
    have e' : k = b := e
    subst e'
    exact wpAny_truthy_bool ⟨H, I, q⟩
  | int i =>
    obtain ⟨t, rfl⟩ := rx
    have e' : k = (i != 0) := e
    subst e'
    exact PySem.P.truthy_int ⟨H, I, q⟩
  | str y =>
    obtain ⟨t, rfl⟩ := rx
    obtain ⟨hy, e'⟩ : y.length ≤ sizeLine ∧ k = ((y.length : Int) != 0) := e
    subst e'
    exact PySem.P.truthy_str (by omega) ⟨H, I.tok _, q⟩
  | byt y =>
    obtain ⟨t, rfl⟩ := rx
    obtain ⟨hy, e'⟩ : y.size ≤ sizeLine ∧ k = ((y.size : Int) != 0) := e
    subst e'
    exact PySem.W.truthy_bytes (by omega) ⟨H, I.tok _, q⟩
  | ref p =>
    cases rx
    have e' : (∃ xs, SqL X.K H p xs ∧ k = !xs.isEmpty) ∨ (∃ xs, SqT X.K H p xs ∧ k = !xs.isEmpty) ∨ ∃ kvs, H p = some (.dK kvs) ∧ k = !kvs.isEmpty := e
    rcases e' with ⟨xs, hx, e'⟩ | ⟨xs, hx, e'⟩ | ⟨kvs, hx, e'⟩
    · subst e'
      obtain ⟨its, r, pl, hz⟩ := I.list hx
      have hlen := r.length
      exact wpAny_truthy_list pl.isList (by simp only [List.size_toArray]; omega) ⟨H, I.tok _, by rw [isEmpty_of r]; exact q⟩
    · subst e'
      obtain ⟨its, r, pl, hz⟩ := I.tuple hx
      have hlen := r.length
      exact truthy_tuple pl (by simp only [List.size_toArray]; omega) ⟨H, I.tok _, by rw [isEmpty_of r]; exact q⟩
    · subst e'
      obtain ⟨hz, hS, vs, r, m⟩ : kvs.length ≤ sizeLine ∧ (p == sysModules) = false ∧ ∃ vs, KV kvs vs ∧ s.heap.DictOf (mixKind X.prog X.w) p vs := I.hok p _ hx
      have hlen : kvs.length = vs.length := Paired.length r
      exact wpAny_truthy_dict hS m (by omega) ⟨H, I.tok _, by rw [isEmpty_kv r]; exact q⟩
  | _ => exact (show False from e).elim
/-- any expression whose test is its value's truth (a name, a call, a subscript, a field ..: he by fun _ => rfl) -/
theorem pt_truth (ha : PE X a ta) (he : ∀ whole, isTrue a X.env whole = (do let v ← whole; standAt a.pos; holding [v] (truthy v))) :
    PT X a (fun σ H Q => ta σ H fun x H' => ∃ k, TruV X.K x H' k ∧ Q k H') := by
  intro pins s σ H Q I h
  exact isTrue_plain (thn (ha pins s σ H _ I h) fun v s1 ⟨x, H1, I1, r1, q1⟩ => tru_ok pins s1 σ H1 x v Q I1 r1 q1) (he _)

/-! ### strs and bytes -/
theorem pe_byt {x : List UInt8} {k : Nat} : PE X (.Constant (.bytes x) k pos) (fun _ H Q => Q (.byt x.toArray) H) := fun _ _ _ H _ I h => PySem.W.Constant_bytes ⟨.byt x.toArray, H, I.tok _, ⟨_, rfl⟩, h⟩
theorem op_add_str : OpR X (binaryOp .Add) (fun x y H Q => ∃ i j, x = .str i ∧ y = .str j ∧ i.length + j.length ≤ sizeLine ∧ Q (.str (i ++ j)) H) := by
  intro pins s σ H x y v u Q I rx ry h
  obtain ⟨i, j, rfl, rfl, hz, q⟩ := h
  obtain ⟨t, rfl⟩ := rx
  obtain ⟨t', rfl⟩ := ry
  exact add_str (fun t' tk => ⟨.str (i ++ j), H, I.tok _, ⟨_, rfl⟩, q⟩) hz
theorem iop_add_str : OpR X (inplaceOp .Add) (fun x y H Q => ∃ i j, x = .str i ∧ y = .str j ∧ i.length + j.length ≤ sizeLine ∧ Q (.str (i ++ j)) H) := by
  intro pins s σ H x y v u Q I rx ry h
  obtain ⟨i, j, rfl, rfl, hz, q⟩ := h
  obtain ⟨t, rfl⟩ := rx
  obtain ⟨t', rfl⟩ := ry
  exact iadd_str (fun t' tk => ⟨.str (i ++ j), H, I.tok _, ⟨_, rfl⟩, q⟩) hz
theorem op_add_byt : OpR X (binaryOp .Add) (fun x y H Q => ∃ i j, x = .byt i ∧ y = .byt j ∧ i.size + j.size ≤ 16777216 ∧ Q (.byt (i ++ j)) H) := by
  intro pins s σ H x y v u Q I rx ry h
  obtain ⟨i, j, rfl, rfl, hz, q⟩ := h
  obtain ⟨t, rfl⟩ := rx
  obtain ⟨t', rfl⟩ := ry
  exact PySem.W.KBy.add_bytes hz (fun t' tk => ⟨.byt (i ++ j), H, I.tok _, ⟨_, rfl⟩, q⟩)

def PlainIxT (b : Expr) : Prop := ∀ o i, subscripted b false o i = operate [o, i] (getItem o i)
/-- s[i], 0 ≤ i < len -/
theorem pe_item_str (ha : PE X a ta) (hb : PE X b tb) (hs : PlainIxT b) :
    PE X (.Subscript a b pos) (tOp (fun x y H Q => ∃ z i c, x = .str z ∧ y = .int i ∧ 0 ≤ i ∧ i < 2 ^ 63 ∧ i < z.length ∧ z.cps[i.toNat]? = some c ∧ Q (.str ⟨#[c]⟩) H) ta tb) := by
  intro pins s σ H Q I h
  refine Subscript_ (binT ha hb I h fun v u s2 x y H2 I2 rx ry q => ?_)
  obtain ⟨z, i, c, rfl, rfl, h0, h63, h1, hc, q⟩ := q
  obtain ⟨t, rfl⟩ := rx
  obtain ⟨t', rfl⟩ := ry
  have e : seqIndex? i z.length = some i.toNat := PySem.StrLaws.seqIndex_nonneg h0 h1
  exact tail_any (typeIs_str s2 z t) slot_str_getitem.lookup (getItem_str (c := c) (by
    have e1 : decide (i < -(2 ^ 63 : Int)) = false := decide_eq_false (by omega)
    have e2 : decide (i ≥ 2 ^ 63) = false := decide_eq_false (by omega)
    rw [e1, e2] <;> rfl) (by rw [e]; exact hc) ⟨.str ⟨#[c]⟩, H2, I2.tok _, ⟨_, rfl⟩, q⟩) (hs _ _)
/-- b[i], 0 ≤ i < len -/
theorem pe_item_byt (ha : PE X a ta) (hb : PE X b tb) (hs : PlainIxT b) :
    PE X (.Subscript a b pos) (tOp (fun x y H Q => ∃ (z : List UInt8) (i : Int), x = .byt z.toArray ∧ y = .int i ∧ z.length ≤ sizeLine ∧ 0 ≤ i ∧ i < z.length ∧ Q (.int ((z.getD i.toNat 0).toNat : Nat)) H) ta tb) := by
  intro pins s σ H Q I h
  refine Subscript_ (binT ha hb I h fun v u s2 x y H2 I2 rx ry q => ?_)
  obtain ⟨z, i, rfl, rfl, hz, h0, h1, q⟩ := q
  obtain ⟨t, rfl⟩ := rx
  obtain ⟨t', rfl⟩ := ry
  have hl : sizeLine = 16777216 := sizeLine_eq
  exact tail_any (PySem.W.typeIs_bytes s2 z.toArray t) PySem.W.FB.slot_bytes_getitem.lookup (PySem.W.getItem_bytes (by omega) h0 h1 ⟨.int ((z.getD i.toNat 0).toNat : Nat), H2, I2.tok _, ⟨_, rfl⟩, q⟩) (hs _ _)

/-! ### scalar builtins, by CallR -/
theorem vals1 {x : V} {us : List Value} (r : Vals [x] us) : ∃ u, us = [u] ∧ RelV x u := by
  cases r with
  | cons r1 r2 => cases r2; exact ⟨_, rfl, r1⟩
theorem vals2 {x y : V} {us : List Value} (r : Vals [x, y] us) : ∃ u w', us = [u, w'] ∧ RelV x u ∧ RelV y w' := by
  cases r with
  | cons r1 r2 =>
    cases r2 with
    | cons r3 r4 => cases r4; exact ⟨_, _, rfl, r1, r3⟩
theorem call_abs : CallR X (.builtin "abs") (fun xs H Q => ∃ i, xs = [.int i] ∧ Q (.int (if i < 0 then -i else i)) H) := by
  intro pins s σ H xs us Q I r h
  obtain ⟨i, rfl, q⟩ := h
  obtain ⟨u, rfl, t, rfl⟩ := vals1 r
  exact call_abs_int fun u tk => ⟨.int (if i < 0 then -i else i), H, I.tok _, ⟨_, rfl⟩, q⟩
theorem call_max2 (hc : X.calm = true) : CallR X (.builtin "max") (fun xs H Q => ∃ i j, xs = [.int i, .int j] ∧ Q (.int (if j > i then j else i)) H) := by
  intro pins s σ H xs us Q I r h
  obtain ⟨i, j, rfl, q⟩ := h
  obtain ⟨u, w', rfl, ⟨t, rfl⟩, ⟨t', rfl⟩⟩ := vals2 r
  refine max_two_ints (I.ok.hd hc) fun h' tk k => ⟨_, H, I.kept k, ?_, q⟩
  by_cases hj : j > i
  · rw [if_pos hj, if_pos hj]; exact ⟨_, rfl⟩
  · rw [if_neg hj, if_neg hj]; exact ⟨_, rfl⟩
theorem call_min2 (hc : X.calm = true) : CallR X (.builtin "min") (fun xs H Q => ∃ i j, xs = [.int i, .int j] ∧ Q (.int (if j < i then j else i)) H) := by
  intro pins s σ H xs us Q I r h
  obtain ⟨i, j, rfl, q⟩ := h
  obtain ⟨u, w', rfl, ⟨t, rfl⟩, ⟨t', rfl⟩⟩ := vals2 r
  refine min_two_ints (I.ok.hd hc) fun h' tk k => ⟨_, H, I.kept k, ?_, q⟩
  by_cases hj : j < i
  · rw [if_pos hj, if_pos hj]; exact ⟨_, rfl⟩
  · rw [if_neg hj, if_neg hj]; exact ⟨_, rfl⟩
theorem call_int1 : CallR X (.type "int") (fun xs H Q => (∃ i, xs = [.int i] ∧ Q (.int i) H) ∨ ∃ k, xs = [.bl k] ∧ Q (.int (if k then 1 else 0)) H) := by
  intro pins s σ H xs us Q I r h
  rcases h with ⟨i, rfl, q⟩ | ⟨k, rfl, q⟩
  · obtain ⟨u, rfl, t, rfl⟩ := vals1 r
    exact call_int_int ⟨.int i, H, I, ⟨_, rfl⟩, q⟩
  · obtain ⟨u, rfl, r1⟩ := vals1 r
    cases r1
    exact call_int_bool ⟨.int (if k then 1 else 0), H, I.tok _, ⟨_, rfl⟩, q⟩
theorem call_bool1 : CallR X (.type "bool") (fun xs H Q => (∃ i, xs = [.int i] ∧ Q (.bl (i != 0)) H) ∨ ∃ k, xs = [.bl k] ∧ Q (.bl k) H) := by
  intro pins s σ H xs us Q I r h
  rcases h with ⟨i, rfl, q⟩ | ⟨k, rfl, q⟩
  · obtain ⟨u, rfl, t, rfl⟩ := vals1 r
    exact call_bool_int ⟨.bl (i != 0), H, I, rfl, q⟩
  · obtain ⟨u, rfl, r1⟩ := vals1 r
    cases r1
    exact call_bool_bool ⟨.bl k, H, I, rfl, q⟩
theorem call_str_int : CallR X (.type "str") (fun xs H Q => ∃ i, xs = [.int i] ∧ i.natAbs.log2 < 1920 ∧ Q (.str (toString i)) H) := by
  intro pins s σ H xs us Q I r h
  obtain ⟨i, rfl, hz, q⟩ := h
  obtain ⟨u, rfl, t, rfl⟩ := vals1 r
  exact PySem.P.str_of_int hz ⟨.str _, H, I.tok _, ⟨_, rfl⟩, q⟩
theorem call_ord : CallR X (.builtin "ord") (fun xs H Q => ∃ x, xs = [.str x] ∧ x.length = 1 ∧ Q (.int (x.cps.getD 0 0 : Nat)) H) := by
  intro pins s σ H xs us Q I r h
  obtain ⟨x, rfl, hz, q⟩ := h
  obtain ⟨u, rfl, t, rfl⟩ := vals1 r
  exact ord_of_one hz ⟨.int _, H, I.tok _, ⟨_, rfl⟩, q⟩
theorem call_chr : CallR X (.builtin "chr") (fun xs H Q => ∃ i, xs = [.int i] ∧ 0 ≤ i ∧ i ≤ 1114111 ∧ Q (.str ⟨#[i.toNat]⟩) H) := by
  intro pins s σ H xs us Q I r h
  obtain ⟨i, rfl, h0, h1, q⟩ := h
  obtain ⟨u, rfl, t, rfl⟩ := vals1 r
  exact chr_of_range h0 h1 ⟨.str _, H, I.tok _, ⟨_, rfl⟩, q⟩
/-- len of a str, a bytes, a list, a tuple -/
def LenV (K : PySem.W.Frag) (x : V) (H : Hp) (n : Nat) : Prop :=
  match x with
  | .str y => y.length ≤ sizeLine ∧ n = y.length
  | .byt y => y.size ≤ sizeLine ∧ n = y.size
  | .ref p => (∃ xs, SqL K H p xs ∧ n = xs.length) ∨ ∃ xs, SqT K H p xs ∧ n = xs.length
  | _ => False
theorem call_len : CallR X (.builtin "len") (fun xs H Q => ∃ x n, xs = [x] ∧ LenV X.K x H n ∧ Q (.int n) H) := by
  intro pins s σ H xs us Q I r h
  obtain ⟨x, n, rfl, e, q⟩ := h
  obtain ⟨u, rfl, rx⟩ := vals1 r
  have hl := line63
  have hs : sizeLine = 16777216 := sizeLine_eq
  cases x with
  | str y =>
    obtain ⟨t, rfl⟩ := rx
    obtain ⟨hy, e'⟩ : y.length ≤ sizeLine ∧ n = y.length := e
    subst e'
    exact len_str (by omega) ⟨.int _, H, I.tok _, ⟨_, rfl⟩, q⟩
  | byt y =>
    obtain ⟨t, rfl⟩ := rx
    obtain ⟨hy, e'⟩ : y.size ≤ sizeLine ∧ n = y.size := e
    subst e'
    exact PySem.W.len_bytes (by omega) ⟨.int _, H, I.tok _, ⟨_, rfl⟩, q⟩
  | ref p =>
    cases rx
    have e' : (∃ xs, SqL X.K H p xs ∧ n = xs.length) ∨ ∃ xs, SqT X.K H p xs ∧ n = xs.length := e
    rcases e' with ⟨xs, hx, e'⟩ | ⟨xs, hx, e'⟩
    · subst e'
      obtain ⟨its, r', pl, hz⟩ := I.list hx
      have hlen := r'.length
      exact Calls.call_len_list pl.isList (by simp only [List.size_toArray]; omega) ⟨.int xs.length, H, I.tok _, ⟨_, by simp only [List.size_toArray]; rw [hlen]⟩, q⟩
    · subst e'
      obtain ⟨its, r', pl, hz⟩ := I.tuple hx
      have hlen := r'.length
      exact len_tuple pl (by simp only [List.size_toArray]; omega) ⟨.int xs.length, H, I.tok _, ⟨_, by simp only [List.size_toArray]; rw [hlen]⟩, q⟩
  | _ => exact (show False from e).elim
/-- divmod: a new tuple -/
theorem call_divmod : CallR X (.builtin "divmod") (fun xs H Q => ∃ i j, xs = [.int i, .int j] ∧ CDiv i j ∧ ∀ p, H p = none → Q (.ref p) (upd H p (.tup [.int (i / j), .int (i % j)]))) := by
  intro pins s σ H xs us Q I r h
  obtain ⟨i, j, rfl, ⟨h1, h2⟩, q⟩ := h
  obtain ⟨u, w', rfl, ⟨t, rfl⟩, ⟨t', rfl⟩⟩ := vals2 r
  refine divmod_int (by omega) ?_ (.inl (PyProof.noPylong_small (by omega)))
  rw [Int.fdiv_eq_ediv_of_nonneg i (by omega), Int.fmod_eq_emod_of_nonneg i (by omega)]
  have hn : H s.heap.objs.size = none := I.hok.fresh (Nat.le_refl _)
  refine ⟨.ref s.heap.objs.size, _, ?_, rfl, q _ hn⟩
  refine I.laid (fun b o e => Heap.get?_push_of_some _ e) (Nat.le_refl _) ⟨by simp only [List.length_cons, List.length_nil]; rw [sizeLine_eq]; decide, [.int (i / j) s.toks, .int (i % j) (s.toks + 1)], .cons ⟨_, rfl⟩ (.cons ⟨_, rfl⟩ .nil), ?_⟩
  exact ⟨_, Heap.get?_push_size s.heap rfl, rfl, 0, rfl⟩
end
end L2

namespace L2
open PySem PySem.Spec PyProof.Rows

/-! ### an instance, its attributes a map -/
structure ObjM (h : Heap) (x dx C : Addr) (mA : Str → Option Value) : Prop where
  obj : h.get? x = some (PySem.W.instObj C dx)
  ns : h.Ns1 dx mA
  ne : dx ≠ x

theorem lookIn_ns {h : Heap} {dx : Addr} {mA : Str → Option Value} (n : h.Ns1 dx mA) : ∃ od, h.get? dx = some od ∧ ∀ name, PySem.W.lookIn name od = some (mA name) := by
  obtain ⟨o, es, ep, ho, hd, hk, _, hm⟩ := n
  refine ⟨o, ho, fun name => ?_⟩
  have e := hm name
  unfold nsFind findBy at e
  rw [← Array.find?_toList] at e
  unfold PySem.W.lookIn
  rw [hd]
  dsimp only
  split
  · rename_i y q
    rw [q] at e
    exact congrArg some e
  · rename_i q
    rw [q] at e
    have a : es.toList.any (·.refKey) = false := by
      rw [List.any_eq_false]
      intro y hy
      obtain ⟨z, t, hkey⟩ := hk y (Array.mem_toList_iff.mp hy)
      simp [DictEntry.refKey, hkey]
    have a' : ¬ es.toList.any (·.refKey) = true := by rw [a]; exact Bool.false_ne_true
    rw [if_neg a']
    exact congrArg some e

theorem ObjM.look {h : Heap} {x dx C : Addr} {mA : Str → Option Value} (I : ObjM h x dx C mA) : ∃ od, PySem.W.InstAt h x (PySem.W.instObj C dx) C (some od) ∧ ∀ name, PySem.W.lookIn name od = some (mA name) :=
  let ⟨od, ho, hl⟩ := lookIn_ns I.ns
  ⟨od, ⟨I.obj, rfl, rfl, ho⟩, hl⟩

section
variable {prog : Program} {w : World} {A : Around} {E : Value → Shared → Prop} {s : Shared} {K : PySem.W.Frag} {x dx C f : Addr} {mA : Str → Option Value} {name : Str} {v : Value}

theorem get_map {expr : Bool} {Q : Value → Shared → Prop} (X : K.In s.heap) (I : ObjM s.heap x dx C mA) (hg : PySem.W.plainGet K C name = true) (hh : PySem.W.hasDictIn K C = true)
    (ha : PySem.W.findIn K (.ref C) name = some none) (hv : mA name = some v) (hv' : PySem.W.handedIn v = true) (h : Q v { s with toks := s.toks + 1 }) :
    wpAny (model prog w) A (getAttr (.ref x) name expr) Q E s := by
  obtain ⟨od, J, hl⟩ := I.look
  exact PySem.W.get_value X J (PySem.W.plainGet_of hg).1 (PySem.W.findObj_own hh ha rfl (by rw [hl, hv])) hv' h

theorem get_const {expr : Bool} {a : Value} {Q : Value → Shared → Prop} (X : K.In s.heap) (I : ObjM s.heap x dx C mA) (hg : PySem.W.plainGet K C name = true) (hh : PySem.W.hasDictIn K C = true)
    (ha : PySem.W.findIn K (.ref C) name = some (some a)) (hn : PySem.W.specialIn K a "__get__" = some none) (hc : PySem.W.copiedNames.contains name = false) (hv : mA name = none) (hv' : PySem.W.handedIn a = true)
    (h : Q a { s with toks := s.toks + 1 }) : wpAny (model prog w) A (getAttr (.ref x) name expr) Q E s := by
  obtain ⟨od, J, hl⟩ := I.look
  exact PySem.W.get_value X J (PySem.W.plainGet_of hg).1 (PySem.W.findObj_cls hh ha hn hv' hc (by rw [hl, hv])) hv' h

theorem get_meth {pl : Sem Bool} {Q : Value × List Value → Shared → Prop} (X : K.In s.heap) (I : ObjM s.heap x dx C mA) (hg : PySem.W.plainGet K C name = true)
    (hf : PySem.W.findIn K (.ref C) name = some (some (.ref f))) (ht : PySem.W.isFn K (.ref f) = true) (hv : mA name = none) (h : Q (.ref f, [.ref x]) s) :
    wpAny (model prog w) A (getMethod (.ref x) name pl) Q E s := by
  obtain ⟨od, J, hl⟩ := I.look
  exact PySem.W.method_fn X J (PySem.W.plainGet_of hg).1 (PySem.W.plainGet_of hg).2 hf (beq_iff_eq.mp ht) (by show (PySem.W.lookIn name od).map (·.isSome) = some false; rw [hl, hv]; rfl) h

theorem set_map {ns : List Str} {Q : Unit → Shared → Prop} (X : K.In s.heap) (I : ObjM s.heap x dx C mA)
    (hs : PySem.W.findIn K (.ref C) "__setattr__" = some (some (.builtin "object.__setattr__"))) (hp : PySem.W.plainOver K C = true) (ht : PySem.W.takerIn K C name = some none) (hh : PySem.W.hasDictIn K C = true)
    (hw : PySem.Within mA ns) (hsz : ns.length ≤ sizeLine)
    (h : ∀ h', ObjM h' x dx C (fun y => if y = name then some v else mA y) → Heap.SameBut dx s.heap h' → Q () { s with heap := h', toks := s.toks + 2 }) :
    wpAny (model prog w) A (setAttr (.ref x) name v) Q E s := by
  obtain ⟨od, J, hl⟩ := I.look
  refine PySem.W.set_plain X J hs (PySem.W.osa_open (s := { s with toks := s.toks + 1 }) (r := none) X J hp ht fun b => ?_)
  obtain ⟨cd, hc, hd'⟩ := PySem.W.any_some hh
  have hx : s.heap.get? x = some ⟨.ref C, some dx, .plain, #[]⟩ := I.obj
  refine wpAny_bind (wpAny_pure (wpAny_bind (wpAny_bind (wpAny_loadPart hx (wpAny_bind (PySem.W.Looks.here (s := { s with toks := s.toks + 1 }) (PySem.W.looks_clsIn X hc) ?_))))))
  rw [hd']
  refine wpAny_pure (a := some dx) (wpAny_bind (wpAny_pure (wpAny_bind ?_)))
  refine wpAny_nsSet1 (s := { s with toks := s.toks + 1 }) I.ns fun h' hn2 hs2 => ?_
  obtain ⟨oD, esD, epD, hoD, hdD, hcD⟩ := hn2.count (PySem.Within.cons name v hw)
  refine wpAny_bind (wpAny_lookBehind hoD (by rw [hdD]; exact pastItsLine_dict (Nat.le_trans hcD (by rw [List.length_cons]; omega))) ?_)
  exact wpAny_pure (h _ ⟨(hs2.2 _ (Ne.symm I.ne)).trans I.obj, hn2, I.ne⟩ hs2)

/-- C(..): the dict at the heap's end, the instance behind it; then its __init__ -/
theorem make_map {R : Result → Shared → Prop} {vs : List Value} {kw : List (Str × Value)} (X : K.In s.heap) (hm : PySem.W.makesIn K C = true)
    (hi : PySem.W.findIn K (.ref C) "__init__" = some (some (.ref f))) (hf : PySem.W.typeIn K (.ref f) = some (.type "function"))
    (h : codeAny (model prog w) (A.under (.builtin "type.__call__" ⟨.ref C :: vs, kw⟩)) (.call (.ref f) ⟨.ref (s.heap.objs.size + 1) :: vs, kw⟩) (PySem.W.InitBack (s.heap.objs.size + 1) R)
      { s with heap := (s.heap.push PySem.W.emptyDict).push (PySem.W.instObj C s.heap.objs.size) }) :
    codeAny (model prog w) A (.call (.ref C) ⟨vs, kw⟩) R s := by
  obtain ⟨hh, g, d, t, os⟩ := s
  exact PySem.W.make_core (PySem.W.makes_of X hm) (PySem.W.looks_findIn X hi) (fun self => PySem.W.bind_fn X self hf) (.inl rfl) h
/-- C() where there is no __init__ but object's -/
theorem make_map0 {R : Result → Shared → Prop} (X : K.In s.heap) (hm : PySem.W.makesIn K C = true)
    (hi : PySem.W.findIn K (.ref C) "__init__" = some (some (.builtin "object.__init__")))
    (hb : ∀ self, PySem.W.Looks (model prog w) s.heap (bindSpecial (.builtin "object.__init__") self) (.builtin "object.__init__", [self]))
    (h : codeAny (model prog w) (A.under (.builtin "type.__call__" ⟨[.ref C], []⟩)) (.call (.builtin "object.__init__") ⟨[.ref (s.heap.objs.size + 1)], []⟩) (PySem.W.InitBack (s.heap.objs.size + 1) R)
      { s with heap := (s.heap.push PySem.W.emptyDict).push (PySem.W.instObj C s.heap.objs.size) }) :
    codeAny (model prog w) A (.call (.ref C) ⟨[], []⟩) R s := by
  obtain ⟨hh, g, d, t, os⟩ := s
  exact PySem.W.make_core (PySem.W.makes_of X hm) (PySem.W.looks_findIn X hi) hb (.inr ⟨rfl, rfl⟩) h
end

/-! ### the attributes as a list of pairs -/
def putF (f : Str) (v : V) : List (Str × V) → List (Str × V)
  | [] => [(f, v)]
  | (g, x) :: r => if g = f then (g, v) :: r else (g, x) :: putF f v r
theorem lookup_putF (f g : Str) (v : V) : ∀ fs : List (Str × V), (putF f v fs).lookup g = if g = f then some v else fs.lookup g
  | [] => by
    show List.lookup g [(f, v)] = _
    by_cases h : g = f
    · have hb : (g == f) = true := beq_iff_eq.mpr h
      simp only [List.lookup, hb, if_pos h]
    · have hb : (g == f) = false := beq_eq_false_iff_ne.mpr h
      simp only [List.lookup, hb, if_neg h]
  | (k, x) :: r => by
    have ih := lookup_putF f g v r
    rw [show putF f v ((k, x) :: r) = (if k = f then (k, v) :: r else (k, x) :: putF f v r) from rfl]
    by_cases hk : k = f
    · rw [if_pos hk]
      by_cases h : g = k
      · have hb : (g == k) = true := beq_iff_eq.mpr h
        simp only [List.lookup, hb, if_pos (h.trans hk)]
      · have hb : (g == k) = false := beq_eq_false_iff_ne.mpr h
        simp only [List.lookup, hb, if_neg (fun e : g = f => h (e.trans hk.symm))]
    · rw [if_neg hk]
      by_cases h : g = k
      · have hb : (g == k) = true := beq_iff_eq.mpr h
        simp only [List.lookup, hb, if_neg (fun e : g = f => hk (h.symm.trans e))]
      · have hb : (g == k) = false := beq_eq_false_iff_ne.mpr h
        simp only [List.lookup, hb]
        exact ih
theorem keys_putF (f : Str) (v : V) : ∀ fs : List (Str × V), f ∈ (putF f v fs).map (·.1) ∧ ∀ g, g ∈ fs.map (·.1) → g ∈ (putF f v fs).map (·.1)
  | [] => ⟨by simp [putF], fun g h => by simp at h⟩
  | (k, x) :: r => by
    obtain ⟨i1, i2⟩ := keys_putF f v r
    rw [show putF f v ((k, x) :: r) = (if k = f then (k, v) :: r else (k, x) :: putF f v r) from rfl]
    by_cases hk : k = f
    · rw [if_pos hk]
      subst hk
      exact ⟨by simp, fun g h => by simpa using h⟩
    · rw [if_neg hk]
      refine ⟨?_, fun g h => ?_⟩
      · rw [List.map_cons]
        exact List.mem_cons_of_mem _ i1
      · rw [List.map_cons] at h ⊢
        rcases List.mem_cons.mp h with e | e
        · exact List.mem_cons.mpr (.inl e)
        · exact List.mem_cons_of_mem _ (i2 g e)
theorem length_putF (f : Str) (v : V) : ∀ fs : List (Str × V), (putF f v fs).length ≤ fs.length + 1
  | [] => by simp [putF]
  | (k, x) :: r => by
    have ih := length_putF f v r
    rw [show putF f v ((k, x) :: r) = (if k = f then (k, v) :: r else (k, x) :: putF f v r) from rfl]
    by_cases hk : k = f
    · rw [if_pos hk, List.length_cons, List.length_cons]; omega
    · rw [if_neg hk, List.length_cons, List.length_cons]; omega

theorem RelO.some_of {v : V} {o : Option Value} (r : RelO (some v) o) : ∃ u, o = some u ∧ RelV v u := by
  cases o with
  | none => exact (show False from r).elim
  | some u => exact ⟨u, rfl, r⟩
theorem RelO.none_of {o : Option Value} (r : RelO none o) : o = none := by
  cases o with
  | none => rfl
  | some u => exact (show False from r).elim
theorem handed_of {v : V} {u : Value} (r : RelV v u) : PySem.W.handedIn u = true := by
  cases v with
  | non => cases (show u = Value.none from r); rfl
  | bl b => cases (show u = Value.bool b from r); rfl
  | int i => obtain ⟨t, e⟩ := (show ∃ t, u = Value.int i t from r); cases e; rfl
  | str x => obtain ⟨t, e⟩ := (show ∃ t, u = Value.str x t from r); cases e; rfl
  | byt b => obtain ⟨t, e⟩ := (show ∃ t, u = Value.bytes b t from r); cases e; rfl
  | flt b => obtain ⟨t, e⟩ := (show ∃ t, u = Value.float b t from r); cases e; rfl
  | ref a => cases (show u = Value.ref a from r); rfl
  | ty n => cases (show u = Value.type n from r); rfl

section
variable {P : Program} {w : World} {H H' : Hp} {h h' : Heap} {a C dx : Addr} {fs fs' : List (Str × V)}
theorem ins_get (hok : HOk P w H h) (e : H a = some (.ins C dx fs)) : ∃ mA, ObjM h a dx C mA ∧ (∀ f, RelO (fs.lookup f) (mA f)) ∧ PySem.Within mA (fs.map (·.1)) ∧ fs.length ≤ 1000 ∧ H dx = some (.own a) := by
  obtain ⟨d, z, ne, ob, mA, n, r, q⟩ := (show ObjOk P w H h a (.ins C dx fs) from hok a _ e)
  exact ⟨mA, ⟨ob, n, ne⟩, r, q, z, d⟩
end

/-! ### what of the text a class must have -/
structure Cls (K : PySem.W.Frag) (C : Addr) : Prop where
  pg : PySem.W.plainGet K C Str.empty = true
  hd : PySem.W.hasDictIn K C = true
  po : PySem.W.plainOver K C = true
  sa : PySem.W.findIn K (.ref C) "__setattr__" = some (some (.builtin "object.__setattr__"))
theorem Cls.get {K : PySem.W.Frag} {C : Addr} (c : Cls K C) (f : Str) : PySem.W.plainGet K C f = true := c.pg
/-- no class of it has the name -/
def NoAttr (K : PySem.W.Frag) (C : Addr) (f : Str) : Prop := PySem.W.findIn K (.ref C) f = some none
theorem NoAttr.taker {K : PySem.W.Frag} {C : Addr} {f : Str} (n : NoAttr K C f) : PySem.W.takerIn K C f = some none := by
  unfold PySem.W.takerIn
  rw [show PySem.W.findIn K (.ref C) f = some none from n]
  rfl
/-- a constant of the class -/
structure Con (K : PySem.W.Frag) (C : Addr) (f : Str) (v : V) (u : Value) : Prop where
  at_ : PySem.W.findIn K (.ref C) f = some (some u)
  rel : RelV v u
  get : PySem.W.specialIn K u "__get__" = some none
  cp : PySem.W.copiedNames.contains f = false
/-- a method: a plain def of the class or of one above it -/
structure Meth (K : PySem.W.Frag) (C : Addr) (m : Str) (f : Addr) : Prop where
  at_ : PySem.W.findIn K (.ref C) m = some (some (.ref f))
  fn : PySem.W.isFn K (.ref f) = true
  kp : PySem.W.keepIn K (.ref f) = true

section
variable {X : Cx} {pins : List (Addr × Obj)} {σ : St} {H : Hp} {s : Shared} {a C dx : Addr} {fs : List (Str × V)} {f : Str} {v : V} {A : Around} {E : Value → Shared → Prop}

theorem getattr_ok {b : Bool} {Q : Value → Shared → Prop} (I : Inv X pins σ H s) (e : H a = some (.ins C dx fs)) (c : Cls X.K C) (n : NoAttr X.K C f) (l : fs.lookup f = some v)
    (h : ∀ u s', Inv X pins σ H s' → RelV v u → Q u s') : wpAny (model X.prog X.w) A (getAttr (.ref a) f b) Q E s := by
  obtain ⟨mA, O, r, _, _, _⟩ := ins_get I.hok e
  obtain ⟨u, hu, ru⟩ := RelO.some_of (v := v) (o := mA f) (by rw [← l]; exact r f)
  exact get_map I.kIn O (c.get f) c.hd n hu (handed_of ru) (h u _ (I.tok _) ru)

theorem getcon_ok {b : Bool} {u : Value} {Q : Value → Shared → Prop} (I : Inv X pins σ H s) (e : H a = some (.ins C dx fs)) (c : Cls X.K C) (k : Con X.K C f v u) (l : fs.lookup f = none)
    (h : ∀ s', Inv X pins σ H s' → Q u s') : wpAny (model X.prog X.w) A (getAttr (.ref a) f b) Q E s := by
  obtain ⟨mA, O, r, _, _, _⟩ := ins_get I.hok e
  have hn : mA f = none := RelO.none_of (by rw [← l]; exact r f)
  exact get_const I.kIn O (c.get f) c.hd k.at_ k.get k.cp hn (handed_of k.rel) (h _ (I.tok _))

theorem getmeth_ok {m : Str} {g : Addr} {pl : Sem Bool} {Q : Value × List Value → Shared → Prop} (I : Inv X pins σ H s) (e : H a = some (.ins C dx fs)) (c : Cls X.K C) (k : Meth X.K C m g) (l : fs.lookup m = none)
    (h : Q (.ref g, [.ref a]) s) : wpAny (model X.prog X.w) A (getMethod (.ref a) m pl) Q E s := by
  obtain ⟨mA, O, r, _, _, _⟩ := ins_get I.hok e
  have hn : mA m = none := RelO.none_of (by rw [← l]; exact r m)
  exact get_meth I.kIn O (c.get m) k.at_ k.fn hn h

theorem setattr_ok {y : V} {u : Value} {Q : Unit → Shared → Prop} (I : Inv X pins σ H s) (e : H a = some (.ins C dx fs)) (c : Cls X.K C) (n : NoAttr X.K C f) (hl : fs.length < 1000) (ry : RelV y u)
    (h : ∀ s', Inv X pins σ (upd H a (.ins C dx (putF f y fs))) s' → Q () s') : wpAny (model X.prog X.w) A (setAttr (.ref a) f u) Q E s := by
  obtain ⟨mA, O, r, wi, _, ho⟩ := ins_get I.hok e
  have hz : (fs.map (·.1)).length ≤ sizeLine := by rw [List.length_map, sizeLine_eq]; omega
  refine set_map I.kIn O c.sa c.po n.taker c.hd wi hz fun h' O' sb => h _ ?_
  have hd : ∃ o, h'.get? dx = some o := let ⟨o, _, _, e', _⟩ := O'.ns; ⟨o, e'⟩
  refine I.write (x := a) (e := dx) (by rw [e]; exact True.intro) (.inr ho) (fun b q hb z => (sb.2 b hb).trans z) hd ?_
  refine ⟨by rw [upd_ne O.ne]; exact ho, ?_, O.ne, O'.obj, _, O'.ns, fun g => ?_, fun g hg => ?_⟩
  · have := length_putF f y fs; omega
  · show RelO ((putF f y fs).lookup g) (if g = f then some u else mA g)
    rw [lookup_putF]
    by_cases q : g = f
    · rw [if_pos q, if_pos q]; exact ry
    · rw [if_neg q, if_neg q]; exact r g
  · by_cases q : g = f
    · rw [q]; exact (keys_putF f y fs).1
    · refine (keys_putF f y fs).2 g (wi g fun z => hg ?_)
      show (if g = f then some u else mA g) = none
      rw [if_neg q]; exact z

/-- a new instance, tracked, without attributes -/
theorem Inv.made (I : Inv X pins σ H s) : Inv X pins σ (upd (upd H s.heap.objs.size (.own (s.heap.objs.size + 1))) (s.heap.objs.size + 1) (.ins C s.heap.objs.size []))
    { s with heap := (s.heap.push PySem.W.emptyDict).push (PySem.W.instObj C s.heap.objs.size) } := by
  have e1 : (s.heap.push PySem.W.emptyDict).get? s.heap.objs.size = some PySem.W.emptyDict := Heap.get?_push_size s.heap rfl
  have e2 : ((s.heap.push PySem.W.emptyDict).push (PySem.W.instObj C s.heap.objs.size)).get? (s.heap.objs.size + 1) = some (PySem.W.instObj C s.heap.objs.size) := by
    have := Heap.get?_push_size (s.heap.push PySem.W.emptyDict) (o := PySem.W.instObj C s.heap.objs.size) rfl
    rwa [Heap.size_push] at this
  have e3 : (s.heap.push PySem.W.emptyDict).Ns s.heap.objs.size (fun _ => none) := ⟨PySem.W.emptyDict, #[], _, e1, rfl, (fun e he => absurd he (by simp)), fun _ => rfl⟩
  have I1 := I.laid (a := s.heap.objs.size) (o := .own (s.heap.objs.size + 1)) (h' := s.heap.push PySem.W.emptyDict) (t' := s.toks) (fun b u q => Heap.get?_push_of_some _ q) (Nat.le_refl _) ⟨_, e1⟩
  refine I1.laid (a := s.heap.objs.size + 1) (o := .ins C s.heap.objs.size []) (t' := s.toks) (fun b u q => Heap.get?_push_of_some _ q) (Nat.le_of_eq (Heap.size_push _ _)) ?_
  have ne : s.heap.objs.size ≠ s.heap.objs.size + 1 := Nat.ne_of_lt (Nat.lt_succ_self _)
  refine ⟨by rw [upd_ne ne, upd_same], Nat.zero_le _, ne, e2, fun _ => none, (Heap.Ns1.of_empty e3).at fun o q => Heap.get?_push_of_some _ q, fun _ => True.intro, fun y hy => absurd rfl hy⟩

/-- e.f where nothing but the object is asked: through attributeBase (super) and the last hold -/
theorem attr_of {prog : Program} {w : World} {env : Env} {e : Expr} {f : Str} {pos : Pos} {s : Shared} {Q : Value → Shared → Prop} (hb : attributeBase e f env (eval e env) = eval e env)
    (h : wpAny (model prog w) A (eval e env) (fun o s₁ => wpAny (model prog w) A (getAttr o f true) Q E s₁) E s) : wpAny (model prog w) A (eval (.Attribute e f pos) env) Q E s :=
  Attribute_any_ h (by rw [arm_eval_Attribute, hb])
end

/-! ### readings and rules -/
/-- e.f, an attribute of the instance -/
def tFld (K : PySem.W.Frag) (ta : TE) (f : Str) : TE := fun σ H Q => ta σ H fun x H1 => ∃ a C dx fs v, x = .ref a ∧ H1 a = some (.ins C dx fs) ∧ Cls K C ∧ NoAttr K C f ∧ fs.lookup f = some v ∧ Q v H1
/-- e.f, a constant of the class -/
def tCon (K : PySem.W.Frag) (ta : TE) (f : Str) : TE := fun σ H Q => ta σ H fun x H1 => ∃ a C dx fs v u, x = .ref a ∧ H1 a = some (.ins C dx fs) ∧ Cls K C ∧ Con K C f v u ∧ fs.lookup f = none ∧ Q v H1
/-- e.f = value -/
def sFld (K : PySem.W.Frag) (ta tv : TE) (f : Str) : TS := fun D σ H => tv σ H fun y H1 => ta σ H1 fun x H2 => ∃ a C dx fs, x = .ref a ∧ H2 a = some (.ins C dx fs) ∧ Cls K C ∧ NoAttr K C f ∧ fs.length < 1000 ∧
  D.nx σ (upd H2 a (.ins C dx (putF f y fs)))
/-- an augmented operator on two values -/
def InOp (X : Cx) (op : Operator) (rd : V → V → Hp → VK → Prop) : Prop :=
  ∀ (pins : List (Addr × Obj)) (s : Shared) (σ : St) (H : Hp) (x y : V) (u v : Value) (Q : VK), Inv X pins σ H s → RelV x u → RelV y v → rd x y H Q → wpAny (model X.prog X.w) X.A (inplaceOp op u v) (EP X pins σ Q) X.xe s
/-- e.f op= value -/
def sFldAug (K : PySem.W.Frag) (ta tv : TE) (rd : V → V → Hp → VK → Prop) (f : Str) : TS := fun D σ H => ta σ H fun x H1 => ∃ a C dx fs v, x = .ref a ∧ H1 a = some (.ins C dx fs) ∧ Cls K C ∧ NoAttr K C f ∧ fs.lookup f = some v ∧
  tv σ H1 fun y H2 => rd v y H2 fun z H3 => ∃ dx' fs', H3 a = some (.ins C dx' fs') ∧ fs'.length < 1000 ∧ D.nx σ (upd H3 a (.ins C dx' (putF f z fs')))

section
variable {X : Cx} {o e value : Expr} {f : Str} {pos pos' tpos : Pos} {ta tv : TE}
theorem pe_fld (he : PE X e ta) (hb : attributeBase e f X.env (eval e X.env) = eval e X.env) : PE X (.Attribute e f pos) (tFld X.K ta f) := by
  intro pins s σ H Q I h
  refine attr_of hb (thn (he pins s σ H _ I h) fun u s1 ⟨x, H1, I1, rx, a, C, dx, fs, v, ex, ea, c, n, l, q⟩ => ?_)
  subst ex
  obtain rfl : u = Value.ref a := rx
  exact getattr_ok I1 ea c n l fun u' s2 I2 ru => ⟨v, H1, I2, ru, q⟩
theorem pe_con (he : PE X e ta) (hb : attributeBase e f X.env (eval e X.env) = eval e X.env) : PE X (.Attribute e f pos) (tCon X.K ta f) := by
  intro pins s σ H Q I h
  refine attr_of hb (thn (he pins s σ H _ I h) fun u s1 ⟨x, H1, I1, rx, a, C, dx, fs, v, u0, ex, ea, c, k, l, q⟩ => ?_)
  subst ex
  obtain rfl : u = Value.ref a := rx
  exact getcon_ok I1 ea c k l fun s2 I2 => ⟨v, H1, I2, k.rel, q⟩
theorem ps_fld (ha : PE X o ta) (hv : PE X value tv) (hs : swapsWith value (some (.Attribute o f pos')) pos.line X.env = pure false) : PS X (.Assign [.Attribute o f pos'] value pos) (sFld X.K ta tv f) := by
  intro pins s σ H D I h
  refine plainObj_wpAny_Assign_Attribute (thn (hv pins s σ H _ I h) fun u s1 ⟨y, H1, I1, ry, q⟩ => thn (ha pins s1 σ H1 _ I1 q) fun ov s2 ⟨x, H2, I2, rx, a, C, dx, fs, ex, ea, c, n, l, q2⟩ => ?_) hs
  subst ex
  obtain rfl : ov = Value.ref a := rx
  exact setattr_ok I2 ea c n l ry fun s3 I3 => ⟨σ, _, I3, q2⟩
theorem ps_fldaug {op : Operator} {rd : V → V → Hp → VK → Prop} (ha : PE X o ta) (hv : PE X value tv) (hop : InOp X op rd) : PS X (.AugAssign (.Attribute o f tpos) op value pos) (sFldAug X.K ta tv rd f) := by
  intro pins s σ H D I h
  refine wpAny_AugAssign_AttributeAny (thn (ha pins s σ H _ I h) fun ov s1 ⟨x, H1, I1, rx, a, C, dx, fs, v, ex, ea, c, n, l, q⟩ => ?_)
  subst ex
  obtain rfl : ov = Value.ref a := rx
  refine getattr_ok I1 ea c n l fun u s2 I2 ru => thn (hv pins s2 σ H1 _ I2 q) fun w3 s3 ⟨y, H2, I3, ry, q3⟩ => thn (hop pins s3 σ H2 v y u w3 _ I3 ru ry q3) fun w4 s4 ⟨z, H3, I4, rz, dx', fs', ea', l', q4⟩ => ?_
  exact setattr_ok I4 ea' c n l' rz fun s5 I5 => ⟨σ, _, I5, q4⟩
def rAdd : V → V → Hp → VK → Prop := fun x y H Q => ∃ i j, x = .int i ∧ y = .int j ∧ Q (.int (i + j)) H
def rSub : V → V → Hp → VK → Prop := fun x y H Q => ∃ i j, x = .int i ∧ y = .int j ∧ Q (.int (i - j)) H
theorem in_add : InOp X .Add rAdd := by
  rintro pins s σ H x y u v Q I rx ry ⟨i, j, rfl, rfl, q⟩
  obtain ⟨t, rfl⟩ := (show ∃ t, u = Value.int i t from rx)
  obtain ⟨t', rfl⟩ := (show ∃ t', v = Value.int j t' from ry)
  exact PyProof.Rows.iadd_int ⟨.int (i + j), H, I.tok _, ⟨_, rfl⟩, q⟩
theorem in_sub : InOp X .Sub rSub := by
  rintro pins s σ H x y u v Q I rx ry ⟨i, j, rfl, rfl, q⟩
  obtain ⟨t, rfl⟩ := (show ∃ t, u = Value.int i t from rx)
  obtain ⟨t', rfl⟩ := (show ∃ t', v = Value.int j t' from ry)
  exact PyProof.Rows.isub_int ⟨.int (i - j), H, I.tok _, ⟨_, rfl⟩, q⟩

/-- what is between an instance and its method: the tree of a method call -/
theorem methcall_of {pl : Sem Bool} {m : Str} {apos : Pos} {args : List Expr} {pins : List (Addr × Obj)} {s : Shared} {σ : St} {H : Hp} {Q : Value → Shared → Prop} {te : TE} (he : PE X e te) (I : Inv X pins σ H s)
    (h : te σ H fun x H1 => ∃ a C dx fs g, x = .ref a ∧ H1 a = some (.ins C dx fs) ∧ Cls X.K C ∧ Meth X.K C m g ∧ fs.lookup m = none ∧
      ∀ s1, Inv X pins σ H1 s1 → wpAny (model X.prog X.w) X.A (callWith pos (.ref g) [.ref a] (backTo pos (starEach args X.env)) (backToKw pos (keywordEach [] X.env))) Q X.xe s1)
    (ht : eval (.Call (.Attribute e m apos) args [] pos) X.env = (do
      let ov ← eval e X.env
      standAt apos.atName
      let (f, first) ← holding [ov] (getMethod ov m pl)
      callWith pos f first (backTo pos (starEach args X.env)) (backToKw pos (keywordEach [] X.env)))) :
    wpAny (model X.prog X.w) X.A (eval (.Call (.Attribute e m apos) args [] pos) X.env) Q X.xe s := by
  refine PySem.W.methodCall_KW (pl := pl) (thn (he pins s σ H _ I h) fun u s1 ⟨x, H1, I1, rx, a, C, dx, fs, g, ex, ea, c, k, l, q⟩ => ?_) ht
  subst ex
  obtain rfl : u = Value.ref a := rx
  exact getmeth_ok I1 ea c k l (q s1 I1)
end

/-! ### isinstance -/
section
variable {X : Cx} {pins : List (Addr × Obj)} {σ : St} {H : Hp} {s : Shared} {A : Around} {E : Value → Shared → Prop} {Q : Value → Shared → Prop} {c : Value} {b : Bool}
/-- the type of a value, as the fragment's deciders take it; for an instance its class -/
inductive TyOf (K : PySem.W.Frag) (H : Hp) : V → Value → Prop where
  | non : TyOf K H .non (.type "NoneType")
  | bl (x : Bool) : TyOf K H (.bl x) (.type "bool")
  | int (i : Int) : TyOf K H (.int i) (.type "int")
  | str (x : Str) : TyOf K H (.str x) (.type "str")
  | flt (x : UInt64) : TyOf K H (.flt x) (.type "float")
  | lst {a : Addr} {xs : List V} (e : H a = some (.lst xs)) : TyOf K H (.ref a) (.type "list")
  | frz {a : Addr} {o : Obj} {xs : List V} (e : H a = some (.frz o (.lst xs))) : TyOf K H (.ref a) (.type "list")
  | tup {a : Addr} {xs : List V} (e : H a = some (.tup xs)) : TyOf K H (.ref a) (.type "tuple")
  | dK {a : Addr} {kvs : List (Key × V)} (e : H a = some (.dK kvs)) : TyOf K H (.ref a) (.type "dict")
  | dT {a : Addr} {kvs : List (List Key × V)} (e : H a = some (.dT kvs)) : TyOf K H (.ref a) (.type "dict")
  | ins {a C dx : Addr} {fs : List (Str × V)} (e : H a = some (.ins C dx fs)) (cl : Cls K C) (ha : PySem.W.findIn K (.ref C) "__class__" = some (some (.builtin "object.__class__")))
      (hn : PySem.W.specialIn K (.builtin "object.__class__") "__get__" = some (some (.builtin "getset_descriptor.__get__"))) (htk : PySem.W.takesIn K (.builtin "object.__class__") = some true)
      (hm : PySem.W.mroIn K C (.type "object") = some true) : TyOf K H (.ref a) (.ref C)
/-- isinstance(x, c) for one class c, a built-in or an own one: kitOne's answer -/
theorem isinst_ok {x : V} {u t : Value} (I : Inv X pins σ H s) (rx : RelV x u) (ty : TyOf X.K H x t) (e : PySem.W.kitOne X.K t c = some b) (h : ∀ tk, Q (.bool b) { s with toks := tk }) :
    wpAny (model X.prog X.w) A (call (.builtin "isinstance") [u, c]) Q E s := by
  cases ty with
  | non => cases (show u = Value.none from rx); exact PySem.W.kia_one PySem.W.kitx_none I.kIn True.intro e (fun z => nomatch z) h
  | bl y => cases (show u = Value.bool y from rx); exact PySem.W.kia_one PySem.W.kitx_bool I.kIn True.intro e (fun z => nomatch z) h
  | int i => obtain ⟨t, q⟩ := (show ∃ t, u = Value.int i t from rx); cases q; exact PySem.W.kia_one PySem.W.kitx_int I.kIn True.intro e (fun z => nomatch z) h
  | str y => obtain ⟨t, q⟩ := (show ∃ t, u = Value.str y t from rx); cases q; exact PySem.W.kia_one PySem.W.kitx_str I.kIn True.intro e (fun z => nomatch z) h
  | flt y => obtain ⟨t, q⟩ := (show ∃ t, u = Value.float y t from rx); cases q; exact PySem.W.kia_one PySem.W.kitx_float I.kIn True.intro e (fun z => nomatch z) h
  | @lst a xs ea =>
    cases (show u = Value.ref a from rx)
    obtain ⟨_, _, n, _, h1⟩ := (show ObjOk X.prog X.w H s.heap a (.lst xs) from I.hok a _ ea)
    exact PySem.W.kia_one PySem.W.kitx_list I.kIn ⟨_, h1, rfl⟩ e (fun z => nomatch z) h
  | @frz a ob xs ea =>
    cases (show u = Value.ref a from rx)
    obtain ⟨_, _, _, n, _, h1⟩ := (show ObjOk X.prog X.w H s.heap a (.frz ob (.lst xs)) from I.hok a _ ea)
    exact PySem.W.kia_one PySem.W.kitx_list I.kIn ⟨_, h1, rfl⟩ e (fun z => nomatch z) h
  | @tup a xs ea =>
    cases (show u = Value.ref a from rx)
    obtain ⟨_, _, _, p⟩ := (show ObjOk X.prog X.w H s.heap a (.tup xs) from I.hok a _ ea)
    obtain ⟨o, h1, h2, _⟩ := p
    exact PySem.W.kia_one PySem.W.kitx_tuple I.kIn ⟨o, h1, h2⟩ e (fun z => nomatch z) h
  | @dK a kvs ea =>
    cases (show u = Value.ref a from rx)
    obtain ⟨_, _, vs, _, p⟩ := (show ObjOk X.prog X.w H s.heap a (.dK kvs) from I.hok a _ ea)
    obtain ⟨o, es, ep, h1, h2, _⟩ := p
    exact PySem.W.kia_one PySem.W.kitx_dict I.kIn ⟨o, h1, h2.1⟩ e (fun z => nomatch z) h
  | @dT a kvs ea =>
    cases (show u = Value.ref a from rx)
    obtain ⟨_, _, xs, _, o, es, ep, h1, h2, _⟩ := (show ObjOk X.prog X.w H s.heap a (.dT kvs) from I.hok a _ ea)
    exact PySem.W.kia_one PySem.W.kitx_dict I.kIn ⟨o, h1, h2.1⟩ e (fun z => nomatch z) h
  | @ins a C dx fs ea cl ha hn htk hm =>
    cases (show u = Value.ref a from rx)
    obtain ⟨mA, O, _⟩ := ins_get I.hok ea
    obtain ⟨od, J, _⟩ := O.look
    exact PySem.W.kia_one (PySem.W.kitx_own (cl.get _) cl.hd ha hn htk hm) I.kIn J e (fun z => nomatch z) h
end
end L2

namespace L2
open PySem PySem.Spec PyProof.Rows

/-! ### room -/
structure Room (k : Nat) (A : Around) : Prop where
  hd : A.handled = none
  dp : A.depth + 3 * k + 5 < recursionLimit
  un : A.units + 16 * k + 200 < cLine
theorem Room.mono {j k : Nat} {A : Around} (r : Room k A) (h : j ≤ k) : Room j A := ⟨r.hd, by have := r.dp; omega, by have := r.un; omega⟩
theorem Room.deeper {k : Nat} {A : Around} (r : Room (k + 1) A) (env : Env) : Room k (A.deeper env) :=
  ⟨r.hd, by have := r.dp; show A.depth + 1 + 3 * k + 5 < _; omega, by have := r.un; show A.units + 3 + 16 * k + 200 < _; omega⟩
theorem Room.in1 {k : Nat} {A : Around} (r : Room (k + 1) A) : Room k A.in1 :=
  ⟨r.hd, by have := r.dp; show A.depth + 3 * k + 5 < _; omega, by have := r.un; show A.units + 1 + 16 * k + 200 < _; omega⟩
theorem make_depth {A : Around} {C : Addr} {us : List Value} {kw : List (Str × Value)} : (A.under (.builtin "type.__call__" ⟨.ref C :: us, kw⟩)).depth = A.depth + 1 := by
  first | rfl | simp [Around.under, Code.weight, Code.isCreation, Code.isGuard, Code.isCaller, Code.frames, Code.isFrame, guardIds]
theorem make_units {A : Around} {C : Addr} {us : List Value} {kw : List (Str × Value)} : (A.under (.builtin "type.__call__" ⟨.ref C :: us, kw⟩)).units = A.units + 1 := by
  first | rfl | simp [Around.under, Code.cUnits, Code.frames, Code.isFrame]
theorem Room.make {k : Nat} {A : Around} (r : Room (k + 1) A) (C : Addr) (us : List Value) (kw : List (Str × Value)) : Room k (A.under (.builtin "type.__call__" ⟨.ref C :: us, kw⟩)) :=
  ⟨r.hd, by have := r.dp; rw [make_depth]; omega, by have := r.un; rw [make_units]; omega⟩
theorem Room.depth {k : Nat} {A : Around} (r : Room k A) : A.depth < recursionLimit := by have := r.dp; omega
theorem Room.units {k : Nat} {A : Around} (r : Room k A) : A.units + 64 < cLine := by have := r.un; omega
theorem Room.units0 {k : Nat} {A : Around} (r : Room k A) : A.units < cLine := by have := r.un; omega

/-! ### argument lists and displays -/
def tNil : TA := fun _ H Q => Q [] H
def tCons (ta : TE) (tr : TA) : TA := fun σ H Q => ta σ H fun x H1 => tr σ H1 fun xs H2 => Q (x :: xs) H2
section
variable {X : Cx} {e : Expr} {es : List Expr} {te : TE} {t : TA} {pos : Pos}
theorem pa_nil : PA X [] tNil := fun _ _ _ _ H Q I h => Calls.spliced_nil ⟨[], H, I, .nil, h⟩
theorem pa_cons (ha : PE X e te) (hr : PA X es t) (hs : starEach (e :: es) X.env = (false, eval e X.env) :: starEach es X.env := by rfl) : PA X (e :: es) (tCons te t) := by
  intro pos pins s σ H Q I h
  rw [hs]
  show wpAny _ _ (spliced ((false, eval e X.env) :: backTo pos (starEach es X.env))) _ _ s
  refine Calls.spliced_cons (thn (ha pins s σ H _ I h) fun u s1 ⟨x, H1, I1, r1, q1⟩ => ?_)
  exact thn (hr pos pins s1 σ H1 _ I1 q1) fun us s2 ⟨xs, H2, I2, r2, q2⟩ => ⟨x :: xs, H2, I2, .cons r1 r2, q2⟩

/-- a tuple, a list of written items -/
def tTup (t : TA) : TE := fun σ H Q => t σ H fun xs H1 => xs.length ≤ sizeLine ∧ ∀ p, H1 p = none → Q (.ref p) (upd H1 p (.tup xs))
def tLst (t : TA) : TE := fun σ H Q => t σ H fun xs H1 => xs.length ≤ sizeLine ∧ ∀ p, H1 p = none → Q (.ref p) (upd H1 p (.lst xs))
theorem pe_tup {x1} (h : PA X es t) : PE X (.Tuple es x1 pos) (tTup t) := by
  intro pins s σ H Q I hq
  refine wpAny_Tuple_spliced (thn (h pos pins s σ H _ I hq) fun us s1 ⟨xs, H1, I1, r, z, q⟩ => ⟨by rw [← r.length]; exact z, ?_⟩)
  have hf : H1 s1.heap.objs.size = none := I1.hok.fresh (Nat.le_refl _)
  refine ⟨.ref s1.heap.objs.size, upd H1 s1.heap.objs.size (.tup xs), I1.laid (t' := s1.toks) (fun b u e => Heap.get?_push_of_some _ e) (Nat.le_refl _) ?_, rfl, q _ hf⟩
  exact ⟨z, us, r, ⟨_, Heap.get?_push_size _ rfl, rfl, _, rfl⟩⟩
theorem pe_lst (h : PA X es t) : PE X (.List es pos) (tLst t) := by
  intro pins s σ H Q I hq
  refine wpAny_List_spliced (thn (h pos pins s σ H _ I hq) fun us s1 ⟨xs, H1, I1, r, z, q⟩ => ⟨by rw [← r.length]; exact z, ?_⟩)
  have hf : H1 s1.heap.objs.size = none := I1.hok.fresh (Nat.le_refl _)
  refine ⟨.ref s1.heap.objs.size, upd H1 s1.heap.objs.size (.lst xs), I1.laid (t' := s1.toks) (fun b u e => Heap.get?_push_of_some _ e) (Nat.le_refl _) ?_, rfl, q _ hf⟩
  exact ⟨z, us, 0, r, Heap.get?_push_size _ rfl⟩
end

/-! ### what a def promises -/
/-- a def's promise: the bound arguments in the parameters' order, the heap, the wanted end, the wanted exception -/
abbrev Sp := List V → Hp → VK → XK → Prop
/-- how an exception lies behind a call (file 08 gives it): the callers' frames, abstract heap and state ahead of the call, the wish, the exception, the state -/
abbrev CXT := List Env → Hp → Shared → XK → Value → Shared → Prop

/-- the state at a call -/
structure Env0 (P : Program) (w : World) (K : PySem.W.Frag) (mg : Str → Option Value) (base : Heap) (A : Around) (outer : List Env) (s : Shared) (H : Hp) : Prop where
  frames : A.frames = some outer
  mod : Mod K mg base
  bs : ∀ b o, base.get? b = some o → s.heap.get? b = some o ∧ H b = none
  bsz : base.objs.size ≤ s.heap.objs.size
  funs : s.heap.FunFrames base outer
  frf : ∀ b ∈ frs outer, H b = none
  hok : HOk P w H s.heap
  bare : AllBare s.gens
/-- a call's end -/
def CE (outer : List Env) (P : Program) (w : World) (H : Hp) (s : Shared) (Q : VK) (u : Value) (s' : Shared) : Prop :=
  ∃ v H', s'.os = s.os ∧ AllBare s'.gens ∧ Un (frs outer) [] H H' s.heap s'.heap ∧ HOk P w H' s'.heap ∧ RelV v u ∧ Q v H'
def CR (CX : CXT) (outer : List Env) (P : Program) (w : World) (H : Hp) (s : Shared) (Q : VK) (E : XK) (r : Result) (s' : Shared) : Prop :=
  match r with
  | .ok (.ret u) => CE outer P w H s Q u s'
  | .ok _ => False
  | .error e => CX outer H s E e s'
structure FnOk (P : Program) (w : World) (K : PySem.W.Frag) (mg : Str → Option Value) (base : Heap) (CX : CXT) (k : Nat) (f : Addr) (fd : FuncData) (ps : List Str) (sp : Sp) : Prop where
  len : ∀ vs H Q E, sp vs H Q E → vs.length = ps.length
  run : ∀ (A : Around) (outer : List Env) (s : Shared) (H : Hp) (args : Args) (us : List Value) (vs : List V) (Q : VK) (E : XK), Room k A → Env0 P w K mg base A outer s H → BindsTo s fd args (ps.zip us) → Vals vs us → sp vs H Q E →
    codeAny (model P w) A (.call (.ref f) args) (CR CX outer P w H s Q E) s
theorem FnOk.mono {P : Program} {w : World} {K : PySem.W.Frag} {mg : Str → Option Value} {base : Heap} {CX : CXT} {j k : Nat} {f : Addr} {fd : FuncData} {ps : List Str} {sp : Sp} (F : FnOk P w K mg base CX j f fd ps sp) (h : j ≤ k) :
    FnOk P w K mg base CX k f fd ps sp := ⟨F.len, fun A outer s H args us vs Q E hr => F.run A outer s H args us vs Q E (hr.mono h)⟩
/-- a weaker promise -/
theorem FnOk.imp {P : Program} {w : World} {K : PySem.W.Frag} {mg : Str → Option Value} {base : Heap} {CX : CXT} {k : Nat} {f : Addr} {fd : FuncData} {ps : List Str} {sp sp' : Sp} (F : FnOk P w K mg base CX k f fd ps sp)
    (h : ∀ vs H Q E, sp' vs H Q E → sp vs H Q E) : FnOk P w K mg base CX k f fd ps sp' :=
  ⟨fun vs H Q E q => F.len vs H Q E (h _ _ _ _ q), fun A outer s H args us vs Q E hr he hb hv hs => F.run A outer s H args us vs Q E hr he hb hv (h _ _ _ _ hs)⟩

theorem Env0.make {P : Program} {w : World} {K : PySem.W.Frag} {mg : Str → Option Value} {base : Heap} {A : Around} {outer : List Env} {s : Shared} {H : Hp} (e : Env0 P w K mg base A outer s H) (C : Addr) (us : List Value) (kw : List (Str × Value)) :
    Env0 P w K mg base (A.under (.builtin "type.__call__" ⟨.ref C :: us, kw⟩)) outer s H := ⟨by first | exact e.frames | (simpa [Around.under, Code.envs, Code.isFrame, pushEnvs] using e.frames), e.mod, e.bs, e.bsz, e.funs, e.frf, e.hok, e.bare⟩
theorem Env0.in1 {P : Program} {w : World} {K : PySem.W.Frag} {mg : Str → Option Value} {base : Heap} {A : Around} {outer : List Env} {s : Shared} {H : Hp} (e : Env0 P w K mg base A outer s H) :
    Env0 P w K mg base A.in1 outer s H := ⟨e.frames, e.mod, e.bs, e.bsz, e.funs, e.frf, e.hok, e.bare⟩

section
variable {X : Cx} {pins : List (Addr × Obj)} {σ : St} {H : Hp} {s s' : Shared}
/-- from a body: what a callee wants -/
theorem Inv.env0 (I : Inv X pins σ H s) : Env0 X.prog X.w X.K X.mg X.base X.A X.stack s H :=
  ⟨I.ok.frames, I.ok.mod, I.bs, Nat.le_trans I.ok.bsz I.sz, I.stack, I.stkFree, I.hok, I.bare⟩
/-- behind a call -/
theorem Inv.after {Q : VK} {u : Value} (I : Inv X pins σ H s) (h : CE X.stack X.prog X.w H s Q u s') : EP X pins σ Q u s' := by
  obtain ⟨v, H', os, bare, un, hok, r, q⟩ := h
  obtain ⟨hh, g, d, t, os'⟩ := s'
  obtain rfl : os' = s.os := os
  exact ⟨v, H', I.call (h' := hh) (g' := g) (d' := d) (t' := t) (ch := []) un hok bare (fun b z => absurd z (by simp)), r, q⟩
end

/-! ### calls -/
/-- f(..): the written arguments, then the defaults dvs; E: what is wanted of an exception -/
def tCall (sp : Sp) (dvs : List V) (E : XK) (t : TA) : TE := fun σ H Q => t σ H fun vs H1 => sp (vs ++ dvs) H1 Q E
/-- o.m(..) of an instance of the class at C -/
def tMeth (C : Addr) (m : Str) (sp : Sp) (dvs : List V) (E : XK) (ta : TE) (t : TA) : TE := fun σ H Q => ta σ H fun x H1 => ∃ a dx fs, x = .ref a ∧ H1 a = some (.ins C dx fs) ∧ fs.lookup m = none ∧
  t σ H1 fun vs H2 => sp (x :: (vs ++ dvs)) H2 Q E
/-- C(..): a new instance and its dict, then __init__ -/
def tMake (C : Addr) (sp : Sp) (dvs : List V) (E : XK) (t : TA) : TE := fun σ H Q => t σ H fun vs H1 => ∀ x dx, H1 x = none → H1 dx = none → dx ≠ x →
  sp (.ref x :: (vs ++ dvs)) (upd (upd H1 dx (.own x)) x (.ins C dx [])) (fun v H2 => v = .non ∧ Q (.ref x) H2) E

/-- how the parameters are bound: us the positional arguments, kw the keywords' values by name, ds the defaults that fill up -/
def Binds (K : PySem.W.Frag) (fd : FuncData) (ps : List Str) (ds : List Value) : Prop :=
  ∀ (s : Shared) (us : List Value), K.In s.heap → (us ++ ds).length = ps.length → BindsTo s fd ⟨us, []⟩ (ps.zip (us ++ ds))
/-- every parameter is given -/
theorem Binds.all {K : PySem.W.Frag} {fd : FuncData} {ps : List Str} (h : ∀ us : List Value, us.length = ps.length → bindArgs fd ⟨us, []⟩ = pure (ps.zip us)) : Binds K fd ps [] := fun s us _ hl => by
  rw [List.append_nil] at hl ⊢
  exact .of_eq (h us hl)

/-- an exception of a callee reaches what this body wants of exceptions -/
def Passes (CX : CXT) (X : Cx) (E : XK) : Prop := ∀ (pins : List (Addr × Obj)) (σ : St) (H : Hp) (s : Shared) (e : Value) (s' : Shared), Inv X pins σ H s → CX X.stack H s E e s' → X.xe e s'

section
variable {X : Cx} {CX : CXT} {k : Nat} {f C : Addr} {fd : FuncData} {ps : List Str} {sp : Sp} {dvs : List V} {ds : List Value} {E : XK} {x m : Str} {p pos apos : Pos} {e o : Expr} {es : List Expr} {ta : TE} {t : TA}

/-- the callee runs -/
theorem run_fn {pins : List (Addr × Obj)} {σ : St} {H : Hp} {s : Shared} {Q : VK} {us : List Value} {vs : List V} (F : FnOk X.prog X.w X.K X.mg X.base CX k f fd ps sp) (hr : Room k X.A) (hb : Binds X.K fd ps ds) (hd : Vals dvs ds) (hx : Passes CX X E)
    (I : Inv X pins σ H s) (r : Vals vs us) (h : sp (vs ++ dvs) H Q E) : wpAny (model X.prog X.w) X.A (call (.ref f) us) (EP X pins σ Q) X.xe s := by
  have r2 : Vals (vs ++ dvs) (us ++ ds) := r.append hd
  have hl : (us ++ ds).length = ps.length := by rw [← r2.length]; exact F.len _ _ _ _ h
  refine wpAny_call (codeAny_mono (F.run X.A X.stack s H ⟨us, []⟩ (us ++ ds) (vs ++ dvs) Q E hr I.env0 (hb s us I.kIn hl) r2 h) fun r s' hq => ?_)
  cases r with
  | error e => exact hx pins σ H s e s' I hq
  | ok fl =>
    cases fl with
    | ret u => exact I.after hq
    | next => exact False.elim hq
    | brk => exact False.elim hq
    | cont => exact False.elim hq

theorem pe_call (F : FnOk X.prog X.w X.K X.mg X.base CX k f fd ps sp) (hr : Room k X.A) (hg : Gl X x) (hm : X.mg x = some (.ref f)) (hk : PySem.W.keepIn X.K (.ref f) = true) (hb : Binds X.K fd ps ds) (hd : Vals dvs ds) (hx : Passes CX X E)
    (ha : PA X (e :: es) t) (hdb : (x == ("__debug__" : Str)) = false := by decide) (he : starEach (e :: es) X.env = (false, eval e X.env) :: starEach es X.env := by rfl) (hpl : (backTo pos (starEach es X.env)).any (·.1) = false := by rfl) :
    PE X (.Call (.Name x p) (e :: es) [] pos) (tCall sp dvs E t) := by
  intro pins s σ H Q I h
  refine wpAny_Call_Name_kw (ld_glob I hg hm ?_ hdb)
  refine PySem.W.callWith_K (h₀ := X.base) I.ok.mod.kin hk (thn (ha pos pins s σ H _ I h) fun us s1 ⟨vs, H1, I1, r, q⟩ => ⟨I1.kIn, ?_⟩) he hpl
  exact run_fn F hr hb hd hx I1 r q
theorem pe_call0 (F : FnOk X.prog X.w X.K X.mg X.base CX k f fd ps sp) (hr : Room k X.A) (hg : Gl X x) (hm : X.mg x = some (.ref f)) (hk : PySem.W.keepIn X.K (.ref f) = true) (hb : Binds X.K fd ps ds) (hd : Vals dvs ds) (hx : Passes CX X E)
    (hdb : (x == ("__debug__" : Str)) = false := by decide) : PE X (.Call (.Name x p) [] [] pos) (tCall sp dvs E tNil) := by
  intro pins s σ H Q I h
  refine wpAny_Call_Name_kw (ld_glob I hg hm ?_ hdb)
  exact PySem.W.callWith_K0 I.kIn hk (run_fn (us := []) F hr hb hd hx I .nil h)

/-- o.m(e, ..) -/
theorem pe_meth {pl : Sem Bool} (he : PE X o ta) (c : Cls X.K C) (hm : Meth X.K C m f) (F : FnOk X.prog X.w X.K X.mg X.base CX k f fd ps sp) (hr : Room k X.A) (hb : Binds X.K fd ps ds) (hd : Vals dvs ds) (hx : Passes CX X E) (ha : PA X (e :: es) t)
    (hst : starEach (e :: es) X.env = (false, eval e X.env) :: starEach es X.env := by rfl) (hpl : (backTo pos (starEach es X.env)).any (·.1) = false := by rfl)
    (ht : eval (.Call (.Attribute o m apos) (e :: es) [] pos) X.env = (do
      let ov ← eval o X.env
      standAt apos.atName
      let (f, first) ← holding [ov] (getMethod ov m pl)
      callWith pos f first (backTo pos (starEach (e :: es) X.env)) (backToKw pos (keywordEach [] X.env))) := by rfl) :
    PE X (.Call (.Attribute o m apos) (e :: es) [] pos) (tMeth C m sp dvs E ta t) := by
  intro pins s σ H Q I h
  refine PySem.W.methodCall_KW (pl := pl) (thn (he pins s σ H _ I h) fun u s1 ⟨x, H1, I1, rx, a, dx, fs, ex, ea, l, q⟩ => ?_) ht
  subst ex
  obtain rfl : u = Value.ref a := rx
  refine getmeth_ok I1 ea c hm l ?_
  refine PySem.W.callWith_K (first := [.ref a]) (h₀ := X.base) I.ok.mod.kin hm.kp (thn (ha pos pins s1 σ H1 _ I1 q) fun us s2 ⟨vs, H2, I2, r, q2⟩ => ⟨I2.kIn, ?_⟩) hst hpl
  exact run_fn (us := .ref a :: us) (vs := .ref a :: vs) F hr hb hd hx I2 (.cons rfl r) q2
/-- o.m() -/
theorem pe_meth0 {pl : Sem Bool} (he : PE X o ta) (c : Cls X.K C) (hm : Meth X.K C m f) (F : FnOk X.prog X.w X.K X.mg X.base CX k f fd ps sp) (hr : Room k X.A) (hb : Binds X.K fd ps ds) (hd : Vals dvs ds) (hx : Passes CX X E)
    (ht : eval (.Call (.Attribute o m apos) [] [] pos) X.env = (do
      let ov ← eval o X.env
      standAt apos.atName
      let (f, first) ← holding [ov] (getMethod ov m pl)
      callWith pos f first (backTo pos (starEach [] X.env)) (backToKw pos (keywordEach [] X.env))) := by rfl) :
    PE X (.Call (.Attribute o m apos) [] [] pos) (tMeth C m sp dvs E ta tNil) := by
  intro pins s σ H Q I h
  refine PySem.W.methodCall_KW (pl := pl) (thn (he pins s σ H _ I h) fun u s1 ⟨x, H1, I1, rx, a, dx, fs, ex, ea, l, q⟩ => ?_) ht
  subst ex
  obtain rfl : u = Value.ref a := rx
  refine getmeth_ok I1 ea c hm l ?_
  exact PySem.W.callWith_K0 (first := [.ref a]) I1.kIn hm.kp (run_fn (us := [.ref a]) (vs := [.ref a]) F hr hb hd hx I1 (.cons rfl .nil) q)

/-- what a class must have to be made -/
structure Mk (K : PySem.W.Frag) (C f : Addr) : Prop where
  makes : PySem.W.makesIn K C = true
  init : PySem.W.findIn K (.ref C) "__init__" = some (some (.ref f))
  fn : PySem.W.isFn K (.ref f) = true
  kp : PySem.W.keepIn K (.ref C) = true

theorem run_make {pins : List (Addr × Obj)} {σ : St} {H : Hp} {s : Shared} {Q : VK} {us : List Value} {vs : List V} (M : Mk X.K C f) (F : FnOk X.prog X.w X.K X.mg X.base CX k f fd ps sp) (hr : Room (k + 1) X.A) (hb : Binds X.K fd ps ds) (hd : Vals dvs ds)
    (hx : Passes CX X E) (I : Inv X pins σ H s) (r : Vals vs us)
    (h : ∀ x dx, H x = none → H dx = none → dx ≠ x → sp (.ref x :: (vs ++ dvs)) (upd (upd H dx (.own x)) x (.ins C dx [])) (fun v H2 => v = .non ∧ Q (.ref x) H2) E) :
    wpAny (model X.prog X.w) X.A (call (.ref C) us) (EP X pins σ Q) X.xe s := by
  have hq := h (s.heap.objs.size + 1) s.heap.objs.size (I.hok.fresh (Nat.le_succ _)) (I.hok.fresh (Nat.le_refl _)) (Nat.ne_of_lt (Nat.lt_succ_self _))
  have I2 := Inv.made (C := C) I
  have r2 : Vals (V.ref (s.heap.objs.size + 1) :: (vs ++ dvs)) (Value.ref (s.heap.objs.size + 1) :: (us ++ ds)) := .cons rfl (r.append hd)
  have hl : (Value.ref (s.heap.objs.size + 1) :: us ++ ds).length = ps.length := by
    have e := r2.length
    rw [F.len _ _ _ _ hq] at e
    exact e.symm
  refine wpAny_call (make_map (f := f) I.kIn M.makes M.init (beq_iff_eq.mp M.fn) (codeAny_mono (F.run _ X.stack _ _ ⟨Value.ref (s.heap.objs.size + 1) :: us, []⟩ (Value.ref (s.heap.objs.size + 1) :: (us ++ ds)) _ _ E (hr.make C us [])
    (I2.env0.make C us []) (hb _ (Value.ref (s.heap.objs.size + 1) :: us) I2.kIn hl) r2 hq) fun r s' hq' => ?_))
  cases r with
  | error e => exact hx pins σ _ _ e s' I2 hq'
  | ok fl =>
    cases fl with
    | ret u =>
      obtain ⟨v, H', I3, rv, ev, q3⟩ := I2.after hq'
      subst ev
      exact ⟨rv, ⟨V.ref (s.heap.objs.size + 1), H', I3, rfl, q3⟩⟩
    | next => exact False.elim hq'
    | brk => exact False.elim hq'
    | cont => exact False.elim hq'
theorem pe_make (M : Mk X.K C f) (F : FnOk X.prog X.w X.K X.mg X.base CX k f fd ps sp) (hr : Room (k + 1) X.A) (hg : Gl X x) (hm : X.mg x = some (.ref C)) (hb : Binds X.K fd ps ds) (hd : Vals dvs ds) (hx : Passes CX X E)
    (ha : PA X (e :: es) t) (hdb : (x == ("__debug__" : Str)) = false := by decide) (he : starEach (e :: es) X.env = (false, eval e X.env) :: starEach es X.env := by rfl) (hpl : (backTo pos (starEach es X.env)).any (·.1) = false := by rfl) :
    PE X (.Call (.Name x p) (e :: es) [] pos) (tMake C sp dvs E t) := by
  intro pins s σ H Q I h
  refine wpAny_Call_Name_kw (ld_glob I hg hm ?_ hdb)
  refine PySem.W.callWith_K (h₀ := X.base) I.ok.mod.kin M.kp (thn (ha pos pins s σ H _ I h) fun us s1 ⟨vs, H1, I1, r, q⟩ => ⟨I1.kIn, ?_⟩) he hpl
  exact run_make M F hr hb hd hx I1 r q
theorem pe_make0 (M : Mk X.K C f) (F : FnOk X.prog X.w X.K X.mg X.base CX k f fd ps sp) (hr : Room (k + 1) X.A) (hg : Gl X x) (hm : X.mg x = some (.ref C)) (hb : Binds X.K fd ps ds) (hd : Vals dvs ds) (hx : Passes CX X E)
    (hdb : (x == ("__debug__" : Str)) = false := by decide) : PE X (.Call (.Name x p) [] [] pos) (tMake C sp dvs E tNil) := by
  intro pins s σ H Q I h
  refine wpAny_Call_Name_kw (ld_glob I hg hm ?_ hdb)
  exact PySem.W.callWith_K0 I.kIn M.kp (run_make (us := []) M F hr hb hd hx I .nil h)
end

/-! ### keywords -/
/-- the values of the keywords, from the left -/
def PK (X : Cx) (kws : List Keyword) (t : TA) : Prop :=
  ∀ (pos : Pos) (pins : List (Addr × Obj)) (s : Shared) (σ : St) (H : Hp) (Q : List V → Hp → Prop), Inv X pins σ H s → t σ H Q → wpAny (model X.prog X.w) X.A (evalAll ((backToKw pos (keywordEach kws X.env)).map (·.2))) (AP X pins σ Q) X.xe s
section
variable {X : Cx} {CX : CXT} {k : Nat} {f C : Addr} {fd : FuncData} {ps ks : List Str} {sp : Sp} {E : XK} {x m : Str} {p pos apos kpos : Pos} {e o : Expr} {es : List Expr} {kws : List Keyword} {te ta : TE} {t tk : TA} {nm : Option Str}
theorem pk_nil : PK X [] tNil := fun _ _ _ _ H Q I h => wpAny_evalAll_nil ⟨[], H, I, .nil, h⟩
theorem pk_cons (ha : PE X e te) (hr : PK X kws t) : PK X (⟨nm, e, kpos⟩ :: kws) (tCons te t) := by
  intro pos pins s σ H Q I h
  show wpAny _ _ (evalAll ((do let v ← eval e X.env; standAt pos; pure v) :: (backToKw pos (keywordEach kws X.env)).map (·.2))) _ _ s
  refine wpAny_evalAll_cons (wpAny_bind (thn (ha pins s σ H _ I h) fun u s1 ⟨x, H1, I1, r1, q1⟩ => wpAny_bind (wpAny_standAt (wpAny_pure ?_))))
  exact thn (hr pos pins s1 σ H1 _ I1 q1) fun us s2 ⟨xs, H2, I2, r2, q2⟩ => ⟨x :: xs, H2, I2, .cons r1 r2, q2⟩

/-- how a call with keywords binds: g puts the positional values us and the keywords' values ws (names ks) in the parameters' order, defaults among them -/
structure KBinds (K : PySem.W.Frag) (fd : FuncData) (ps ks : List Str) (g : List Value → List Value → List Value) (gV : List V → List V → List V) : Prop where
  to : ∀ (s : Shared) (us ws : List Value), K.In s.heap → (g us ws).length = ps.length → BindsTo s fd ⟨us, ks.zip ws⟩ (ps.zip (g us ws))
  rel : ∀ {vs : List V} {us : List Value} {zs : List V} {ws : List Value}, Vals vs us → Vals zs ws → Vals (gV vs zs) (g us ws)
def tCallK (sp : Sp) (gV : List V → List V → List V) (E : XK) (t tk : TA) : TE := fun σ H Q => t σ H fun vs H1 => tk σ H1 fun zs H2 => sp (gV vs zs) H2 Q E
variable {g : List Value → List Value → List Value} {gV : List V → List V → List V}
theorem run_fnk {pins : List (Addr × Obj)} {σ : St} {H : Hp} {s : Shared} {Q : VK} {us ws : List Value} {vs zs : List V} (F : FnOk X.prog X.w X.K X.mg X.base CX k f fd ps sp) (hr : Room k X.A) (hb : KBinds X.K fd ps ks g gV) (hx : Passes CX X E)
    (I : Inv X pins σ H s) (r : Vals vs us) (rz : Vals zs ws) (h : sp (gV vs zs) H Q E) : wpAny (model X.prog X.w) X.A (call (.ref f) us (ks.zip ws)) (EP X pins σ Q) X.xe s := by
  have r2 := hb.rel r rz
  have hl : (g us ws).length = ps.length := by rw [← r2.length]; exact F.len _ _ _ _ h
  refine wpAny_call (codeAny_mono (F.run X.A X.stack s H ⟨us, ks.zip ws⟩ (g us ws) (gV vs zs) Q E hr I.env0 (hb.to s us ws I.kIn hl) r2 h) fun r s' hq => ?_)
  cases r with
  | error e => exact hx pins σ H s e s' I hq
  | ok fl =>
    cases fl with
    | ret u => exact I.after hq
    | next => exact False.elim hq
    | brk => exact False.elim hq
    | cont => exact False.elim hq
/-- f(e, .., k = v, ..) -/
theorem pe_callK (F : FnOk X.prog X.w X.K X.mg X.base CX k f fd ps sp) (hr : Room k X.A) (hg : Gl X x) (hm : X.mg x = some (.ref f)) (hk : PySem.W.keepIn X.K (.ref f) = true) (hb : KBinds X.K fd ps ks g gV) (hx : Passes CX X E)
    (ha : PA X (e :: es) t) (hkw : PK X kws tk) (hall : (backToKw pos (keywordEach kws X.env)).all (·.1.isSome) = true := by rfl) (hks : (backToKw pos (keywordEach kws X.env)).filterMap (·.1) = ks := by rfl)
    (hdb : (x == ("__debug__" : Str)) = false := by decide) (he : starEach (e :: es) X.env = (false, eval e X.env) :: starEach es X.env := by rfl)
    (hpl : ((backTo pos (starEach (e :: es) X.env)).any (·.1) || (backToKw pos (keywordEach kws X.env)).any (·.1.isNone)) = false := by rfl) :
    PE X (.Call (.Name x p) (e :: es) kws pos) (tCallK sp gV E t tk) := by
  intro pins s σ H Q I h
  refine wpAny_Call_Name_kw (ld_glob I hg hm ?_ hdb)
  refine PySem.W.callWith_KW (h₀ := X.base) I.ok.mod.kin hk hall (thn (ha pos pins s σ H _ I h) fun us s1 ⟨vs, H1, I1, r, q⟩ => ?_) hpl he
  refine thn (hkw pos pins s1 σ H1 _ I1 q) fun ws s2 ⟨zs, H2, I2, rz, q2⟩ => ⟨I2.kIn, ?_⟩
  rw [hks]
  exact run_fnk F hr hb hx I2 r rz q2
end

/-! ### a def's body keeps its promise -/
/-- names: the parameters first -/
structure FnScope (N P : List Str) (sc : Scope) : Prop where
  kind : sc.kind = .function
  co : sc.isCoroutine = false
  gen : sc.isGenerator = false
  nd : N.Nodup
  pre : N.take P.length = P
  par : ∀ x ∈ P, sc.names.lookup x = some .local ∨ sc.names.lookup x = some .cell
  nofree : ∀ y ∈ sc.names, y.2 ≠ .free

theorem bindL_out {kindOf : Str → Option NameKind} {x : Str} : ∀ {binds : List (Str × Value)} {m : Str → Option Value}, (∀ v, (x, v) ∉ binds) → bindL kindOf binds m x = m x
  | [], _, _ => rfl
  | (n, v) :: r, m, h => by
    unfold bindL
    rw [bindL_out fun w hw => h w (List.mem_cons_of_mem _ hw)]
    split
    · have : x ≠ n := by rintro rfl; exact h v List.mem_cons_self
      simp [this]
    · rfl
theorem bindC_out {kindOf : Str → Option NameKind} {x : Str} : ∀ {binds : List (Str × Value)} {m : Str → Option Value}, (∀ v, (x, v) ∉ binds) → bindC kindOf binds m x = m x
  | [], _, _ => rfl
  | (n, v) :: r, m, h => by
    unfold bindC
    rw [bindC_out fun w hw => h w (List.mem_cons_of_mem _ hw)]
    split
    · rfl
    · have : x ≠ n := by rintro rfl; exact h v List.mem_cons_self
      simp [this]
theorem bindL_get {kindOf : Str → Option NameKind} {x : Str} {v : Value} : ∀ {P : List Str} {vs : List Value} {i : Nat} {m : Str → Option Value}, P.Nodup → P[i]? = some x → vs[i]? = some v → kindOf x = some .local →
    bindL kindOf (P.zip vs) m x = some v
  | [], _, _, _, _, h, _, _ => by simp at h
  | _ :: _, [], _, _, _, _, h, _ => by simp at h
  | p :: P, w :: vs, 0, m, nd, h1, h2, hk => by
    simp at h1 h2; subst h1; subst h2
    show bindL kindOf ((p, w) :: P.zip vs) m p = _
    unfold bindL
    rw [bindL_out fun v hv => (List.nodup_cons.mp nd).1 (List.of_mem_zip hv).1, if_pos hk]
    simp
  | p :: P, w :: vs, i + 1, m, nd, h1, h2, hk => by
    show bindL kindOf ((p, w) :: P.zip vs) m x = _
    unfold bindL
    exact bindL_get (i := i) (List.nodup_cons.mp nd).2 (by simpa using h1) (by simpa using h2) hk
theorem bindC_get {kindOf : Str → Option NameKind} {x : Str} {v : Value} : ∀ {P : List Str} {vs : List Value} {i : Nat} {m : Str → Option Value}, P.Nodup → P[i]? = some x → vs[i]? = some v → kindOf x ≠ some .local →
    bindC kindOf (P.zip vs) m x = some v
  | [], _, _, _, _, h, _, _ => by simp at h
  | _ :: _, [], _, _, _, _, h, _ => by simp at h
  | p :: P, w :: vs, 0, m, nd, h1, h2, hk => by
    simp at h1 h2; subst h1; subst h2
    show bindC kindOf ((p, w) :: P.zip vs) m p = _
    unfold bindC
    rw [bindC_out fun v hv => (List.nodup_cons.mp nd).1 (List.of_mem_zip hv).1, if_neg hk]
    simp
  | p :: P, w :: vs, i + 1, m, nd, h1, h2, hk => by
    show bindC kindOf ((p, w) :: P.zip vs) m x = _
    unfold bindC
    exact bindC_get (i := i) (List.nodup_cons.mp nd).2 (by simpa using h1) (by simpa using h2) hk

/-- the names' values at the entry -/
def start (N : List Str) (vs : List V) : St := vs.map some ++ List.replicate (N.length - vs.length) none

/-- the context of a def's body, at its entry; an exception leaves the frame, then lies as CX says -/
def cxOf (CX : CXT) (P : Program) (w : World) (K : PySem.W.Frag) (mg : Str → Option Value) (base : Heap) (N : List Str) (qual : Str) (scope : Scope) (f : Addr) (cd : Value) (A : Around) (outer : List Env) (s : Shared) (H : Hp) (E : XK) : Cx where
  prog := P
  w := w
  K := K
  mg := mg
  base := base
  A := A.deeper (envOfC qual scope s.heap.objs.size f cd)
  N := N
  s₀ := s
  H₀ := H
  env := envOfC qual scope s.heap.objs.size f cd
  outer := outer
  stack := envOfC qual scope s.heap.objs.size f cd :: outer
  ex := []
  calm := true
  fn := fun _ => true
  pn := []
  xe := fun e s' => wpAny (model P w) (A.deeper (envOfC qual scope s.heap.objs.size f cd)) (leaving (envOfC qual scope s.heap.objs.size f cd) e) (fun _ s'' => CX outer H s E e s'') (fun e' s'' => CX outer H s E e' s'') s'

theorem cell_has {sc : Scope} {n : Nat} {x : Str} (h : sc.names.lookup x = some .cell) : ∃ c, (cellsFrom n sc.names []).lookup x = some c := by
  have q := PySem.W.cellsFrom_some sc.names n [] (.inl h)
  exact Option.isSome_iff_exists.mp q

theorem inv_start {CX : CXT} {P : Program} {w : World} {K : PySem.W.Frag} {mg : Str → Option Value} {base : Heap} {N ps : List Str} {qual : Str} {scope : Scope} {f : Addr} {cd : Value} {A : Around} {outer : List Env} {s s1 : Shared} {H : Hp} {E : XK} {us : List Value} {vs : List V}
    (S : FnScope N ps scope) (hd : A.handled = none) (e0 : Env0 P w K mg base A outer s H) (hl : vs.length = ps.length) (r : Vals vs us)
    (x : InCallC s s.heap.objs.size (bindL (envOfC qual scope s.heap.objs.size f cd).kindOf (ps.zip us) fun _ => none) (cellsFrom (s.heap.objs.size + 1) scope.names []) (bindC (envOfC qual scope s.heap.objs.size f cd).kindOf (ps.zip us) fun _ => none) s1) :
    Inv (cxOf CX P w K mg base N qual scope f cd A outer s H E) [] (start N vs) H s1 := by
  have hpl : ps.length ≤ N.length := by have := congrArg List.length S.pre; rw [List.length_take] at this; omega
  obtain ⟨h1, tk, rfl, hk⟩ := x.done
  have noA : ∀ b : Addr, b ∉ (cxOf CX P w K mg base N qual scope f cd A outer s H E).ex := fun b z => absurd (show b ∈ ([] : List Addr) from z) (by simp)
  refine ⟨⟨e0.mod, S.kind, rfl, rfl, Nat.le_refl _, fun y z c h1 h2 => ?_, fun y hy => ?_, fun y c _ h => ?_, fun _ => hd, Around.frames_deeper e0.frames, .inr ⟨rfl, rfl⟩, fun b z => absurd z (noA b), e0.bs, e0.bsz, fun b _ _ => noA b, fun b z => absurd z (noA b), e0.funs, e0.frf⟩,
    rfl, e0.bare, Un.kept hk, ⟨_, x.toInCall.ns, fun i y v h1 h2 h3 => ?_⟩, fun y c h => ⟨_, x.cell y c h⟩, e0.hok.fresh (Nat.le_refl _), fun y c h => ?_, fun p hp => absurd (show p ∈ ([] : List (Addr × Obj)) from hp) (by simp), e0.hok.kept hk, ?_⟩
  · exact name_of_addr x.apart (PySem.mem_of_lookup h1) (PySem.mem_of_lookup h2)
  · have hy : scope.names.lookup y = some .cell ∨ scope.names.lookup y = some .free := hy
    rcases hy with hy | hy
    · exact cell_has hy
    · exact absurd rfl (S.nofree _ (PySem.mem_of_lookup hy))
  · exact Nat.le_of_lt (x.above y c (PySem.mem_of_lookup h))
  · have hi : i < vs.length := by
      unfold start at h2
      by_cases hi : i < vs.length
      · exact hi
      · rw [List.getElem?_append_right (by simpa using hi)] at h2
        rw [List.getElem?_replicate] at h2
        split at h2 <;> cases h2
    have ha : vs[i]? = some v := by
      unfold start at h2
      rw [List.getElem?_append_left (by simpa using hi), List.getElem?_map] at h2
      cases e : vs[i]? with
      | none => rw [e] at h2; cases h2
      | some a => rw [e] at h2; cases h2; rfl
    obtain ⟨u, hu, rv⟩ := r.get ha
    have hp : ps[i]? = some y := by
      rw [← S.pre, List.getElem?_take_of_lt (by omega)]; exact h1
    have ndP : ps.Nodup := by rw [← S.pre]; exact S.nd.sublist (List.take_sublist _ _)
    refine ⟨u, rv, ?_⟩
    rcases S.par y (List.mem_of_getElem? hp) with k | k
    · exact .inl ⟨k, bindL_get ndP hp hu k⟩
    · obtain ⟨c, e⟩ := cell_has (n := s.heap.objs.size + 1) k
      refine .inr ⟨.inl k, c, e, ?_⟩
      have q := x.cell y c e
      rw [bindC_get ndP hp hu (by show scope.names.lookup y ≠ _; rw [k]; decide)] at q
      exact q
  · exact e0.hok.fresh (Nat.le_of_lt (x.above y c (PySem.mem_of_lookup h)))
  · unfold start
    show _ = N.length
    rw [List.length_append, List.length_map, List.length_replicate]
    omega

/-- THE RULE: a def (or a method) of the text, by its body. The body's reading t is chosen for each entry; it is run at the parameters' values -/
theorem fn_of {CX : CXT} {P : Program} {w : World} {K : PySem.W.Frag} {mg : Str → Option Value} {base : Heap} {k : Nat} {f : Addr} {name qual : Str} {params : Arguments} {body : List Stmt} {scope : Scope} {dV kV doc pm cdv ct oc : Value} {an od : Option Addr}
    {osl : Array (Option Value)} {N ps : List Str} {sp : Sp} (lk : K.lookup f = some ⟨oc, od, .func (PySem.W.fnOf name qual params body scope dV kV doc pm an cdv ct), osl⟩) (hcd : PySem.W.codeIn K cdv qual = true) (S : FnScope N ps scope)
    (len : ∀ vs H Q E, sp vs H Q E → vs.length = ps.length)
    (hbody : ∀ (A : Around) (outer : List Env) (s : Shared) (H : Hp) (vs : List V) (Q : VK) (E : XK), Room k (A.deeper (envOfC qual scope s.heap.objs.size f cdv)) → sp vs H Q E →
      ∃ t, PSs (cxOf CX P w K mg base N qual scope f cdv A outer s H E) body t ∧ t { nx := fun _ H' => Q .non H', rt := Q } (start N vs) H) :
    FnOk P w K mg base CX (k + 1) f (PySem.W.fnOf name qual params body scope dV kV doc pm an cdv ct) ps sp := by
  refine ⟨len, fun A outer s H args us vs Q E hr e0 hb r hsp => ?_⟩
  have hl := len _ _ _ _ hsp
  have KX : K.In s.heap := e0.mod.kin.keeps fun b o e => (e0.bs b o e).1
  have lim : s.heap.NoLimit := e0.mod.nolimit.keeps fun b o e => (e0.bs b o e).1
  have hkind : ∀ y ∈ ps.zip us, scope.names.lookup y.1 = some .local ∨ (scope.names.lookup y.1 = some .cell ∧ ((cellsFrom (s.heap.objs.size + 1) scope.names []).lookup y.1).isSome = true) := fun ⟨n, v⟩ hy => by
    rcases S.par n (List.of_mem_zip hy).1 with q | q
    · exact .inl q
    · exact .inr ⟨q, PySem.W.cellsFrom_some _ _ _ (.inl q)⟩
  refine codeAny_call_function hr.depth (KX _ _ lk) rfl S.co S.gen rfl (PySem.W.codeRec_of KX hcd) (hb _ _ _ _ ?_)
  refine wpAny_newFunctionEnv_cells S.kind hkind fun env he s1 x => ?_
  subst he
  refine ⟨lim.keeps x.toInCall.keep, codeAny_func ?_⟩
  obtain ⟨t, ht, hq⟩ := hbody A outer s H vs Q E (hr.deeper _) hsp
  have I : Inv (cxOf CX P w K mg base N qual scope f cdv A outer s H E) [] (start N vs) H s1 := inv_start S hr.hd e0 hl r x
  refine wpAny_mono (ht [] s1 (start N vs) H _ I hq) (fun fl s' hs => ?_) fun e s' hs => hs
  have fin : ∀ {σ' : St} {H' : Hp} {v : V} {u : Value}, Inv (cxOf CX P w K mg base N qual scope f cdv A outer s H E) [] σ' H' s' → RelV v u → Q v H' → CE outer P w H s Q u s' :=
    fun {σ' H' v u} J rv q => ⟨v, H', J.os, J.bare, J.base, J.hok, rv, q⟩
  cases fl with
  | ret u =>
    obtain ⟨v, σ', H', J, rv, q⟩ := hs
    exact fin J rv q
  | next =>
    obtain ⟨σ', H', J, q⟩ := hs
    exact fin (v := V.non) (u := Value.none) J rfl q
  | brk =>
    obtain ⟨_, _, _, q⟩ := hs
    exact False.elim q
  | cont =>
    obtain ⟨_, _, _, q⟩ := hs
    exact False.elim q
end L2

namespace L2
open PySem PySem.Spec PyProof.Rows
section
variable {X : Cx} {x : Str} {p pos : Pos} {e : Expr} {es : List Expr} {t : TA} {id T : String} {r : List V → Hp → VK → Prop}

def tCB (r : List V → Hp → VK → Prop) (t : TA) : TE := fun σ H Q => t σ H fun vs H1 => r vs H1 Q
/-- f(e, ..), f a built-in function -/
theorem pe_callB (hc : CallR X (.builtin id) r) (hg : Gl X x) (hm : X.mg x = none) (hv : bootBuiltins x = some (.builtin id)) (ha : PA X (e :: es) t) (hn : x ≠ "__name__" := by decide) (hdb : (x == ("__debug__" : Str)) = false := by decide)
    (he : starEach (e :: es) X.env = (false, eval e X.env) :: starEach es X.env := by rfl) (hpl : (backTo pos (starEach es X.env)).any (·.1) = false := by rfl) : PE X (.Call (.Name x p) (e :: es) [] pos) (tCB r t) := by
  intro pins s σ H Q I h
  refine wpAny_Call_Name_kw (ld_blt I hg hm hv ?_ hn hdb)
  exact PyProof.Rows.callWith_builtin1 (thn (ha pos pins s σ H _ I h) fun us s1 ⟨vs, H1, I1, r1, q1⟩ => hc pins s1 σ H1 vs us Q I1 r1 q1) he hpl
/-- T(e, ..), T a built-in type -/
theorem pe_callTy (hc : CallR X (.type T) r) (hg : Gl X x) (hm : X.mg x = none) (hv : bootBuiltins x = some (.type T)) (ha : PA X (e :: es) t) (hn : x ≠ "__name__" := by decide) (hdb : (x == ("__debug__" : Str)) = false := by decide)
    (he : starEach (e :: es) X.env = (false, eval e X.env) :: starEach es X.env := by rfl) (hpl : (backTo pos (starEach es X.env)).any (·.1) = false := by rfl) : PE X (.Call (.Name x p) (e :: es) [] pos) (tCB r t) := by
  intro pins s σ H Q I h
  refine wpAny_Call_Name_kw (ld_blt I hg hm hv ?_ hn hdb)
  exact PyProof.Rows.callWith_type1 (thn (ha pos pins s σ H _ I h) fun us s1 ⟨vs, H1, I1, r1, q1⟩ => hc pins s1 σ H1 vs us Q I1 r1 q1) he hpl
/-- T() -/
theorem pe_callTy0 (hc : CallR X (.type T) r) (hg : Gl X x) (hm : X.mg x = none) (hv : bootBuiltins x = some (.type T)) (hn : x ≠ "__name__" := by decide) (hdb : (x == ("__debug__" : Str)) = false := by decide) :
    PE X (.Call (.Name x p) [] [] pos) (tCB r tNil) := by
  intro pins s σ H Q I h
  refine wpAny_Call_Name_kw (ld_blt I hg hm hv ?_ hn hdb)
  exact PyProof.Rows.callWith_type0 (hc pins s σ H [] [] Q I .nil h)
end
end L2

namespace HT
open PySem PyProof.Rows

/-- t < u of tuples of ints -/
def lexLt : List Int → List Int → Bool
  | [], [] => false
  | [], _ :: _ => true
  | _ :: _, [] => false
  | x :: xs, y :: ys => if x = y then lexLt xs ys else decide (x < y)
theorem lexLt_cons (x y : Int) (xs ys : List Int) : lexLt (x :: xs) (y :: ys) = if x = y then lexLt xs ys else decide (x < y) := rfl
theorem lexLt_nil_nil : lexLt [] [] = false := rfl
theorem lexLt_nil_cons (y : Int) (ys : List Int) : lexLt [] (y :: ys) = true := rfl
theorem lexLt_cons_nil (x : Int) (xs : List Int) : lexLt (x :: xs) [] = false := rfl

theorem eqAt_int (A : Around) (s : Shared) (a : Int) (t : Tok) (c : Int) (u : Tok) : ∃ e, SeqAt.EqAt A s (.int a t) (.int c u) e ∧ (e = true ↔ a = c) :=
  ⟨(a == c), SeqAt.EqAt.int_int a t c u, by simp⟩
theorem rcLt_int (A : Around) (s : Shared) (a : Int) (t : Tok) (c : Int) (u : Tok) (prog : Program) (w : World) (E : Value → Shared → Prop) (Q : Value → Shared → Prop) (h : Q (.bool (decide (a < c))) s) :
    wpAny (model prog w) A (richCompare .Lt (.int a t) (.int c u)) Q E s :=
  (PyProof.Rows.lt_int h : wpAny (model prog w) A (compareOp .Lt (.int a t) (.int c u)) Q E s)

section
open PySem.SeqAt
open PySem.AutoSeq1 (wpAny_loadPart')
open PySem.MeetsSeq PySem.MeetsSeq2 PySem.MeetsSeq3

theorem tuple_lt_ints (l b : Addr) (items items2 : Array Value) (n n2 : Nat) (dd dd2 : Option Addr) (sl sl2 : Array (Option Value)) (ns ms : List Int) (hi : IntsAre items.toList ns) (hj : IntsAre items2.toList ms) :
    Meets (Builtin.«tuple.__lt__» ⟨[.ref l, .ref b], []⟩)
      (fun _ R s => s.heap.get? l = some { cls := .type "tuple", dict := dd, data := .seq items n, slots := sl } ∧ s.heap.get? b = some { cls := .type "tuple", dict := dd2, data := .seq items2 n2, slots := sl2 } ∧
        R (.ok (.ret (.bool (lexLt ns ms)))) s) :=
  .of_wp fun prog w A R s h => by
    obtain ⟨hp, g, d, tk, os⟩ := s; obtain ⟨hl, hb, h⟩ := h
    have f2 := AutoSeq1.sub_tuple_tuple
    have z1 : items.size = ns.length := by rw [← hi.length]; simp
    have z2 : items2.size = ms.length := by rw [← hj.length]; simp
    wp_walk using wpAny_loadPart' hl, wpAny_loadPart' hb, wpAny_forIn_list _ (fun rest b s' => b.1 = none ∧ s' = ⟨hp, g, d, tk, os⟩ ∧ ∃ (vs ws : List Value) (ns' ms' : List Int), rest = vs.zip ws ∧
      IntsAre vs ns' ∧ IntsAre ws ms' ∧ ns'.length + items2.size = ms'.length + items.size ∧ R (.ok (.ret (.bool (lexLt ns' ms')))) ⟨hp, g, d, tk, os⟩) _
    case turn =>
      rintro ⟨y, x⟩ rest b s' ⟨hb', rfl, vs, ws, ns', ms', hz, hvi, hwi, hlen, hR⟩
      cases hvi with
      | nil => rw [List.zip_nil_left] at hz; cases hz
      | cons a t hvi' =>
        cases hwi with
        | nil => rw [List.zip_nil_right] at hz; cases hz
        | cons c u hwi' =>
          rw [List.zip_cons_cons] at hz
          injection hz with hyx hrest
          injection hyx with hy hx
          subst hy hx
          rw [lexLt_cons] at hR
          simp only [List.length_cons] at hlen
          obtain ⟨e, he, hiff⟩ := eqAt_int A.in1 ⟨hp, g, d, tk, os⟩ a t c u
          refine wpAny_bind (he prog w _ _ ?_)
          cases e with
          | true =>
            rw [if_pos (hiff.mp rfl)] at hR
            wp_walk
            exact ⟨rfl, rfl, _, _, _, _, hrest, hvi', hwi', by omega, hR⟩
          | false =>
            rw [if_neg (fun q => absurd (hiff.mpr q) Bool.false_ne_true)] at hR
            have hri := rcLt_int A.in1 ⟨hp, g, d, tk, os⟩ a t c u prog w
            wp_walk using hri
            exact ⟨_, rfl, by simpa using hR⟩
    case fin =>
      rintro ⟨b1, b2⟩ s' ⟨hb', rfl, vs, ws, ns', ms', hz, hvi, hwi, hlen, hR⟩
      simp only at hb'
      subst hb'
      have hv : lexLt ns' ms' = decide (items.size < items2.size) := by
        cases hvi with
        | nil =>
          cases hwi with
          | nil =>
            simp only [List.length_nil] at hlen
            rw [lexLt_nil_nil]
            exact (decide_eq_false (by omega)).symm
          | cons c u hw =>
            simp only [List.length_nil, List.length_cons] at hlen
            rw [lexLt_nil_cons]
            exact (decide_eq_true (by omega)).symm
        | cons a t hv =>
          cases hwi with
          | nil =>
            simp only [List.length_nil, List.length_cons] at hlen
            rw [lexLt_cons_nil]
            exact (decide_eq_false (by omega)).symm
          | cons c u hw =>
            rw [List.zip_cons_cons] at hz
            cases hz
      rw [hv] at hR
      wp_walk
      exact ⟨_, rfl, by simpa [Builtin.Tuple.tupleCompareSizes] using hR⟩
    case h =>
      exact ⟨rfl, rfl, items.toList, items2.toList, ns, ms, rfl, hi, hj, by omega, h⟩
end

section
variable {prog : Program} {w : World} {A : Around} {E : Value → Shared → Prop} {s : Shared}

theorem lt_tupInts {l b : Addr} {items items2 : Array Value} {ns ms : List Int} {Q : Value → Shared → Prop} (hl : IsTup s.heap l items) (hb : IsTup s.heap b items2) (hi : IntsAre items.toList ns) (hj : IntsAre items2.toList ms)
    (hu : A.units < cLine) (h : Q (.bool (lexLt ns ms)) s) : wpAny (model prog w) A (compareOp .Lt (.ref l) (.ref b)) Q E s := by
  obtain ⟨⟨cls, dd, data, sl⟩, ho, hc, n, hd⟩ := id hl
  obtain ⟨⟨cls2, dd2, data2, sl2⟩, ho2, hc2, n2, hd2⟩ := id hb
  simp only at hc hd hc2 hd2
  subst hc hd hc2 hd2
  exact richCompare_meets_room (op := .Lt) ⟨_, ho, rfl⟩ ⟨_, ho2, rfl⟩ PySem.F.slot_tuple_lt PySem.F.entry_tuple_lt (PySem.F.args_tuple_lt_2 _ _) (tuple_lt_ints l b items items2 n n2 dd dd2 sl sl2 ns ms hi hj)
    ⟨ho, ho2, show Value.bool (lexLt ns ms) ≠ Value.notImplemented ∧ Q (.bool (lexLt ns ms)) s from ⟨(fun x => nomatch x), h⟩⟩ hu

/-- t + u, t not empty -/
theorem cat_tup {t b : Addr} {vs ws : List Value} {Q : Value → Shared → Prop} (ht : IsTup s.heap t vs.toArray) (hb : IsTup s.heap b ws.toArray) (hv : vs ≠ [])
    (h1 : ws = [] → Q (.ref t) s) (h2 : ws ≠ [] → Q (.ref s.heap.objs.size) { s with heap := s.heap.push { cls := .type "tuple", data := .seq (vs ++ ws).toArray } })
    (hsz : vs.length + ws.length ≤ sizeLine) : wpAny (model prog w) A (binaryOp .Add (.ref t) (.ref b)) Q E s := by
  obtain ⟨⟨cls, dd, data, sl⟩, ho, hc, n, hd⟩ := id ht
  obtain ⟨⟨cls2, dd2, data2, sl2⟩, ho2, hc2, n2, hd2⟩ := id hb
  simp only at hc hd hc2 hd2
  subst hc hd hc2 hd2
  have e : vs.toArray ++ ws.toArray = (vs ++ ws).toArray := by simp
  by_cases hw : ws = []
  · exact concat_meets ⟨_, ho, rfl⟩ ⟨_, ho2, rfl⟩ noFill_tuple_add seq_tuple_add PySem.F.slot_tuple_add PySem.F.entry_tuple_add (PySem.F.args_tuple_add_2 _ _)
      (tuple_addW1 t b vs.toArray ws.toArray n n2 dd dd2 sl sl2 (by simpa using hv) (by simp [hw])) ⟨ho, ho2, h1 hw⟩
  · refine concat_meets ⟨_, ho, rfl⟩ ⟨_, ho2, rfl⟩ noFill_tuple_add seq_tuple_add PySem.F.slot_tuple_add PySem.F.entry_tuple_add (PySem.F.args_tuple_add_2 _ _)
      (tuple_addW2 t b vs.toArray ws.toArray n n2 dd dd2 sl sl2 (by simpa using hv) (by simpa using hw) (by rw [List.size_toArray, List.size_toArray]; exact hsz)) ⟨ho, ho2, ?_⟩
    rw [e]
    exact h2 hw

/-! ### t[a:b], not the whole -/
/-- a slice's bound as a place among n (d where it is left out) -/
def sIx (n d : Nat) : Option Int → Nat
  | none => d
  | some v => if v < 0 then (v + (n : Int)).toNat else min v.toNat n
theorem sIx_none (n d : Nat) : sIx n d none = d := rfl
theorem sIx_nat (n d k : Nat) : sIx n d (some (k : Int)) = min k n := by
  show (if (k : Int) < 0 then ((k : Int) + (n : Int)).toNat else min (k : Int).toNat n) = min k n
  rw [if_neg (by omega), Int.toNat_natCast]
theorem sIx_le (n d : Nat) (hd : d ≤ n) (o : Option Int) : sIx n d o ≤ n := by
  cases o with
  | none => exact hd
  | some v =>
    show (if v < 0 then (v + (n : Int)).toNat else min v.toNat n) ≤ n
    by_cases hv : v < 0
    · rw [if_pos hv]; omega
    · rw [if_neg hv]; exact Nat.min_le_right _ _
theorem clip_eq (v : Int) (n d : Nat) : (if v < 0 then max (v + (n : Int)) 0 else min v (n : Int)) = ((sIx n d (some v) : Nat) : Int) := by
  show (if v < 0 then max (v + (n : Int)) 0 else min v (n : Int)) = (((if v < 0 then (v + (n : Int)).toNat else min v.toNat n) : Nat) : Int)
  by_cases hv : v < 0
  · simp only [if_pos hv]; omega
  · simp only [if_neg hv]; omega
theorem adjust_gen (lo hi : Option Int) (n : Nat) : Builtin.Slice.sliceAdjust lo hi 1 (n : Int) = (((sIx n 0 lo : Nat) : Int), ((sIx n n hi : Nat) : Int)) := by
  have h1 : ¬ ((1 : Int) < 0) := by omega
  unfold Builtin.Slice.sliceAdjust
  simp only [h1, if_false]
  refine Prod.ext ?_ ?_
  · cases lo with
    | none => rfl
    | some v => exact clip_eq v n 0
  · cases hi with
    | none => rfl
    | some v => exact clip_eq v n n
theorem places_gen (i j : Nat) : Builtin.Slice.slicePlaces (i : Int) (j : Int) 1 = j - i := by
  unfold Builtin.Slice.slicePlaces
  have h1 : (1 : Int) > 0 := by omega
  simp only [h1, if_true, Int.ediv_one]
  split <;> omega
theorem slicePart_ {v : Value} {o : Option Int} {Q : Option Int → Shared → Prop} (p : IsPart v o) (h : Q o s) : wpAny (model prog w) A (Builtin.Slice.slicePartIndex v) Q E s := by
  cases p with
  | none => exact slicePart_none h
  | int i t => exact slicePart_int h
theorem sliceApplied_gen {sl : Addr} {vl vu : Value} {lo hi : Option Int} {n : Nat} {Q : Int × Int × Nat → Shared → Prop} (hs : s.heap.IsSliceOf sl vl vu .none) (pl : IsPart vl lo) (pu : IsPart vu hi)
    (h : Q (((sIx n 0 lo : Nat) : Int), 1, sIx n n hi - sIx n 0 lo) s) : wpAny (model prog w) A (Builtin.Slice.sliceApplied (.ref sl) (pure (n : Int))) Q E s := by
  obtain ⟨os, hos, hcs, hds⟩ := id hs
  unfold Builtin.Slice.sliceApplied Builtin.Slice.sliceFields
  refine wpAny_bind (wpAny_bind (wpAny_field hos hds (x := vl) rfl (wpAny_bind (wpAny_field hos hds (x := vu) rfl (wpAny_bind (wpAny_field hos hds (x := .none) rfl (wpAny_pure ?_)))))))
  refine wpAny_bind (slicePart_none ?_)
  show wpAny _ _ (if ((1 : Int) == 0) = true then _ else _) _ _ s
  rw [if_neg (by decide)]
  refine wpAny_bind (slicePart_ pl (wpAny_bind (slicePart_ pu (wpAny_bind (wpAny_pure ?_)))))
  show wpAny _ _ (match Builtin.Slice.sliceAdjust lo hi 1 (n : Int) with | (lo, hi) => pure (lo, (1 : Int), Builtin.Slice.slicePlaces lo hi 1)) _ _ s
  rw [adjust_gen lo hi n]
  show wpAny _ _ (pure (((sIx n 0 lo : Nat) : Int), (1 : Int), Builtin.Slice.slicePlaces ((sIx n 0 lo : Nat) : Int) ((sIx n n hi : Nat) : Int) 1)) _ _ s
  rw [places_gen]
  exact wpAny_pure h
theorem pick_gen (xs : Array Value) (i k : Nat) : ((List.range k).filterMap fun (m : Nat) => xs[((i : Int) + (m : Int) * 1).toNat]?).toArray = ((xs.toList.drop i).take k).toArray := by
  have e : (fun (m : Nat) => xs[((i : Int) + (m : Int) * 1).toNat]?) = fun m => xs[i + m]? := by
    funext m
    have : ((i : Int) + (m : Int) * 1).toNat = i + m := by omega
    rw [this]
  rw [e]
  have := pick_run xs i k
  rw [List.filterMap_map] at this
  have e2 : ((fun x => xs[x]?) ∘ fun x => i + x) = fun m => xs[i + m]? := rfl
  rw [e2] at this
  rw [this]

theorem getItem_tuple_cut {t sl : Addr} {items : Array Value} {vl vu : Value} {lo hi : Option Int} {Q : Value → Shared → Prop} (ht : IsTup s.heap t items) (hs : s.heap.IsSliceOf sl vl vu .none) (pl : IsPart vl lo) (pu : IsPart vu hi)
    (hw : ¬ (sIx items.size 0 lo = 0 ∧ sIx items.size items.size hi = items.size))
    (h : Q (.ref s.heap.objs.size) { s with heap := s.heap.push { cls := .type "tuple", data := .seq ((items.toList.drop (sIx items.size 0 lo)).take (sIx items.size items.size hi - sIx items.size 0 lo)).toArray } })
    (hsz : items.size ≤ sizeLine) : wpAny (model prog w) A (getItem (.ref t) (.ref sl)) Q E s := by
  have htake : sizeOk (.seq ((items.toList.drop (sIx items.size 0 lo)).take (sIx items.size items.size hi - sIx items.size 0 lo)).toArray) := by
    show ((items.toList.drop (sIx items.size 0 lo)).take (sIx items.size items.size hi - sIx items.size 0 lo)).toArray.size ≤ sizeLine
    rw [List.size_toArray, List.length_take, List.length_drop, Array.length_toList]
    omega
  have hj : sIx items.size items.size hi ≤ items.size := sIx_le _ _ (Nat.le_refl _) hi
  obtain ⟨os, hos, hcs, hds⟩ := id hs
  have hTs : s.TypeIs (.ref sl) "slice" := ⟨os, hos, hcs⟩
  unfold getItem
  try with_reducible refine wpAny_holding ?_
  first | refine wpAny_bind (wpAny_pure ?_) | skip
  refine wpAny_bind (wpAny_sequenceKey ht.typeIs (by decide) ?_)
  refine wpAny_bind (wpAny_callSpecial?_slot (name := Str.ofString "__getitem__") ht.typeIs PyProof.Rows.slot_tuple_getitem
    (wpAny_call_entry PyProof.Rows.slot_tuple_getitem ht.typeIs entry_tuple_getitem ?_ (args_tuple_getitem _ _)))
  show wpAny _ _ (Builtin.Tuple.tupleItemsOf (.ref t) >>= _) _ _ s
  refine wpAny_bind (tupleItemsOf_ ht ?_)
  refine wpAny_bind (wpAny_typeOf hTs ?_)
  rw [if_pos (by decide)]
  refine wpAny_bind (sliceApplied_gen hs pl pu ?_)
  have hno : ¬ ((((sIx items.size 0 lo : Nat) : Int) == 0 && (1 : Int) == 1 && (sIx items.size items.size hi - sIx items.size 0 lo) == items.size) = true) := by
    intro q
    rw [Bool.and_eq_true, Bool.and_eq_true] at q
    have q1 : ((sIx items.size 0 lo : Nat) : Int) = 0 := eq_of_beq q.1.1
    have q2 : sIx items.size items.size hi - sIx items.size 0 lo = items.size := eq_of_beq q.2
    exact hw ⟨by omega, by omega⟩
  show wpAny _ _ (if (((sIx items.size 0 lo : Nat) : Int) == 0 && (1 : Int) == 1 && (sIx items.size items.size hi - sIx items.size 0 lo) == items.size) = true then _ else _) _ _ s
  rw [if_neg hno, pick_gen]
  first
    | exact wpAny_bind (m := Builtin.Tuple.tupleExact _) (wpAny_newObj_type (wpAny_pure ⟨_, rfl, wpAny_pure h⟩) htake)
    | exact wpAny_bind (m := Builtin.Tuple.tupleExact _) (wpAny_newObj_type (wpAny_bind (wpAny_pure (wpAny_pure ⟨_, rfl, wpAny_pure h⟩))) htake)
    | exact wpAny_bind (wpAny_bind (m := Builtin.Tuple.tupleExact _) (wpAny_newObj_type (wpAny_pure (wpAny_pure ⟨_, rfl, wpAny_pure h⟩)) htake))
    | exact wpAny_bind (wpAny_bind (m := Builtin.Tuple.tupleExact _) (wpAny_newObj_type (wpAny_pure ⟨_, rfl, wpAny_pure h⟩) htake))
end
end HT

namespace L2
open PySem PySem.Spec PyProof.Rows

/-! ### the parts of a slice -/
abbrev TO := St → Hp → (Option Int → Hp → Prop) → Prop
/-- a slice's part (left out, or an int) -/
def PO (X : Cx) (e : Option Expr) (t : TO) : Prop :=
  ∀ (pins : List (Addr × Obj)) (s : Shared) (σ : St) (H : Hp) (Q : Option Int → Hp → Prop), Inv X pins σ H s → t σ H Q →
    wpAny (model X.prog X.w) X.A (evalPart e X.env) (fun u s' => ∃ o H', Inv X pins σ H' s' ∧ IsPart u o ∧ Q o H') X.xe s
def tNoPart : TO := fun _ H Q => Q none H
def tPart (t : TE) : TO := fun σ H Q => t σ H fun x H1 => ∃ i, x = .int i ∧ Q (some i) H1

theorem intsAre_of {ns : List Int} : ∀ {us : List Value}, Vals (ns.map V.int) us → IntsAre us ns := by
  induction ns with
  | nil => intro us r; rw [List.map_nil] at r; cases r; exact .nil
  | cons n ns ih =>
    intro us r
    rw [List.map_cons] at r
    cases r with
    | cons r1 r2 =>
      obtain ⟨t, e⟩ := r1
      subst e
      exact .cons n t (ih r2)

section
variable {X : Cx} {e : Expr} {te : TE} {lo hi : Option Expr} {tl th : TO} {pos p2 : Pos}

theorem po_none : PO X none tNoPart := by
  intro pins s σ H Q I h
  rw [evalPart_none]
  exact wpAny_pure ⟨none, H, I, .none, h⟩
theorem po_some (h : PE X e te) : PO X (some e) (tPart te) := by
  intro pins s σ H Q I hw
  rw [evalPart_some]
  refine thn (h pins s σ H _ I hw) fun u s1 ⟨x, H1, I1, r1, q1⟩ => ?_
  obtain ⟨i, rfl, q⟩ := q1
  obtain ⟨t, rfl⟩ := r1
  exact ⟨some i, H1, I1, .int i t, q⟩

/-- what a slice of a value is, by values: the slice object stands at sl -/
def SlR (X : Cx) (r : V → Option Int → Option Int → Hp → VK → Prop) : Prop :=
  ∀ (pins : List (Addr × Obj)) (s : Shared) (σ : St) (H : Hp) (x : V) (v vl vu : Value) (lo hi : Option Int) (sl : Addr) (Q : VK), Inv X pins σ H s → RelV x v → s.heap.IsSliceOf sl vl vu .none → IsPart vl lo → IsPart vu hi → r x lo hi H Q →
    ∃ T id, typeLookup (.type T) "__getitem__" = pure (some (.builtin id)) ∧ s.TypeIs v T ∧ wpAny (model X.prog X.w) X.A (getItem v (.ref sl)) (EP X pins σ Q) X.xe s
theorem SlR.or {r r' : V → Option Int → Option Int → Hp → VK → Prop} (h : SlR X r) (h' : SlR X r') : SlR X (fun x lo hi H Q => r x lo hi H Q ∨ r' x lo hi H Q) := by
  intro pins s σ H x v vl vu lo hi sl Q I rx hs pl pu q
  rcases q with q | q
  · exact h pins s σ H x v vl vu lo hi sl Q I rx hs pl pu q
  · exact h' pins s σ H x v vl vu lo hi sl Q I rx hs pl pu q
def tSl (r : V → Option Int → Option Int → Hp → VK → Prop) (te : TE) (tl th : TO) : TE := fun σ H Q => te σ H fun x H1 => tl σ H1 fun l H2 => th σ H2 fun u H3 => r x l u H3 Q
/-- a[lo:hi], any a -/
theorem pe_slice {r : V → Option Int → Option Int → Hp → VK → Prop} (hr : SlR X r) (he : PE X e te) (hl : PO X lo tl) (hu : PO X hi th) : PE X (.Subscript e (.Slice lo hi none p2) pos) (tSl r te tl th) := by
  intro pins s σ H Q I h
  refine Subscript_ (thn (he pins s σ H _ I h) fun v s1 ⟨x, H1, I1, r1, q1⟩ => ?_)
  refine wpAny_Slice (thn (hl pins s1 σ H1 _ I1 q1) fun vl s2 ⟨l, H2, I2, pl, q2⟩ => thn (hu pins s2 σ H2 _ I2 q2) fun vu s3 ⟨u, H3, I3, pu, q3⟩ => ?_)
  rw [evalPart_none]
  refine wpAny_pure ?_
  have I4 : Inv X pins σ H3 { s3 with heap := s3.heap.push { cls := .type "slice", data := .fields #[vl, vu, .none] } } := I3.kept (t' := s3.toks) fun b ob q => Heap.get?_push_of_some _ q
  obtain ⟨T, id, hT, ht, hg⟩ := hr pins { s3 with heap := s3.heap.push { cls := .type "slice", data := .fields #[vl, vu, .none] } } σ H3 x v vl vu l u s3.heap.objs.size Q I4 r1 (Heap.IsSliceOf.new ..) pl pu q3
  show wpAny (model X.prog X.w) X.A (subscriptTail e (.Slice lo hi none p2) v (.ref s3.heap.objs.size)) (EP X pins σ Q) X.xe { s3 with heap := s3.heap.push { cls := .type "slice", data := .fields #[vl, vu, .none] } }
  exact tail_any (ops := [.ref s3.heap.objs.size, v]) ht hT hg (by with_unfolding_all rfl)

/-- the items of xs[lo:hi] -/
def cutV (xs : List V) (lo hi : Option Int) : List V := (xs.drop (HT.sIx xs.length 0 lo)).take (HT.sIx xs.length xs.length hi - HT.sIx xs.length 0 lo)
theorem cutV_length (xs : List V) (lo hi : Option Int) : (cutV xs lo hi).length ≤ xs.length := by
  unfold cutV
  rw [List.length_take, List.length_drop]
  omega
/-- t[lo:hi], not the whole of it (the whole would be t itself) -/
def rSlT (K : PySem.W.Frag) : V → Option Int → Option Int → Hp → VK → Prop := fun x lo hi H Q => ∃ a xs, x = .ref a ∧ SqT K H a xs ∧
  ¬ (HT.sIx xs.length 0 lo = 0 ∧ HT.sIx xs.length xs.length hi = xs.length) ∧ ∀ p, H p = none → Q (.ref p) (upd H p (.tup (cutV xs lo hi)))
theorem sl_tup : SlR X (rSlT X.K) := by
  intro pins s σ H x v vl vu lo hi sl Q I rx hs pl pu h
  obtain ⟨a, xs, rfl, hx, hw, q⟩ := h
  cases rx
  obtain ⟨its, r, ht, hz⟩ := I.tuple hx
  have hlen : its.toArray.size = xs.length := by rw [List.size_toArray]; exact r.length.symm
  refine ⟨"tuple", _, PyProof.Rows.slot_tuple_getitem.lookup, ht.typeIs, ?_⟩
  refine HT.getItem_tuple_cut ht hs pl pu (by rw [hlen]; exact hw) ?_ (by rw [hlen]; exact hz)
  rw [hlen]
  refine ⟨.ref s.heap.objs.size, _, I.laid (t' := s.toks) (o := .tup (cutV xs lo hi)) (fun b ob q => Heap.get?_push_of_some _ q) (Nat.le_refl _) ?_, rfl, q _ (I.hok.fresh (Nat.le_refl _))⟩
  exact ⟨Nat.le_trans (cutV_length xs lo hi) hz, _, (r.drop (HT.sIx xs.length 0 lo)).take (HT.sIx xs.length xs.length hi - HT.sIx xs.length 0 lo), IsTup.new _ _⟩

/-! ### t < u, t + u -/
def rLtT (K : PySem.W.Frag) : R2 := fun x y H Q => ∃ a b ns ms, x = .ref a ∧ y = .ref b ∧ SqT K H a (ns.map V.int) ∧ SqT K H b (ms.map V.int) ∧ Q (.bl (HT.lexLt ns ms)) H
theorem op_ltT (hu : X.A.units < cLine) : OpR X (compareOp .Lt) (rLtT X.K) := by
  intro pins s σ H x y v u Q I rx ry h
  obtain ⟨a, b, ns, ms, rfl, rfl, ha, hb, q⟩ := h
  cases rx
  cases ry
  obtain ⟨its, r1, p1, _⟩ := I.tuple ha
  obtain ⟨its2, r2, p2, _⟩ := I.tuple hb
  have i1 : IntsAre its.toArray.toList ns := intsAre_of r1
  have i2 : IntsAre its2.toArray.toList ms := intsAre_of r2
  exact HT.lt_tupInts p1 p2 i1 i2 hu ⟨.bl (HT.lexLt ns ms), H, I, rfl, q⟩
/-- t + u, t not empty: u empty gives t itself -/
def rCatT (K : PySem.W.Frag) : R2 := fun x y H Q => ∃ a b xs ys, x = .ref a ∧ y = .ref b ∧ SqT K H a xs ∧ SqT K H b ys ∧ xs ≠ [] ∧ xs.length + ys.length ≤ sizeLine ∧
  (ys = [] → Q (.ref a) H) ∧ (ys ≠ [] → ∀ p, H p = none → Q (.ref p) (upd H p (.tup (xs ++ ys))))
theorem Vals.nil_iff {xs : List V} {us : List Value} (r : Vals xs us) : us = [] ↔ xs = [] := by
  cases r with
  | nil => simp
  | cons _ _ => simp
theorem op_catT : OpR X (binaryOp .Add) (rCatT X.K) := by
  intro pins s σ H x y v u Q I rx ry h
  obtain ⟨a, b, xs, ys, rfl, rfl, ha, hb, hx, hz, q1, q2⟩ := h
  cases rx
  cases ry
  obtain ⟨its, r1, p1, _⟩ := I.tuple ha
  obtain ⟨its2, r2, p2, _⟩ := I.tuple hb
  refine HT.cat_tup p1 p2 (fun z => hx (r1.nil_iff.mp z)) (fun z => ⟨.ref a, H, I, rfl, q1 (r2.nil_iff.mp z)⟩) (fun z => ?_) (by rw [← r1.length, ← r2.length]; exact hz)
  refine ⟨.ref s.heap.objs.size, _, I.laid (t' := s.toks) (o := .tup (xs ++ ys)) (fun b ob q => Heap.get?_push_of_some _ q) (Nat.le_refl _) ?_, rfl, q2 (fun w => z (r2.nil_iff.mpr w)) _ (I.hok.fresh (Nat.le_refl _))⟩
  exact ⟨by rw [List.length_append]; exact hz, _, r1.append r2, IsTup.new _ _⟩
/-- tuple(t) -/
theorem call_tupleT : CallR X (.type "tuple") (fun xs H Q => ∃ a ys, xs = [.ref a] ∧ SqT X.K H a ys ∧ Q (.ref a) H) := by
  intro pins s σ H xs us Q I r h
  obtain ⟨a, ys, rfl, ha, q⟩ := h
  obtain ⟨u, rfl, ru⟩ := vals1 r
  cases ru
  obtain ⟨its, _, p1, _⟩ := I.tuple ha
  exact call_tuple_same (items := its.toArray) p1 ⟨.ref a, H, I, rfl, q⟩
end
end L2

namespace L2
open PySem PySem.Spec PyProof.Rows

/-! ### places -/
/-- the place that an index of any sign means -/
def ixN (n : Nat) (i : Int) : Option Nat := if 0 ≤ i then (if i < n then some i.toNat else none) else if -(n : Int) ≤ i then some (i + n).toNat else none
def atI {α : Type} (xs : List α) (i : Int) : Option α := (ixN xs.length i).bind fun j => xs[j]?
theorem ixN_seq {n : Nat} {i : Int} {j : Nat} (h : ixN n i = some j) : seqIndex? i n = some j ∧ j < n ∧ -(n : Int) ≤ i ∧ i < n := by
  unfold ixN at h
  by_cases h0 : 0 ≤ i
  · rw [if_pos h0] at h
    by_cases h1 : i < n
    · rw [if_pos h1] at h
      have e : i.toNat = j := Option.some.inj h
      exact ⟨by rw [seqIndex_of h0 h1, e], by omega, by omega, h1⟩
    · rw [if_neg h1] at h; cases h
  · rw [if_neg h0] at h
    by_cases h1 : -(n : Int) ≤ i
    · rw [if_pos h1] at h
      have e : (i + n).toNat = j := Option.some.inj h
      exact ⟨by rw [seqIndex_neg (by omega) h1, e], by omega, h1, by omega⟩
    · rw [if_neg h1] at h; cases h
theorem atI_get {α : Type} {xs : List α} {i : Int} {v : α} (h : atI xs i = some v) : ∃ j, seqIndex? i xs.length = some j ∧ xs[j]? = some v ∧ j < xs.length ∧ -(xs.length : Int) ≤ i ∧ i < xs.length := by
  unfold atI at h
  cases e : ixN xs.length i with
  | none => rw [e] at h; cases h
  | some j =>
    rw [e] at h
    obtain ⟨h1, h2, h3, h4⟩ := ixN_seq e
    exact ⟨j, h1, h, h2, h3, h4⟩
theorem atI_nat {α : Type} {xs : List α} {j : Nat} {v : α} (h : xs[j]? = some v) : atI xs (j : Int) = some v := by
  have hj : j < xs.length := (List.getElem?_eq_some_iff.mp h).1
  have e : ixN xs.length (j : Int) = some j := by
    unfold ixN
    rw [if_pos (by omega), if_pos (by omega)]; simp
  unfold atI; rw [e]; exact h
theorem atI_last {α : Type} (xs : List α) (v : α) : atI (xs ++ [v]) (-1) = some v := by
  have hl : (xs ++ [v]).length = xs.length + 1 := by simp
  have e : ixN (xs ++ [v]).length (-1) = some xs.length := by
    unfold ixN
    rw [hl, if_neg (by decide), if_pos (by omega)]
    congr 1
    omega
  unfold atI
  rw [e]
  show (xs ++ [v])[xs.length]? = some v
  simp

/-! ### what may be subscripted -/
/-- what stands as an index of a plain subscript -/
def PlainIx (b : Expr) : Prop := ∀ o i, subscripted b false o i = operate [o, i] (getItem o i)
/-- a subscript by values -/
def IxR (X : Cx) (r : R2) : Prop :=
  ∀ (value slice : Expr) (pins : List (Addr × Obj)) (s : Shared) (σ : St) (H : Hp) (x y : V) (v u : Value) (Q : VK), Inv X pins σ H s → RelV x v → RelV y u → r x y H Q →
    subscripted slice false v u = operate [v, u] (getItem v u) → wpAny (model X.prog X.w) X.A (subscriptTail value slice v u) (EP X pins σ Q) X.xe s
/-- a call of a builtin's method by values: the receiver, the arguments -/
def MtR (X : Cx) (id : String) (r : V → List V → Hp → VK → Prop) : Prop :=
  ∀ (pins : List (Addr × Obj)) (s : Shared) (σ : St) (H : Hp) (x : V) (xs : List V) (v : Value) (us : List Value) (Q : VK), Inv X pins σ H s → RelV x v → Vals xs us → r x xs H Q →
    wpAny (model X.prog X.w) X.A (call (.builtin id) (v :: us)) (EP X pins σ Q) X.xe s
section
variable {X : Cx} {a b : Expr} {ta tb : TE} {pos : Pos}
theorem IxR.or {r r' : R2} (h : IxR X r) (h' : IxR X r') : IxR X (fun x y H Q => r x y H Q ∨ r' x y H Q) := by
  intro value slice pins s σ H x y v u Q I rx ry q hs
  rcases q with q | q
  · exact h value slice pins s σ H x y v u Q I rx ry q hs
  · exact h' value slice pins s σ H x y v u Q I rx ry q hs
theorem MtR.or {id : String} {r r' : V → List V → Hp → VK → Prop} (h : MtR X id r) (h' : MtR X id r') : MtR X id (fun x xs H Q => r x xs H Q ∨ r' x xs H Q) := by
  intro pins s σ H x xs v us Q I rx rs q
  rcases q with q | q
  · exact h pins s σ H x xs v us Q I rx rs q
  · exact h' pins s σ H x xs v us Q I rx rs q
/-- a[b] -/
theorem pe_ix {r : R2} (hr : IxR X r) (ha : PE X a ta) (hb : PE X b tb) (hs : PlainIx b) : PE X (.Subscript a b pos) (tOp r ta tb) := by
  intro pins s σ H Q I h
  exact Subscript_ (binT ha hb I h fun v u s2 x y H2 I2 rx ry q => hr a b pins s2 σ H2 x y v u Q I2 rx ry q (hs _ _))

def rIxL (K : PySem.W.Frag) : R2 := fun x y H Q => ∃ p xs i v, x = .ref p ∧ y = .int i ∧ SqL K H p xs ∧ atI xs i = some v ∧ Q v H
def rIxT (K : PySem.W.Frag) : R2 := fun x y H Q => ∃ p xs i v, x = .ref p ∧ y = .int i ∧ SqT K H p xs ∧ atI xs i = some v ∧ Q v H
def rIxS : R2 := fun x y H Q => ∃ z i c, x = .str z ∧ y = .int i ∧ z.length ≤ sizeLine ∧ atI z.cps.toList i = some c ∧ Q (.str ⟨#[c]⟩) H
theorem ix_list : IxR X (rIxL X.K) := by
  intro value slice pins s σ H x y v u Q I rx ry h hs
  obtain ⟨p, xs, i, z, rfl, rfl, hq, he, q⟩ := h
  cases rx
  obtain ⟨t, rfl⟩ := ry
  obtain ⟨its, r, pl, hz⟩ := I.list hq
  obtain ⟨j, h1, h2, h3, h4, h5⟩ := atI_get he
  obtain ⟨w, ew, rw'⟩ := r.get h2
  have hl := r.length
  have hn := line63
  have fin : EP X pins σ Q w s := ⟨z, H, I, rw', q⟩
  by_cases h0 : 0 ≤ i
  · have hj : i.toNat = j := by
      rw [seqIndex_of h0 h5] at h1
      exact Option.some.inj h1
    exact item_listR pl.isList h0 (by omega) (by rw [hj]; simpa using ew) fin hs
  · have hj : (i + (its.toArray.size : Int)).toNat = j := by
      rw [seqIndex_neg (by omega) h4] at h1
      rw [List.size_toArray, ← hl]
      exact Option.some.inj h1
    exact subscriptTail_builtinR (x := w) pl.isList.typeIs slot_list_getitem.lookup
      (wpAny_getItem_list_neg (Q := fun r s' => r = w ∧ EP X pins σ Q r s') pl.isList (by omega) (by rw [List.size_toArray] <;> omega) (by omega) (by rw [hj]; simpa using ew) ⟨rfl, fin⟩) hs
theorem ix_tup : IxR X (rIxT X.K) := by
  intro value slice pins s σ H x y v u Q I rx ry h hs
  obtain ⟨p, xs, i, z, rfl, rfl, hq, he, q⟩ := h
  cases rx
  obtain ⟨t, rfl⟩ := ry
  obtain ⟨its, r, pl, hz⟩ := I.tuple hq
  obtain ⟨j, h1, h2, h3, h4, h5⟩ := atI_get he
  obtain ⟨w, ew, rw'⟩ := r.get h2
  have hl := r.length
  have hn := line63
  have fin : EP X pins σ Q w s := ⟨z, H, I, rw', q⟩
  exact subscriptTail_builtinR (x := w) pl.typeIs slot_tuple_getitem.lookup
    (getItem_tuple (j := j) (Q := fun r s' => r = w ∧ EP X pins σ Q r s') pl (by omega) (by omega) (by rw [List.size_toArray, ← hl]; exact h1) (by simpa using ew) ⟨rfl, fin⟩) hs
theorem ix_str : IxR X rIxS := by
  intro value slice pins s σ H x y v u Q I rx ry h hs
  obtain ⟨z, i, c, rfl, rfl, hz, he, q⟩ := h
  obtain ⟨t, rfl⟩ := rx
  obtain ⟨t', rfl⟩ := ry
  obtain ⟨j, h1, h2, h3, h4, h5⟩ := atI_get he
  have hl : z.cps.toList.length = z.length := by simp [Str.length]
  rw [hl] at h1 h4 h5
  have hn := line63
  exact tail_any (typeIs_str s z t) slot_str_getitem.lookup (getItem_str (c := c) (by
    have e1 : decide (i < -(2 ^ 63 : Int)) = false := decide_eq_false (by omega)
    have e2 : decide (i ≥ 2 ^ 63) = false := decide_eq_false (by omega)
    rw [e1, e2, Bool.or_false]) (by rw [h1]; simpa using h2) ⟨.str ⟨#[c]⟩, H, I.tok _, ⟨_, rfl⟩, q⟩) hs
/-- list, tuple or str -/
def rIx (K : PySem.W.Frag) : R2 := fun x y H Q => rIxL K x y H Q ∨ rIxT K x y H Q ∨ rIxS x y H Q
theorem ix_seq : IxR X (rIx X.K) := ix_list.or (ix_tup.or ix_str)

/-! ### xs[i] = v, any sign -/
/-- the list's object behind a store -/
theorem mapSeq_set (its : List Value) (n j : Nat) (u : Value) : Obj.mapSeq (·.setIfInBounds j u) { cls := .type "list", data := .seq its.toArray n } = { cls := .type "list", data := .seq (its.set j u).toArray n } := by
  simp [Obj.mapSeq]
theorem Inv.lst {pins : List (Addr × Obj)} {σ : St} {H : Hp} {s : Shared} {p : Addr} {xs : List V} (I : Inv X pins σ H s) (h : H p = some (.lst xs)) :
    ∃ (its : List Value) (n : Nat), Vals xs its ∧ s.heap.get? p = some { cls := .type "list", data := .seq its.toArray n } ∧ xs.length ≤ sizeLine := by
  obtain ⟨z, its, n, r, e⟩ := I.hok p _ h
  exact ⟨its, n, r, e, z⟩
/-- the list at p is written by an update of its object -/
theorem Inv.lstUpd {pins : List (Addr × Obj)} {σ : St} {H : Hp} {s : Shared} {p : Addr} {xs ys : List V} {its its' : List Value} {n n' : Nat} {f : Obj → Obj} (I : Inv X pins σ H s) (h : H p = some (.lst xs))
    (ho : s.heap.get? p = some { cls := .type "list", data := .seq its.toArray n }) (hf : f { cls := .type "list", data := .seq its.toArray n } = { cls := .type "list", data := .seq its'.toArray n' }) (r : Vals ys its') (hz : ys.length ≤ sizeLine) (t : Nat) :
    Inv X pins σ (upd H p (.lst ys)) { s with heap := s.heap.update p f, toks := t } := by
  have e : (s.heap.update p f).get? p = some { cls := .type "list", data := .seq its'.toArray n' } := by
    rw [Heap.get?_update_self f ho (by rw [hf] <;> rfl), hf]
  refine I.write (x := p) (e := p) (by rw [h]; trivial) (.inl rfl) (fun b u hb q => (Heap.get?_update_other _ _ (Ne.symm hb)).trans q) ⟨_, e⟩ ?_
  exact ⟨hz, its', n', r, e⟩
def rSetL : V → V → V → Hp → (Hp → Prop) → Prop := fun o i v H Q => ∃ p xs k j, o = .ref p ∧ i = .int k ∧ H p = some (.lst xs) ∧ ixN xs.length k = some j ∧ Q (upd H p (.lst (xs.set j v)))
theorem set_list : PSet X rSetL := by
  intro pins s σ H o i v ov iv u Q I ro ri rv h
  obtain ⟨p, xs, k, j, rfl, rfl, hp, hj, q⟩ := h
  cases ro
  obtain ⟨t, rfl⟩ := ri
  obtain ⟨its, n, r, ho, hz⟩ := I.lst hp
  obtain ⟨h1, h2, h3, h4⟩ := ixN_seq hj
  have hl := r.length
  have hn := line63
  have I' : Inv X pins σ (upd H p (.lst (xs.set j v))) { s with heap := s.heap.update p (Obj.mapSeq (·.setIfInBounds j u)) } :=
    I.lstUpd hp ho (mapSeq_set its n j u) (r.set rv j) (by rw [List.length_set]; exact hz) s.toks
  by_cases h0 : 0 ≤ k
  · have hk : k.toNat = j := by
      rw [seqIndex_of h0 h4] at h1
      exact Option.some.inj h1
    exact PySem.W.ki_setAt ho h0 (by omega) (by rw [List.size_toArray, ← hl]; exact h4) (by rw [hk]; exact ⟨_, I', q⟩)
  · have hk : (k + (its.toArray.size : Int)).toNat = j := by
      rw [seqIndex_neg (by omega) h3] at h1
      rw [List.size_toArray, ← hl]
      exact Option.some.inj h1
    exact PySem.W.ki_setBack ho (by omega) (by rw [List.size_toArray, ← hl]; exact h3) (by omega) (by rw [hk]; exact ⟨_, I', q⟩)

/-! ### slices -/
theorem slice_bounds (lo hi : Option Int) (n : Nat) : (sliceBounds lo hi none n).1 = ((HT.sIx n 0 lo : Nat) : Int) ∧ (sliceBounds lo hi none n).2.1 = ((HT.sIx n n hi : Nat) : Int) ∧ (sliceBounds lo hi none n).2.2 = 1 := by
  refine ⟨?_, ?_, rfl⟩
  · cases lo with
    | none => simp [sliceBounds, HT.sIx]
    | some i =>
      simp only [sliceBounds, HT.sIx, Option.getD_none, show (1 : Int) > 0 by decide, if_true]
      by_cases h : i < 0
      · simp only [h, if_true] <;> omega
      · simp only [h, if_false] <;> omega
  · cases hi with
    | none => simp [sliceBounds, HT.sIx]
    | some i =>
      simp only [sliceBounds, HT.sIx, Option.getD_none, show (1 : Int) > 0 by decide, if_true]
      by_cases h : i < 0
      · simp only [h, if_true] <;> omega
      · simp only [h, if_false] <;> omega
theorem slicePick_cut (its : List Value) (lo hi : Option Int) : slicePick its.toArray lo hi none = ((its.drop (HT.sIx its.length 0 lo)).take (HT.sIx its.length its.length hi - HT.sIx its.length 0 lo)).toArray := by
  obtain ⟨h1, h2, h3⟩ := slice_bounds lo hi its.toArray.size
  unfold slicePick
  rw [h1, h2, h3]
  simp only [sliceRange_one, pick_run, List.size_toArray] <;> rfl
/-- xs[lo:hi] of a list: a new list -/
def rSlL (K : PySem.W.Frag) : V → Option Int → Option Int → Hp → VK → Prop := fun x lo hi H Q => ∃ a xs, x = .ref a ∧ SqL K H a xs ∧ ∀ p, H p = none → Q (.ref p) (upd H p (.lst (cutV xs lo hi)))
theorem sl_list : SlR X (rSlL X.K) := by
  intro pins s σ H x v vl vu lo hi sl Q I rx hs pl pu h
  obtain ⟨a, xs, rfl, hx, q⟩ := h
  cases rx
  obtain ⟨its, r, ht, hz⟩ := I.list hx
  have hlen := r.length
  refine ⟨"list", _, slot_list_getitem.lookup, ht.isList.typeIs, ?_⟩
  refine wpAny_getItem_list_slice ht.isList hs pl pu .none (by simp) ?_ (by rw [List.size_toArray] <;> omega)
  rw [slicePick_cut, ← hlen]
  refine ⟨.ref s.heap.objs.size, _, I.laid (t' := s.toks) (o := .lst (cutV xs lo hi)) (fun b ob q => Heap.get?_push_of_some _ q) (Nat.le_refl _) ?_, rfl, q _ (I.hok.fresh (Nat.le_refl _))⟩
  exact ⟨Nat.le_trans (cutV_length xs lo hi) hz, _, 0, (r.drop (HT.sIx xs.length 0 lo)).take (HT.sIx xs.length xs.length hi - HT.sIx xs.length 0 lo), Heap.get?_push_size _ rfl⟩

/-! ### in, not in: flat items -/
def flatV : V → Bool
  | .non => true
  | .bl _ => true
  | .int _ => true
  | .str _ => true
  | _ => false
/-- == of flat values -/
def eqV : V → V → Bool
  | .non, .non => true
  | .bl a, .bl b => a == b
  | .bl a, .int b => (if a then 1 else 0) == b
  | .int a, .bl b => a == (if b then 1 else 0)
  | .int a, .int b => a == b
  | .str a, .str b => a == b
  | _, _ => false
theorem eqAt_V {A : Around} {s : Shared} {y x : V} {u v : Value} (ry : RelV y u) (rx : RelV x v) (fy : flatV y = true) (fx : flatV x = true) : SeqAt.EqAt A s u v (eqV y x) := by
  cases y with
  | non =>
    cases ry
    cases x with
    | non => cases rx; exact SeqAt.EqAt.same _
    | bl b => cases rx; exact SeqAt.EqAt.none_bool b
    | int b => obtain ⟨t, rfl⟩ := rx; exact SeqAt.EqAt.none_int b t
    | str b => obtain ⟨t, rfl⟩ := rx; exact SeqAt.EqAt.none_str b t
    | _ => exact absurd (show false = true from fx) Bool.false_ne_true
  | bl a =>
    cases ry
    cases x with
    | non => cases rx; exact SeqAt.EqAt.bool_none a
    | bl b => cases rx; exact SeqAt.EqAt.bool_bool a b
    | int b => obtain ⟨t, rfl⟩ := rx; exact SeqAt.EqAt.bool_int a b t
    | str b => obtain ⟨t, rfl⟩ := rx; exact SeqAt.EqAt.bool_str a b t
    | _ => exact absurd (show false = true from fx) Bool.false_ne_true
  | int a =>
    obtain ⟨t', rfl⟩ := ry
    cases x with
    | non => cases rx; exact SeqAt.EqAt.int_none a t'
    | bl b => cases rx; exact SeqAt.EqAt.int_bool a t' b
    | int b => obtain ⟨t, rfl⟩ := rx; exact SeqAt.EqAt.int_int a t' b t
    | str b => obtain ⟨t, rfl⟩ := rx; exact SeqAt.EqAt.int_str a t' b t
    | _ => exact absurd (show false = true from fx) Bool.false_ne_true
  | str a =>
    obtain ⟨t', rfl⟩ := ry
    cases x with
    | non => cases rx; exact SeqAt.EqAt.str_none a t'
    | bl b => cases rx; exact SeqAt.EqAt.str_bool a t' b
    | int b => obtain ⟨t, rfl⟩ := rx; exact SeqAt.EqAt.str_int a t' b t
    | str b => obtain ⟨t, rfl⟩ := rx; exact SeqAt.EqAt.str_str a t' b t
    | _ => exact absurd (show false = true from fx) Bool.false_ne_true
  | _ => exact absurd (show false = true from fy) Bool.false_ne_true
/-- the items' answers, read off the values (a value's own answer does not lean on its token) -/
def eqU (x : V) (u : Value) : Bool := match u with
  | .none => eqV .non x
  | .bool b => eqV (.bl b) x
  | .int i _ => eqV (.int i) x
  | .str z _ => eqV (.str z) x
  | _ => false
theorem eqU_of {x y : V} {u : Value} (r : RelV y u) (f : flatV y = true) : eqU x u = eqV y x := by
  cases y with
  | non => cases r; rfl
  | bl b => cases r; rfl
  | int i => obtain ⟨t, rfl⟩ := r; rfl
  | str z => obtain ⟨t, rfl⟩ := r; rfl
  | _ => exact absurd (show false = true from f) Bool.false_ne_true
theorem any_eqU {x : V} : ∀ {xs : List V} {us : List Value}, Vals xs us → xs.all flatV = true → us.any (eqU x) = xs.any fun y => eqV y x
  | _, _, .nil, _ => rfl
  | y :: xs, u :: us, .cons r t, f => by
    rw [List.all_cons, Bool.and_eq_true] at f
    rw [List.any_cons, List.any_cons, eqU_of r f.1, any_eqU t f.2]
theorem mem_eqAt {A : Around} {s : Shared} {x : V} {v : Value} (rx : RelV x v) (fx : flatV x = true) : ∀ {xs : List V} {us : List Value}, Vals xs us → xs.all flatV = true → ∀ u ∈ us, SeqAt.EqAt A s u v (eqU x u)
  | _, _, .nil, _ => fun u hu => by cases hu
  | y :: xs, u :: us, .cons r t, f => fun u' hu => by
    rw [List.all_cons, Bool.and_eq_true] at f
    rcases List.mem_cons.mp hu with rfl | hu
    · rw [eqU_of r f.1]; exact eqAt_V r rx f.1 fx
    · exact mem_eqAt rx fx t f.2 u' hu
def inV (x : V) (xs : List V) : Bool := xs.any fun y => eqV y x
/-- x in a list or tuple of flat items -/
def rIn (K : PySem.W.Frag) (neg : Bool) : R2 := fun x y H Q => ∃ p xs, y = .ref p ∧ (SqL K H p xs ∨ SqT K H p xs) ∧ flatV x = true ∧ xs.all flatV = true ∧ Q (.bl (if neg then !inV x xs else inV x xs)) H
theorem op_in_seq : OpR X (compareOp .In) (rIn X.K false) := by
  intro pins s σ H x y v u Q I rx ry h
  obtain ⟨p, xs, rfl, hq, fx, fs, q⟩ := h
  cases ry
  rcases hq with hq | hq
  · obtain ⟨its, r, pl, hz⟩ := I.list hq
    refine SeqAt.in_listAt (eqU x) pl.isList (fun w hw => mem_eqAt rx fx r fs w (by simpa using hw)) ⟨.bl _, H, I, rfl, ?_⟩
    rw [show its.toArray.any (eqU x) = its.any (eqU x) by simp, any_eqU r fs]
    exact q
  · obtain ⟨its, r, pl, hz⟩ := I.tuple hq
    refine SeqAt.in_tupleAt (eqU x) pl (fun w hw => mem_eqAt rx fx r fs w (by simpa using hw)) ⟨.bl _, H, I, rfl, ?_⟩
    rw [show its.toArray.any (eqU x) = its.any (eqU x) by simp, any_eqU r fs]
    exact q
theorem op_notIn_seq : OpR X (compareOp .NotIn) (rIn X.K true) := by
  intro pins s σ H x y v u Q I rx ry h
  obtain ⟨p, xs, rfl, hq, fx, fs, q⟩ := h
  cases ry
  rcases hq with hq | hq
  · obtain ⟨its, r, pl, hz⟩ := I.list hq
    refine SeqAt.notIn_listAt (eqU x) pl.isList (fun w hw => mem_eqAt rx fx r fs w (by simpa using hw)) ⟨.bl _, H, I, rfl, ?_⟩
    rw [show its.toArray.any (eqU x) = its.any (eqU x) by simp, any_eqU r fs]
    exact q
  · obtain ⟨its, r, pl, hz⟩ := I.tuple hq
    refine SeqAt.notIn_tupleAt (eqU x) pl (fun w hw => mem_eqAt rx fx r fs w (by simpa using hw)) ⟨.bl _, H, I, rfl, ?_⟩
    rw [show its.toArray.any (eqU x) = its.any (eqU x) by simp, any_eqU r fs]
    exact q
theorem op_notIn_str : OpR X (compareOp .NotIn) (fun x y H Q => ∃ i j, x = .str i ∧ y = .str j ∧ Q (.bl (!(!(Builtin.Str.occurrences j i 0 j.length 1).isEmpty))) H) := by
  intro pins s σ H x y v u Q I rx ry h
  obtain ⟨i, j, rfl, rfl, q⟩ := h
  obtain ⟨t, rfl⟩ := rx
  obtain ⟨t', rfl⟩ := ry
  exact notIn_str ⟨.bl _, H, I, rfl, q⟩

/-! ### len, list(x), tuple(x) of any list or tuple that is read -/
theorem call_len_seq : CallR X (.builtin "len") (fun xs H Q => ∃ p ys, xs = [.ref p] ∧ (SqL X.K H p ys ∨ SqT X.K H p ys) ∧ Q (.int ys.length) H) := by
  intro pins s σ H xs us Q I r h
  obtain ⟨p, ys, rfl, hq, q⟩ := h
  obtain ⟨u, rfl, rx⟩ := vals1 r
  cases rx
  have hn := line63
  rcases hq with hq | hq
  · obtain ⟨its, r', pl, hz⟩ := I.list hq
    have hlen := r'.length
    exact Calls.call_len_list pl.isList (by simp only [List.size_toArray] <;> omega) ⟨.int ys.length, H, I.tok _, ⟨s.toks + 1, by rw [List.size_toArray, hlen]⟩, q⟩
  · obtain ⟨its, r', pl, hz⟩ := I.tuple hq
    have hlen := r'.length
    exact len_tuple pl (by simp only [List.size_toArray] <;> omega) ⟨.int ys.length, H, I.tok _, ⟨s.toks + 1, by rw [List.size_toArray, hlen]⟩, q⟩
theorem call_len_str : CallR X (.builtin "len") (fun xs H Q => ∃ z, xs = [.str z] ∧ z.length ≤ sizeLine ∧ Q (.int z.length) H) := by
  intro pins s σ H xs us Q I r h
  obtain ⟨z, rfl, hz, q⟩ := h
  obtain ⟨u, rfl, t, rfl⟩ := vals1 r
  have hn := line63
  exact len_str (by omega) ⟨.int z.length, H, I.tok _, ⟨_, rfl⟩, q⟩
theorem CallR.or {f : Value} {r r' : List V → Hp → VK → Prop} (h : CallR X f r) (h' : CallR X f r') : CallR X f (fun xs H Q => r xs H Q ∨ r' xs H Q) := by
  intro pins s σ H xs us Q I rs q
  rcases q with q | q
  · exact h pins s σ H xs us Q I rs q
  · exact h' pins s σ H xs us Q I rs q
theorem call_list_of : CallR X (.type "list") (fun xs H Q => ∃ p ys, xs = [.ref p] ∧ (SqL X.K H p ys ∨ SqT X.K H p ys) ∧ ∀ l, H l = none → Q (.ref l) (upd H l (.lst ys))) := by
  intro pins s σ H xs us Q I r h
  obtain ⟨p, ys, rfl, hq, q⟩ := h
  obtain ⟨u, rfl, rx⟩ := vals1 r
  cases rx
  have fin : ∀ (its : List Value), Vals ys its → ys.length ≤ sizeLine → ∀ (h' : Heap) (c' : Nat), (∀ b o', s.heap.get? b = some o' → h'.get? b = some o') →
      h'.get? s.heap.objs.size = some { cls := .type "list", dict := none, data := .seq its.toArray c', slots := #[] } → EP X pins σ Q (.ref s.heap.objs.size) { s with heap := h' } := fun its r' hz h' c' kp e =>
    ⟨.ref s.heap.objs.size, _, I.laid (t' := s.toks) kp (Nat.le_refl _) (show ObjOk X.prog X.w _ h' _ (.lst ys) from ⟨hz, its, c', r', e⟩), rfl, q _ (I.hok.fresh (Nat.le_refl _))⟩
  rcases hq with hq | hq
  · obtain ⟨its, r', pl, hz⟩ := I.list hq
    have hlen := r'.length
    obtain ⟨o, ho, hc, n, hd⟩ := pl.isList
    exact call_list_seq p (.inl rfl) ho hc hd (fun h' c' kp e => fin its r' hz h' c' kp e) (by simp only [List.size_toArray] <;> omega)
  · obtain ⟨its, r', pl, hz⟩ := I.tuple hq
    have hlen := r'.length
    obtain ⟨o, ho, hc, n, hd⟩ := pl
    exact call_list_seq p (.inr rfl) ho hc hd (fun h' c' kp e => fin its r' hz h' c' kp e) (by simp only [List.size_toArray] <;> omega)
theorem call_tuple_of : CallR X (.type "tuple") (fun xs H Q => ∃ p ys, xs = [.ref p] ∧ ((SqL X.K H p ys ∧ ∀ l, H l = none → Q (.ref l) (upd H l (.tup ys))) ∨ (SqT X.K H p ys ∧ Q (.ref p) H))) := by
  intro pins s σ H xs us Q I r h
  obtain ⟨p, ys, rfl, h⟩ := h
  obtain ⟨u, rfl, rx⟩ := vals1 r
  cases rx
  rcases h with ⟨hq, q⟩ | ⟨hq, q⟩
  · obtain ⟨its, r', pl, hz⟩ := I.list hq
    have hlen := r'.length
    refine call_tuple_list pl.isList (fun h' kp => ?_) (by simp only [List.size_toArray] <;> omega)
    have I1 : Inv X pins σ H { s with heap := h' } := I.kept (t' := s.toks) kp
    have I2 : Inv X pins σ (upd H h'.objs.size (.tup ys)) { s with heap := h'.push { cls := .type "tuple", data := .seq its.toArray } } :=
      I1.laid (t' := s.toks) (fun b o e => Heap.get?_push_of_some _ e) (Nat.le_refl _) (show ObjOk X.prog X.w _ _ _ (.tup ys) from ⟨hz, its, r', IsTup.new _ _⟩)
    exact ⟨.ref h'.objs.size, _, I2, rfl, q _ (I1.hok.fresh (Nat.le_refl _))⟩
  · obtain ⟨its, r', pl, hz⟩ := I.tuple hq
    exact call_tuple_same pl ⟨.ref p, H, I, rfl, q⟩

/-! ### the call of a builtin's method: o.m(..) -/
/-- the value is of that builtin type -/
def tyV (K : PySem.W.Frag) (T : String) (x : V) (H : Hp) : Prop := match x with
  | .str _ => T = "str"
  | .int _ => T = "int"
  | .ref p => (T = "list" ∧ ∃ xs, SqL K H p xs) ∨ (T = "tuple" ∧ ∃ o, K.lookup p = some o ∧ o.cls = .type "tuple" ∧ o.dict = none) ∨
      (T = "dict" ∧ ((∃ kvs, H p = some (.dK kvs)) ∨ ∃ kvs, H p = some (.dT kvs))) ∨ (T = "set" ∧ ∃ S n, H p = some (.set S n))
  | _ => False
theorem tyV_is {pins : List (Addr × Obj)} {σ : St} {H : Hp} {s : Shared} {T : String} {x : V} {v : Value} (I : Inv X pins σ H s) (r : RelV x v) (ty : tyV X.K T x H) :
    s.TypeIs v T ∧ ∀ a, v = .ref a → ∃ ob, s.heap.get? a = some ob ∧ ob.dict = none := by
  cases x with
  | str z =>
    obtain ⟨t, rfl⟩ := r
    cases (show T = "str" from ty)
    exact ⟨typeIs_str s z t, fun _ e => nomatch e⟩
  | int i =>
    obtain ⟨t, rfl⟩ := r
    cases (show T = "int" from ty)
    exact ⟨typeIs_int s i t, fun _ e => nomatch e⟩
  | ref p =>
    cases r
    rcases ty with ⟨rfl, xs, hq⟩ | ⟨rfl, o, hk, hc, hd⟩ | ⟨rfl, hk⟩ | ⟨rfl, S, n, hk⟩
    · obtain ⟨its, _, pl, _⟩ := I.list hq
      refine ⟨pl.isList.typeIs, fun a e => ?_⟩
      cases e
      obtain ⟨o, n, e, c, hd, _⟩ := pl
      exact ⟨o, e, hd⟩
    · refine ⟨⟨o, I.kIn p o hk, hc⟩, fun a e => ?_⟩
      cases e
      exact ⟨o, I.kIn _ o hk, hd⟩
    · have z : ∃ o, s.heap.get? p = some o ∧ o.ExactDict := by
        rcases hk with ⟨kvs, hk⟩ | ⟨kvs, hk⟩
        · obtain ⟨_, _, _, _, o, _, _, e, ex, _⟩ := I.hok p _ hk
          exact ⟨o, e, ex⟩
        · obtain ⟨_, _, _, _, o, _, _, e, ex, _⟩ := I.hok p _ hk
          exact ⟨o, e, ex⟩
      obtain ⟨o, e, ex⟩ := z
      refine ⟨⟨o, e, ex.1⟩, fun a e2 => ?_⟩
      cases e2
      exact ⟨o, e, ex.2.1⟩
    · obtain ⟨o, _, _, _, e, ex, _⟩ := I.hok p _ hk
      refine ⟨⟨o, e, ex.1⟩, fun a e2 => ?_⟩
      cases e2
      exact ⟨o, e, ex.2.1⟩
  | _ => exact False.elim ty
def tBM0 (K : PySem.W.Frag) (T : String) (r : V → List V → Hp → VK → Prop) (to : TE) : TE := fun σ H Q => to σ H fun x H1 => tyV K T x H1 ∧ r x [] H1 Q
def tBM (K : PySem.W.Frag) (T : String) (r : V → List V → Hp → VK → Prop) (to : TE) (t : TA) : TE := fun σ H Q => to σ H fun x H1 => tyV K T x H1 ∧ t σ H1 fun xs H2 => r x xs H2 Q
variable {o e : Expr} {es : List Expr} {to : TE} {t : TA} {name : Str} {apos cpos : Pos} {T id : String} {r : V → List V → Hp → VK → Prop}
theorem pe_bm0 (pa : PlainAttrs T) (slot : Slot T name id) (hty : typeOf (.builtin id) = pure (.type "method_descriptor")) (hm : MtR X id r) (ho : PE X o to)
    (hbase : attributeBase o name X.env (eval o X.env) = eval o X.env := by rfl) (hline : (apos.endLine == cpos.line) = true := by rfl) : PE X (.Call (.Attribute o name apos) [] [] cpos) (tBM0 X.K T r to) := by
  intro pins s σ H Q I h
  refine wpAny_Call_method0_late hbase hline (thn (ho pins s σ H _ I h) fun v s1 ⟨x, H1, I1, r1, ty, q1⟩ => ?_)
  obtain ⟨h1, h2⟩ := tyV_is I1 r1 ty
  exact ⟨T, id, pa, slot, hty, h1, h2, Calls.callWith_builtin rfl (PySem.evalArgs_none (hm pins s1 σ H1 x [] v [] Q I1 r1 .nil q1))⟩
theorem pe_bm (pa : PlainAttrs T) (slot : Slot T name id) (hty : typeOf (.builtin id) = pure (.type "method_descriptor")) (hm : MtR X id r) (ho : PE X o to) (ha : PA X (e :: es) t)
    (hbase : attributeBase o name X.env (eval o X.env) = eval o X.env := by rfl)
    (hfew : ((backTo cpos (starEach (e :: es) X.env)).all (fun x => !x.1) && (backToKw cpos (keywordEach [] X.env)).all (fun x => x.1.isSome)
      && decide ((e :: es).length + ([] : List Keyword).length + (if ([] : List Keyword).isEmpty then 0 else 1) < 30)) = true := by rfl)
    (hline : (apos.endLine == cpos.line) = true := by rfl) (hs : starEach (e :: es) X.env = (false, eval e X.env) :: starEach es X.env := by rfl) (hplain : (backTo cpos (starEach es X.env)).any (·.1) = false := by rfl) :
    PE X (.Call (.Attribute o name apos) (e :: es) [] cpos) (tBM X.K T r to t) := by
  intro pins s σ H Q I h
  refine wpAny_Call_method_late hbase hfew hline rfl (thn (ho pins s σ H _ I h) fun v s1 ⟨x, H1, I1, r1, ty, q1⟩ => ?_)
  obtain ⟨h1, h2⟩ := tyV_is I1 r1 ty
  refine ⟨T, id, pa, slot, hty, h1, h2, ?_⟩
  have hA := ha cpos pins s1 σ H1 _ I1 q1
  rw [hs] at hA ⊢
  refine Calls.callWith_builtin (by show (false || (backTo cpos (starEach es X.env)).any (·.1)) = false; rw [hplain] <;> rfl) (Calls.evalArgs_plain ?_)
  exact thn hA fun us s2 ⟨vs, H2, I2, r2, q2⟩ => hm pins s2 σ H2 x vs v us Q I2 r1 r2 q2
/- xs.append(e), list.index on a module's tuple .. are MtR facts of 06m -/
end
end L2

namespace L2
open PySem PySem.Spec PyProof.Rows

def MtM (X : Cx) (id : String) (r : V → List V → Hp → VK → Prop) : Prop :=
  ∀ (pins : List (Addr × Obj)) (s : Shared) (σ : St) (H : Hp) (x : V) (xs : List V) (v : Value) (us : List Value) (Q : VK), Inv X pins σ H s → RelV x v → Vals xs us → r x xs H Q →
    wpAny (model X.prog X.w) X.A (call (.builtin id) (v :: us)) (EP X pins σ Q) X.xe s

/-! ### lists of values -/
theorem Vals.one : ∀ {x : V} {us : List Value}, Vals [x] us → ∃ u, us = [u] ∧ RelV x u
  | _, _, .cons r .nil => ⟨_, rfl, r⟩
theorem Vals.two : ∀ {x y : V} {us : List Value}, Vals [x, y] us → ∃ u v, us = [u, v] ∧ RelV x u ∧ RelV y v
  | _, _, _, .cons r (.cons q .nil) => ⟨_, _, rfl, r, q⟩
theorem Vals.zero : ∀ {us : List Value}, Vals [] us → us = []
  | _, .nil => rfl
theorem Vals.dropLast {xs : List V} {us : List Value} (h : Vals xs us) : Vals xs.dropLast us.dropLast := by
  induction h with
  | nil => exact .nil
  | cons r t ih =>
    cases t with
    | nil => exact .nil
    | cons q t' => exact .cons r ih
theorem Vals.eraseIdx : ∀ {xs : List V} {us : List Value} (i : Nat), Vals xs us → Vals (xs.eraseIdx i) (us.eraseIdx i)
  | _, _, _, .nil => .nil
  | _, _, 0, .cons _ t => t
  | _, _, i + 1, .cons r t => .cons r (Vals.eraseIdx i t)
theorem Vals.reverse {xs : List V} {us : List Value} (h : Vals xs us) : Vals xs.reverse us.reverse := by
  induction h with
  | nil => exact .nil
  | cons r t ih => rw [List.reverse_cons, List.reverse_cons]; exact Vals.append ih (.cons r .nil)
theorem Vals.rep {xs : List V} {us : List Value} (h : Vals xs us) : ∀ k : Nat, Vals (List.replicate k xs).flatten (List.replicate k us).flatten
  | 0 => .nil
  | k + 1 => by
    rw [List.replicate_succ, List.replicate_succ, List.flatten_cons, List.flatten_cons]
    exact Vals.append h (Vals.rep h k)
theorem erase_last {α : Type} (l : List α) : l.eraseIdx (l.length - 1) = l.dropLast := by
  induction l with
  | nil => rfl
  | cons a r ih =>
    cases r with
    | nil => rfl
    | cons b r =>
      have e : (a :: b :: r).length - 1 = ((b :: r).length - 1) + 1 := by
        have h1 : (a :: b :: r).length = r.length + 2 := rfl
        have h2 : (b :: r).length = r.length + 1 := rfl
        omega
      rw [e, List.eraseIdx_cons_succ, ih]
      all_goals rfl
theorem len_erase {α : Type} : ∀ (l : List α) (i : Nat), (l.eraseIdx i).length ≤ l.length
  | [], _ => Nat.le_refl _
  | _ :: _, 0 => Nat.le_succ _
  | _ :: r, i + 1 => Nat.succ_le_succ (len_erase r i)
theorem foldl_rep (its : List Value) : ∀ (k : Nat) (acc : List Value),
    List.foldl (fun x1 x2 => x1 ++ x2) acc.toArray (List.replicate k its.toArray) = (acc ++ (List.replicate k its).flatten).toArray
  | 0, acc => by simp
  | k + 1, acc => by
    have e : acc.toArray ++ its.toArray = (acc ++ its).toArray := by simp
    have e2 : (acc ++ its) ++ (List.replicate k its).flatten = acc ++ (List.replicate (k + 1) its).flatten := by
      rw [List.replicate_succ, List.flatten_cons, List.append_assoc]
    rw [← e2, ← foldl_rep its k (acc ++ its), ← e, List.replicate_succ, List.foldl_cons]

section
variable {X : Cx} {pins : List (Addr × Obj)} {σ : St} {H : Hp} {s : Shared} {l b : Addr} {xs ys zs : List V}

/-! ### the two steps: a tracked list is rewritten, a new list is laid -/
theorem Inv.lset {its its' : List Value} {n : Nat} {f : Array Value → Array Value} {t' : Nat} (I : Inv X pins σ H s) (hH : H l = some (.lst xs))
    (e : s.heap.get? l = some { cls := .type "list", data := .seq its.toArray n }) (hf : f its.toArray = its'.toArray) (hv : Vals ys its') (hz : ys.length ≤ sizeLine) :
    Inv X pins σ (upd H l (.lst ys)) { s with heap := s.heap.update l (Obj.mapSeq f), toks := t' } := by
  have q := PySem.IsL.update e f
  rw [hf] at q
  refine I.write (x := l) (e := l) (by rw [hH]; exact trivial) (.inl rfl) (fun b' u hb hu => (Heap.get?_update_other s.heap (Obj.mapSeq f) (Ne.symm hb)).trans hu) ⟨_, q⟩ ?_
  exact ⟨hz, its', _, hv, q⟩
theorem Inv.lnew {its : List Value} {t' : Nat} (I : Inv X pins σ H s) (hv : Vals ys its) (hz : ys.length ≤ sizeLine) :
    Inv X pins σ (upd H s.heap.objs.size (.lst ys)) { s with heap := s.heap.push { cls := .type "list", data := .seq its.toArray }, toks := t' } :=
  I.laid (fun _ _ q => Heap.get?_push_of_some _ q) (Nat.le_refl _) ⟨hz, its, 0, hv, Heap.get?_push_size _ rfl⟩
theorem Inv.fresh (I : Inv X pins σ H s) : H s.heap.objs.size = none := I.hok.fresh (Nat.le_refl _)
theorem Inv.lstM (I : Inv X pins σ H s) (hH : H l = some (.lst xs)) : xs.length ≤ sizeLine ∧ ∃ (its : List Value) (n : Nat), Vals xs its ∧ xs.length = its.length ∧ s.heap.get? l = some { cls := .type "list", data := .seq its.toArray n } := by
  obtain ⟨z, its, n, r, e⟩ := I.hok l _ hH
  exact ⟨z, its, n, r, r.length, e⟩

theorem notLongL {n : Nat} (h : n ≤ sizeLine) : Builtin.List.listTooLong n = false := by
  unfold Builtin.List.listTooLong
  exact decide_eq_false (by omega)
end

section
variable {X : Cx}

/-! ### methods -/
def rAppend : V → List V → Hp → VK → Prop := fun x vs H Q => ∃ l xs y, x = .ref l ∧ vs = [y] ∧ H l = some (.lst xs) ∧ xs.length < sizeLine ∧ Q .non (upd H l (.lst (xs ++ [y])))
theorem mt_append : MtM X "list.append" rAppend := by
  intro pins s σ H x vs v us Q I rx rv h
  obtain ⟨l, xs, y, rfl, rfl, hH, hz, q⟩ := h
  cases rx
  obtain ⟨u, rfl, ru⟩ := rv.one
  obtain ⟨z, its, n, r, hl, e⟩ := I.lstM hH
  refine call_meets F.slot_list_append ⟨_, e, rfl⟩ F.entry_list_append (F.args_list_append_2 _ _) (PySem.list_append l its.toArray n u (by rw [List.size_toArray]; omega)) ⟨e, ?_⟩
  refine ⟨.non, _, I.lset (its' := its ++ [u]) hH e (by simp) (r.append (.cons ru .nil)) ?_, rfl, q⟩
  rw [List.length_append, List.length_singleton]
  omega

def rExtend : V → List V → Hp → VK → Prop := fun x vs H Q => ∃ l b xs zs, x = .ref l ∧ vs = [.ref b] ∧ H l = some (.lst xs) ∧ H b = some (.lst zs) ∧ xs.length + zs.length ≤ sizeLine ∧ Q .non (upd H l (.lst (xs ++ zs)))
theorem mt_extend : MtM X "list.extend" rExtend := by
  intro pins s σ H x vs v us Q I rx rv h
  obtain ⟨l, b, xs, zs, rfl, rfl, hH, hB, hz, q⟩ := h
  cases rx
  obtain ⟨u, rfl, ru⟩ := rv.one
  cases ru
  obtain ⟨z, its, n, r, hl, e⟩ := I.lstM hH
  obtain ⟨z2, its2, n2, r2, hl2, e2⟩ := I.lstM hB
  have hsz : its.toArray.size + its2.toArray.size ≤ sizeLine := by rw [List.size_toArray, List.size_toArray]; omega
  have hlong : ¬ (!its.toArray.isEmpty && Builtin.List.listTooLong (its.toArray.size + its2.toArray.size)) = true := by
    rw [notLongL hsz, Bool.and_false]
    exact Bool.false_ne_true
  refine call_meets F.slot_list_extend ⟨_, e, rfl⟩ F.entry_list_extend (F.args_list_extend_2 _ _)
    (AutoSeq1.list_extend_list_list_0 l its.toArray n b its2.toArray n2 hlong (by rw [List.size_toArray]; omega) (by omega)) ⟨e, e2, ?_⟩
  refine ⟨.non, _, I.lset (its' := its ++ its2) hH e (by simp) (r.append r2) ?_, rfl, q⟩
  rw [List.length_append]
  omega

def rPop : V → List V → Hp → VK → Prop := fun x vs H Q => ∃ l xs y, x = .ref l ∧ vs = [] ∧ H l = some (.lst xs) ∧ xs[xs.length - 1]? = some y ∧ Q y (upd H l (.lst xs.dropLast))
theorem mt_pop : MtM X "list.pop" rPop := by
  intro pins s σ H x vs v us Q I rx rv h
  obtain ⟨l, xs, y, rfl, rfl, hH, hy, q⟩ := h
  cases rx
  have hus := rv.zero
  subst hus
  obtain ⟨z, its, n, r, hl, e⟩ := I.lstM hH
  obtain ⟨u, hu, ru⟩ := r.get hy
  have hy' : its.toArray[its.toArray.size - 1]? = some u := by
    show its.toArray[its.length - 1]? = some u
    rw [← Array.getElem?_toList, ← hl]
    exact hu
  refine call_meets F.slot_list_pop ⟨_, e, rfl⟩ F.entry_list_pop (F.args_list_pop_1 _) (MeetsSeq.list_pop_last l its.toArray n u hy' (by rw [List.size_toArray]; omega)) ⟨e, ?_⟩
  refine ⟨y, _, I.lset (its' := its.dropLast) hH e ?_ r.dropLast ?_, ru, q⟩
  · show its.toArray.eraseIdxIfInBounds (its.toArray.size - 1) = its.dropLast.toArray
    rw [List.size_toArray, List.eraseIdxIfInBounds_toArray, erase_last]
  · rw [List.length_dropLast]
    omega

def rPopAt : V → List V → Hp → VK → Prop := fun x vs H Q => ∃ l xs i k y, x = .ref l ∧ vs = [.int i] ∧ H l = some (.lst xs) ∧ -(2 ^ 63) ≤ i ∧ i < 2 ^ 63 ∧ seqIndex? i xs.length = some k ∧ xs[k]? = some y ∧ Q y (upd H l (.lst (xs.eraseIdx k)))
theorem mt_popAt : MtM X "list.pop" rPopAt := by
  intro pins s σ H x vs v us Q I rx rv h
  obtain ⟨l, xs, i, k, y, rfl, rfl, hH, h1, h2, hk, hy, q⟩ := h
  cases rx
  obtain ⟨u, rfl, ru⟩ := rv.one
  obtain ⟨t, rfl⟩ := ru
  obtain ⟨z, its, n, r, hl, e⟩ := I.lstM hH
  obtain ⟨w, hw, rw'⟩ := r.get hy
  refine call_meets F.slot_list_pop ⟨_, e, rfl⟩ F.entry_list_pop (F.args_list_pop_2 _ _)
    (MeetsSeq.list_pop_at l its.toArray n i t k w (fitsIndex_both h1 h2) (by rw [List.size_toArray, ← hl]; exact hk) (by rw [← Array.getElem?_toList]; exact hw) (by rw [List.size_toArray]; omega)) ⟨e, ?_⟩
  refine ⟨y, _, I.lset (its' := its.eraseIdx k) hH e ?_ (r.eraseIdx k) ?_, rw', q⟩
  · show its.toArray.eraseIdxIfInBounds k = (its.eraseIdx k).toArray
    rw [List.eraseIdxIfInBounds_toArray]
  · have := len_erase xs k
    omega

def rReverse : V → List V → Hp → VK → Prop := fun x vs H Q => ∃ l xs, x = .ref l ∧ vs = [] ∧ H l = some (.lst xs) ∧ Q .non (upd H l (.lst xs.reverse))
theorem mt_reverse : MtM X "list.reverse" rReverse := by
  intro pins s σ H x vs v us Q I rx rv h
  obtain ⟨l, xs, rfl, rfl, hH, q⟩ := h
  cases rx
  have hus := rv.zero
  subst hus
  obtain ⟨z, its, n, r, hl, e⟩ := I.lstM hH
  refine call_meets F.slot_list_reverse ⟨_, e, rfl⟩ F.entry_list_reverse (F.args_list_reverse_1 _) (AutoSeq1.list_reverse_list_0 l its.toArray n (by rw [List.size_toArray]; omega)) ⟨e, ?_⟩
  refine ⟨.non, _, I.lset (its' := its.reverse) hH e (by simp) r.reverse ?_, rfl, q⟩
  rw [List.length_reverse]
  omega

def rClear : V → List V → Hp → VK → Prop := fun x vs H Q => ∃ l xs, x = .ref l ∧ vs = [] ∧ H l = some (.lst xs) ∧ Q .non (upd H l (.lst []))
theorem mt_clear : MtM X "list.clear" rClear := by
  intro pins s σ H x vs v us Q I rx rv h
  obtain ⟨l, xs, rfl, rfl, hH, q⟩ := h
  cases rx
  have hus := rv.zero
  subst hus
  obtain ⟨z, its, n, r, hl, e⟩ := I.lstM hH
  refine call_meets F.slot_list_clear ⟨_, e, rfl⟩ F.entry_list_clear (F.args_list_clear_1 _) (AutoSeq1.list_clear_list_0 l its.toArray n (by rw [List.size_toArray]; omega)) ⟨e, ?_⟩
  exact ⟨.non, _, I.lset (its' := []) (ys := []) hH e rfl .nil (Nat.zero_le _), rfl, q⟩

/-! ### list + list, list += list, list * int -/
def rCat : R2 := fun x y H Q => ∃ l b xs zs, x = .ref l ∧ y = .ref b ∧ H l = some (.lst xs) ∧ H b = some (.lst zs) ∧ xs.length + zs.length ≤ sizeLine ∧ ∀ p, H p = none → Q (.ref p) (upd H p (.lst (xs ++ zs)))
theorem op_cat : OpR X (binaryOp .Add) rCat := by
  intro pins s σ H x y v u Q I rx ry h
  obtain ⟨l, b, xs, zs, rfl, rfl, hH, hB, hz, q⟩ := h
  cases rx
  cases ry
  obtain ⟨z, its, n, r, hl, e⟩ := I.lstM hH
  obtain ⟨z2, its2, n2, r2, hl2, e2⟩ := I.lstM hB
  refine PySem.P.add_list e e2 ?_ (by rw [List.size_toArray, List.size_toArray]; omega)
  have ea : its.toArray ++ its2.toArray = (its ++ its2).toArray := by simp
  rw [ea]
  exact ⟨.ref _, _, I.lnew (t' := s.toks) (r.append r2) (by rw [List.length_append]; omega), rfl, q _ I.fresh⟩
/-- a list times an int (a negative one is nothing) -/
def rRep : R2 := fun x y H Q => ∃ l k xs, x = .ref l ∧ y = .int k ∧ H l = some (.lst xs) ∧ -(2 ^ 63) ≤ k ∧ k < 2 ^ 63 ∧ xs.length * k.toNat ≤ sizeLine ∧
  ∀ p, H p = none → Q (.ref p) (upd H p (.lst (List.replicate k.toNat xs).flatten))
theorem len_rep {α : Type} (xs : List α) (k : Nat) : (List.replicate k xs).flatten.length = k * xs.length := by
  induction k with
  | zero => simp
  | succ k ih => rw [List.replicate_succ, List.flatten_cons, List.length_append, ih, Nat.succ_mul, Nat.add_comm]
theorem op_rep : OpR X (binaryOp .Mult) rRep := by
  intro pins s σ H x y v u Q I rx ry h
  obtain ⟨l, k, xs, rfl, rfl, hH, h1, h2, hz, q⟩ := h
  cases rx
  obtain ⟨t, rfl⟩ := ry
  obtain ⟨z, its, n, r, hl, e⟩ := I.lstM hH
  have hlen : its.toArray.size * k.toNat ≤ sizeLine := by rw [List.size_toArray, ← hl]; exact hz
  have hcap : ¬ its.toArray.size * k.toNat > (2 ^ 63 - 1) / 8 := by
    have : (sizeLine : Nat) ≤ (2 ^ 63 - 1) / 8 := by decide
    omega
  have hfit : ¬ (!Builtin.List.listFitsIndex k) = true := by
    rw [fitsIndex_both h1 h2]
    exact Bool.false_ne_true
  have hlong : ¬ Builtin.List.listTooLong (its.toArray.size * k.toNat) = true := by
    rw [notLongL hlen]
    exact Bool.false_ne_true
  have hnew : List.foldl (fun x1 x2 => x1 ++ x2) #[] (List.replicate (if its.toArray.isEmpty = true then 0 else k.toNat) its.toArray) = (List.replicate k.toNat its).flatten.toArray := by
    have f0 : ∀ m : Nat, List.foldl (fun x1 x2 => x1 ++ x2) #[] (List.replicate m its.toArray) = (List.replicate m its).flatten.toArray := fun m => by
      have := foldl_rep its m []
      rw [List.nil_append] at this
      exact this
    rw [f0]
    cases its with
    | nil => simp
    | cons a r' => rw [if_neg (by simp)]
  refine wpAny_binaryOp_repeat_ref (T := "list") (U := "int") (by decide) ⟨_, e, rfl⟩ (fun s' => typeIs_int s' k t) noFill_list_mul F.fills_int_mul F.slot_int_rmul repeat_list F.slot_int_index.lookup
    (call_meets F.slot_int_rmul (typeIs_int s k t) F.entry_int_rmul (F.args_int_rmul_2 _ _) (int___rmul___int_list k t l its.toArray n)
      ⟨e, rfl, ⟨_, e, rfl⟩, call_meets F.slot_list_mul ⟨_, e, rfl⟩ F.entry_list_mul (F.args_list_mul_2 _ _) (AutoListH.list___mul___list_int_3 l its.toArray n k t hfit hcap hlong) ⟨e, ?_⟩⟩)
  rw [hnew]
  exact ⟨.ref _, _, I.lnew (t' := s.toks) (r.rep k.toNat) (by rw [len_rep, Nat.mul_comm]; exact hz), rfl, q _ I.fresh⟩

/-! ### del xs[i] -/
theorem del_list {pins : List (Addr × Obj)} {s : Shared} {σ : St} {H : Hp} {l : Addr} {xs : List V} {i : Int} {t : Tok} {k : Nat} {Q : Unit → Shared → Prop} (I : Inv X pins σ H s) (hH : H l = some (.lst xs))
    (h1 : -(2 ^ 63) ≤ i) (h2 : i < 2 ^ 63) (hk : seqIndex? i xs.length = some k) (h : ∀ s', Inv X pins σ (upd H l (.lst (xs.eraseIdx k))) s' → Q () s') :
    wpAny (model X.prog X.w) X.A (delItem (.ref l) (.int i t)) Q X.xe s := by
  obtain ⟨z, its, n, r, hl, e⟩ := I.lstM hH
  refine PySem.P.delItem_list (k := k) e (fitsIndex_both h1 h2) (by rw [List.size_toArray, ← hl]; exact hk) (h _ ?_) (by rw [List.size_toArray]; omega)
  refine I.lset (its' := its.eraseIdx k) (t' := s.toks) hH e ?_ (r.eraseIdx k) ?_
  · show its.toArray.eraseIdxIfInBounds k = (its.eraseIdx k).toArray
    rw [List.eraseIdxIfInBounds_toArray]
  · have := len_erase xs k
    omega
end

/-! ### xs[a:b] = ys -/
section
variable {prog : Program} {w : World} {A : Around} {E : Value → Shared → Prop} {s : Shared}
theorem splice_eq (its its2 : List Value) (a c : Nat) : its.toArray.extract 0 a ++ its2.toArray ++ its.toArray.extract c its.toArray.size = (its.take a ++ its2 ++ its.drop c).toArray := by
  apply Array.toList_inj.mp
  first
    | (simp
       exact List.take_of_length_le (by simp))
    | simp [List.take_of_length_le]
    | simp
theorem bounds_run {a c n : Nat} (hac : a ≤ c) (hc : c ≤ n) : sliceBounds (some (a : Int)) (some (c : Int)) none n = ((a : Int), (c : Int), 1) := by
  simp only [sliceBounds, Option.getD_none]
  have h1 : ¬ ((a : Int) < 0) := by omega
  have h2 : ¬ ((c : Int) < 0) := by omega
  simp only [h1, h2, if_false, show (1 : Int) > 0 by decide, if_true]
  congr 1
  · omega
  · congr 1; omega
set_option maxRecDepth 100000 in
/-- list.__setitem__ with a slice of step one and another list -/
theorem setItem_slice {l b sl : Addr} {items new : Array Value} {n n2 : Nat} {vl vu : Value} {a c : Nat} {Q : Unit → Shared → Prop}
    (e : s.heap.get? l = some { cls := .type "list", data := .seq items n }) (e2 : s.heap.get? b = some { cls := .type "list", data := .seq new n2 }) (hne : l ≠ b)
    (hs : s.heap.IsSliceOf sl vl vu .none) (pl : IsPart vl (some (a : Int))) (pu : IsPart vu (some (c : Int))) (hac : a ≤ c) (hc : c ≤ items.size)
    (hsz : items.size + new.size ≤ sizeLine) (h : Q () { s with heap := s.heap.update l (Obj.mapSeq fun xs => xs.extract 0 a ++ new ++ xs.extract c xs.size) }) :
    wpAny (model prog w) A (setItem (.ref l) (.ref sl) (.ref b)) Q E s := by
  have hl : s.heap.IsList l items := PySem.IsL.isList e
  have hb : s.heap.IsList b new := PySem.IsL.isList e2
  obtain ⟨os, hos, hcs, hds⟩ := id hs
  have hTs : s.TypeIs (.ref sl) "slice" := ⟨os, hos, hcs⟩
  have hstep : ¬ ((rawPart none == rawInt 0) = true) := Bool.false_ne_true
  have hsame : Builtin.List.listSameRef (.ref l) (.ref b) = false := by
    unfold Builtin.List.listSameRef
    exact beq_eq_false_iff_ne.mpr hne
  have hmax : (max (a : Int) (c : Int)).toNat = c := by omega
  have hz' : ((fun xs : Array Value => xs.extract 0 a ++ new ++ xs.extract c xs.size) items).size ≤ sizeLine + 1 := by
    simp only [Array.size_append, Array.size_extract]
    omega
  unfold setItem
  try with_reducible refine wpAny_holding ?_
  first | refine wpAny_bind (wpAny_pure ?_) | skip
  refine wpAny_bind (wpAny_sequenceKey hl.typeIs (by decide) ?_)
  refine wpAny_bind (wpAny_callSpecial?_slot (name := Str.ofString "__setitem__") hl.typeIs slot_list_setitem
    (wpAny_call_entry slot_list_setitem hl.typeIs entry_list_setitem ?_ (args_list_setitem _ _ _)))
  show wpAny _ _ (Builtin.List.listSubscript? (.ref sl) >>= _) _ _ s
  refine wpAny_bind ?_
  unfold Builtin.List.listSubscript?
  refine wpAny_bind (wpAny_specialOf hTs slice_no_index ?_)
  simp only [Option.isNone_none, if_true]
  refine wpAny_pure ?_
  show wpAny _ _ (typeOf (.ref sl) >>= _) _ _ s
  refine wpAny_bind (wpAny_typeOf hTs ?_)
  first
    | rw [if_neg (by decide)]
    | refine PySem.W.KFB.if_not (by decide) ?_
  rw [listSliceParts_eq]
  refine wpAny_bind (wpAny_bind (wpAny_field hos hds (x := .none) rfl (wpAny_bind (wpAny_listPart .none ?_))))
  rw [if_neg hstep]
  refine wpAny_bind (wpAny_field hos hds (x := vl) rfl (wpAny_bind (wpAny_listPart pl ?_)))
  refine wpAny_bind (wpAny_field hos hds (x := vu) rfl (wpAny_bind (wpAny_listPart pu (wpAny_pure ?_))))
  first
    | simp only [hsame, Bool.false_eq_true, if_false]
    | refine PySem.W.KFB.if_not hsame ?_
    | (dsimp only
       rw [if_neg (by rw [hsame]; exact Bool.false_ne_true)])
  refine wpAny_bind (m := Builtin.List.listAllItems (.ref b) "must assign iterable to extended slice") ?_
  unfold Builtin.List.listAllItems
  refine wpAny_bind (wpAny_typeOf hb.typeIs ?_)
  first
    | refine PySem.W.KFB.if_so (by decide) ?_
    | rw [if_pos (by decide)]
    | simp only [beq_self_eq_true, Bool.true_or, if_true]
  unfold Builtin.List.listItems
  refine wpAny_bind (wpAny_seqItems e2 rfl (wpAny_pure ?_))
  refine wpAny_bind (wpAny_bind (wpAny_seqItems e rfl (wpAny_pure ?_)))
  refine wpAny_bind (wpAny_of_eq ((sliceIndices_raw (some (a : Int)) (some (c : Int)) none items.size (by simp)).trans (congrArg (pure : Int × Int × Int → Sem (Int × Int × Int)) (bounds_run hac hc))) ?_)
  show wpAny _ _ (if ((1 : Int) == 1) = true then _ else _) _ _ s
  rw [if_pos (by decide)]
  refine wpAny_bind (wpAny_rule ?_)
  first
    | simp only [notLongL hsz, Bool.false_eq_true, if_false]
    | refine PySem.W.KFB.if_not (notLongL hsz) ?_
  first | refine wpAny_bind (wpAny_pure ?_) | skip
  show wpAny _ _ (updateSeq l (fun xs => xs.extract 0 ((a : Int)).toNat ++ new ++ xs.extract (max (a : Int) (c : Int)).toNat xs.size) >>= _) _ _ s
  rw [hmax, Int.toNat_natCast]
  refine wpAny_bind (wpAny_updateSeq (hz := Nat.le_trans (Nat.le_add_right _ _) hsz) (_hz' := hz') e rfl ?_)
  refine wpAny_bind (wpAny_letGo ?_)
  first
    | exact wpAny_bind (wpAny_pure (wpAny_pure ⟨.none, rfl, wpAny_pure h⟩))
    | exact wpAny_pure ⟨.none, rfl, wpAny_pure h⟩
end

section
variable {X : Cx}
/-- xs[a:c] = ys of another list, at the value level: sl is the slice object that was just made -/
theorem set_slice {pins : List (Addr × Obj)} {s : Shared} {σ : St} {H : Hp} {l b sl : Addr} {xs ys : List V} {a c : Int} {vl vu : Value} {Q : Unit → Shared → Prop} (I : Inv X pins σ H s)
    (hH : H l = some (.lst xs)) (hB : H b = some (.lst ys)) (hne : l ≠ b) (hs : s.heap.IsSliceOf sl vl vu .none) (ra : RelV (.int a) vl) (rc : RelV (.int c) vu) (h0 : 0 ≤ a) (hac : a ≤ c) (hc : c ≤ xs.length)
    (hz : xs.length + ys.length ≤ sizeLine) (h : ∀ s', Inv X pins σ (upd H l (.lst (xs.take a.toNat ++ ys ++ xs.drop c.toNat))) s' → Q () s') :
    wpAny (model X.prog X.w) X.A (setItem (.ref l) (.ref sl) (.ref b)) Q X.xe s := by
  obtain ⟨ta, rfl⟩ := ra
  obtain ⟨tc, rfl⟩ := rc
  obtain ⟨z, its, n, r, hl, e⟩ := I.lstM hH
  obtain ⟨z2, its2, n2, r2, hl2, e2⟩ := I.lstM hB
  obtain ⟨a', rfl⟩ := Int.eq_ofNat_of_zero_le h0
  obtain ⟨c', rfl⟩ := Int.eq_ofNat_of_zero_le (Int.le_trans h0 hac)
  simp only [Int.toNat_natCast] at h
  refine setItem_slice (a := a') (c := c') e e2 hne hs (.int _ _) (.int _ _) (by omega) (by rw [List.size_toArray]; omega) (by rw [List.size_toArray, List.size_toArray]; omega) (h _ ?_)
  refine I.lset (its' := its.take a' ++ its2 ++ its.drop c') (t' := s.toks) hH e ?_ (Vals.append (Vals.append (r.take _) r2) (r.drop _)) ?_
  · exact splice_eq its its2 a' c'
  · rw [List.length_append, List.length_append, List.length_take, List.length_drop]
    omega
end
end L2

namespace Att
open PySem PySem.W PySem.Calls PyProof.Rows

/-! ### the script -/
theorem ints_of_wellAll {P : Params} {h : Heap} : ∀ (ns : List Int) (vs : List Value), WellAll P h vs (ns.map WData.int) → IntsAre vs ns := by
  intro ns
  induction ns with
  | nil =>
    intro vs w
    rw [List.map_nil] at w
    cases w
    exact .nil
  | cons n ns ih =>
    intro vs w
    rw [List.map_cons] at w
    cases w with
    | cons a b =>
      cases a
      exact .cons _ _ (ih _ b)

theorem script_of {l : OpenLaw} {n : Nat} (hn : l.most = some n) {P : Params} {h : Heap} {args : List WData} {vals : List Value}
    (hpre : l.row.toRowW.claim.pre args = true) (hwl : WellAll P h vals args) :
    ∃ a vs ns, vals = [Value.ref a] ∧ args = [WData.list (ns.map WData.int)] ∧ h.get? a = some { cls := .type "list", data := .seq vs.toArray } ∧ IntsAre vs ns ∧ ns.length ≤ n := by
  have hsh : WShape.hasAll [] args [.list .int] = true := (pre_splitW hpre).1
  have hc : l.pre.holds [] { args := args } = true := (pre_splitW hpre).2
  obtain ⟨d, r, rfl, h1, h2⟩ := hasAllW_cons hsh
  obtain rfl := hasAllW_nil h2
  obtain ⟨xs, rfl, h3⟩ := hasW_list h1
  obtain ⟨ns, rfl⟩ := items_int h3
  have hlen : ns.length ≤ n := by
    unfold OpenLaw.pre at hc
    have h4 : (WTm.not (.lt (.lit (.int (n : Int))) (.len (.arg 0)))).holds [] { args := [.list (ns.map .int)] } = true := by
      have h4 := (holds_andW hc).1
      rw [hn] at h4
      exact h4
    have h5 := condW_of h4 (w_not (w_lt w_lit (w_len_list (w_arg rfl))))
    rw [List.length_map] at h5
    refine Nat.le_of_not_lt fun q => ?_
    have q' : (n : Int) < ((ns.length : Nat) : Int) := by omega
    first
      | (rw [decide_eq_true q'] at h5; exact absurd h5 (by decide))
      | (simp at h5; omega)
  cases hwl with
  | cons w1 w2 =>
    cases w2
    cases w1 with
    | list ho hall => exact ⟨_, _, ns, rfl, rfl, ho, ints_of_wellAll ns _ hall, hlen⟩

theorem post_true (l : OpenLaw) (args : List WData) : l.row.toRowW.claim.post args (.bool true) args = true :=
  postW_of (r := l.row.toRowW) (X := (true == true))
    (show WShape.has [] (.bool true) .bool = true by first | rfl | decide | simp [WShape.has, WShape.arms, WShape.armsAll])
    (show (WTm.eq .res (.lit (.bool true))).value [] { args := args, res := some (.bool true), after := args } = some (.bool (true == true)) from w_eq_bool (w_res rfl) w_lit) rfl

/-! ### the attachment: holds_open's last premise (the goal 'hc' behind k_head) from a wpAny of the law's body -/
theorem attach {l : OpenLaw} {n : Nat} {q : Program} {loose : List Str} {XP : (Str → Option Value) → Heap → Prop} {YP : World → Heap → Prop} {d : DefRec} {x : Str}
    (hn : l.most = some n) (hdf : d.params.defaults = [])
    (hbind : ∀ pm cd doc v : Value, bindArgs (docDef d.name d.params d.body d.scope pm cd doc) ⟨[v], []⟩ = pure [(x, v)])
    (hx : d.scope.names.lookup x = some .local ∨ d.scope.names.lookup x = some .cell)
    (hk : d.scope.kind = .function) (hco : d.scope.isCoroutine = false) (hgen : d.scope.isGenerator = false)
    (body : ∀ (w : World) (s₀ s₁ s : Shared) (mg mb : Str → Option Value) (fa : Addr) (o : Obj) (pm cd doc : Value) (a : Addr) (vs : List Value) (ns : List Int),
      Ground q loose [] XP w s₀ mg mb s₁.heap → YP w s₁.heap →
      s₁.heap.get? fa = some o → o.data = .func (docDef d.name d.params d.body d.scope pm cd doc) → s₁.heap.CodeRec cd d.name → mg d.name = some (.ref fa) →
      s₁.heap.get? a = some { cls := .type "list", data := .seq vs.toArray } → IntsAre vs ns → ns.length ≤ n →
      s.gens = #[] → s.os = s₁.os →
      Fr s₁.heap s₁.heap.objs.size s.heap (bindL (envOfC d.name d.scope s₁.heap.objs.size fa cd).kindOf [(x, .ref a)] fun _ => none) →
      Cl s₁.heap.objs.size (cellsFrom (s₁.heap.objs.size + 1) d.scope.names []) s.heap (bindC (envOfC d.name d.scope s₁.heap.objs.size fa cd).kindOf [(x, .ref a)] fun _ => none) →
      wpAny (model l.prog w) (callerA.deeper (envOfC d.name d.scope s₁.heap.objs.size fa cd)) (execs d.body (envOfC d.name d.scope s₁.heap.objs.size fa cd))
        (fun f s' => f = .ret (.bool true) ∧ OldK s₁.heap s'.heap ∧ s'.os = s₁.os ∧ AllBare s'.gens) (fun _ _ => False) s) :
    WalkO q loose XP YP l.row.toRowW d [] (fun f vs => PySem.call f vs) := by
  intro w s₀ s₁ mg mb G Y fa o pm cd doc dV kV ho hd hcd hD hmg hg args vals as hpre hlay hrd hwl hlo
  obtain rfl : dV = .none := Dflts.none hD hdf
  obtain rfl : kV = .none := Dflts.noKw hD
  obtain ⟨a, vs, ns, rfl, rfl, hobj, hints, hlen⟩ := script_of hn hpre hwl
  refine enter_call ?_
  refine call_cells_ret (o := o) (by rw [depth_caller]; decide) ho (fd_plain hd) G.T.nolimit hcd (hbind pm cd doc (.ref a)) (fun y hy => ?_) (fun h₁ tk F X => ?_) hco hgen hk
  · obtain rfl : y = (x, Value.ref a) := List.mem_singleton.mp hy
    rcases hx with e | e
    · exact .inl e
    · exact .inr ⟨e, cellsFrom_some _ _ _ (.inl e)⟩
  · refine wpAny_mono (body w s₀ s₁ { s₁ with heap := h₁, toks := tk } mg mb fa o pm cd doc a vs ns G Y ho (fd_plain hd) hcd hmg hobj hints hlen hg rfl F X) (fun f s' hq => ?_) (fun _ _ hq => hq)
    obtain ⟨rfl, h2, h3, h4⟩ := hq
    exact ⟨.inl ⟨.bool true, .bool true, [], rfl, fun _ => rfl, .bool true, post_true l _, fun _ => ⟨List.Pairwise.nil, fun _ hm => (nomatch hm)⟩⟩, h2, h3, h4⟩

/-- the same from a codeAny of the CALL (for a layer whose function contracts speak of calls) -/
theorem attach_call {l : OpenLaw} {n : Nat} {q : Program} {loose : List Str} {XP : (Str → Option Value) → Heap → Prop} {YP : World → Heap → Prop} {d : DefRec}
    (hn : l.most = some n) (hdf : d.params.defaults = [])
    (call : ∀ (w : World) (s₀ s₁ : Shared) (mg mb : Str → Option Value) (fa : Addr) (o : Obj) (pm cd doc : Value) (a : Addr) (vs : List Value) (ns : List Int),
      Ground q loose [] XP w s₀ mg mb s₁.heap → YP w s₁.heap →
      s₁.heap.get? fa = some o → o.data = .func (docDef d.name d.params d.body d.scope pm cd doc) → s₁.heap.CodeRec cd d.name → mg d.name = some (.ref fa) →
      s₁.heap.get? a = some { cls := .type "list", data := .seq vs.toArray } → IntsAre vs ns → ns.length ≤ n → s₁.gens = #[] →
      codeAny (model l.prog w) callerA (.call (.ref fa) ⟨[.ref a], []⟩) (fun r s' => r = .ok (.ret (.bool true)) ∧ OldK s₁.heap s'.heap ∧ s'.os = s₁.os ∧ AllBare s'.gens) s₁) :
    WalkO q loose XP YP l.row.toRowW d [] (fun f vs => PySem.call f vs) := by
  intro w s₀ s₁ mg mb G Y fa o pm cd doc dV kV ho hd hcd hD hmg hg args vals as hpre hlay hrd hwl hlo
  obtain rfl : dV = .none := Dflts.none hD hdf
  obtain rfl : kV = .none := Dflts.noKw hD
  obtain ⟨a, vs, ns, rfl, rfl, hobj, hints, hlen⟩ := script_of hn hpre hwl
  refine enter_call (codeAny_mono (call w s₀ s₁ mg mb fa o pm cd doc a vs ns G Y ho (fd_plain hd) hcd hmg hobj hints hlen hg) fun r s' hq => ?_)
  obtain ⟨rfl, h2, h3, h4⟩ := hq
  exact ⟨.inl ⟨.bool true, .bool true, [], rfl, fun _ => rfl, .bool true, post_true l _, fun _ => ⟨List.Pairwise.nil, fun _ hm => (nomatch hm)⟩⟩, h2, h3, h4⟩

/-- the same where the top left finished generators (o_head chose holds_openN): nothing may have changed at all and no generator may be left -/
theorem attachN {l : OpenLaw} {n : Nat} {q : Program} {loose : List Str} {XP : (Str → Option Value) → Heap → Prop} {YP : World → Heap → Prop} {d : DefRec} {x : Str}
    (hn : l.most = some n) (hdf : d.params.defaults = [])
    (hbind : ∀ pm cd doc v : Value, bindArgs (docDef d.name d.params d.body d.scope pm cd doc) ⟨[v], []⟩ = pure [(x, v)])
    (hx : d.scope.names.lookup x = some .local ∨ d.scope.names.lookup x = some .cell)
    (hk : d.scope.kind = .function) (hco : d.scope.isCoroutine = false) (hgen : d.scope.isGenerator = false)
    (body : ∀ (w : World) (s₀ s₁ s : Shared) (mg mb : Str → Option Value) (fa : Addr) (o : Obj) (pm cd doc : Value) (a : Addr) (vs : List Value) (ns : List Int),
      Ground q loose [] XP w s₀ mg mb s₁.heap → YP w s₁.heap →
      s₁.heap.get? fa = some o → o.data = .func (docDef d.name d.params d.body d.scope pm cd doc) → s₁.heap.CodeRec cd d.name → mg d.name = some (.ref fa) →
      s₁.heap.get? a = some { cls := .type "list", data := .seq vs.toArray } → IntsAre vs ns → ns.length ≤ n →
      s.gens = #[] → s.os = s₁.os →
      Fr s₁.heap s₁.heap.objs.size s.heap (bindL (envOfC d.name d.scope s₁.heap.objs.size fa cd).kindOf [(x, .ref a)] fun _ => none) →
      Cl s₁.heap.objs.size (cellsFrom (s₁.heap.objs.size + 1) d.scope.names []) s.heap (bindC (envOfC d.name d.scope s₁.heap.objs.size fa cd).kindOf [(x, .ref a)] fun _ => none) →
      wpAny (model l.prog w) (callerA.deeper (envOfC d.name d.scope s₁.heap.objs.size fa cd)) (execs d.body (envOfC d.name d.scope s₁.heap.objs.size fa cd))
        (fun f s' => f = .ret (.bool true) ∧ (∀ b o, s₁.heap.get? b = some o → s'.heap.get? b = some o) ∧ s'.os = s₁.os ∧ s'.gens = #[]) (fun _ _ => False) s) :
    WalkN q loose XP YP l.row.toRowW d [] (fun f vs => PySem.call f vs) := by
  intro w s₀ s₁ mg mb G Y fa o pm cd doc dV kV ho hd hcd hD hmg hg args vals as hpre hlay hrd hwl hlo
  obtain rfl : dV = .none := Dflts.none hD hdf
  obtain rfl : kV = .none := Dflts.noKw hD
  obtain ⟨a, vs, ns, rfl, rfl, hobj, hints, hlen⟩ := script_of hn hpre hwl
  refine enter_callW ?_
  refine call_cells_ret (o := o) (by rw [depth_caller]; decide) ho (fd_plain hd) G.T.nolimit hcd (hbind pm cd doc (.ref a)) (fun y hy => ?_) (fun h₁ tk F X => ?_) hco hgen hk
  · obtain rfl : y = (x, Value.ref a) := List.mem_singleton.mp hy
    rcases hx with e | e
    · exact .inl e
    · exact .inr ⟨e, cellsFrom_some _ _ _ (.inl e)⟩
  · refine wpAny_mono (body w s₀ s₁ { s₁ with heap := h₁, toks := tk } mg mb fa o pm cd doc a vs ns G Y ho (fd_plain hd) hcd hmg hobj hints hlen hg rfl F X) (fun f s' hq => ?_) (fun _ _ hq => hq)
    obtain ⟨rfl, h2, h3, h4⟩ := hq
    exact ⟨.inl ⟨.bool true, .bool true, [], rfl, fun _ => rfl, .bool true, post_true l _, fun _ => ⟨List.Pairwise.nil, fun _ hm => (nomatch hm)⟩⟩, h2, h3, h4⟩

/-! ### rules over ANY heap (no ledger) from facts about the written part K: the library's own take a ledger (News) for what they write -/
section
variable {prog : Program} {w : World} {A : Around} {E : Value → Shared → Prop} {s : Shared} {K : Frag}

/-- a def of the module, or a method (qual 'C.m'), entered: the frame is the next address; cells behind it -/
theorem call_fn {R : Result → Shared → Prop} {name qual : Str} {params : Arguments} {body : List Stmt} {scope : Scope} {dV kV doc pm cdv ct oc : Value} {an od : Option Addr} {osl : Array (Option Value)} {f : Addr} {args : Args} {binds : List (Str × Value)}
    (X : K.In s.heap) (hlim : s.heap.NoLimit) (ho : K.lookup f = some ⟨oc, od, .func (fnOf name qual params body scope dV kV doc pm an cdv ct), osl⟩) (hcd : codeIn K cdv qual = true) (hroom : A.depth < recursionLimit)
    (hbind : BindsTo s (fnOf name qual params body scope dV kV doc pm an cdv ct) args binds)
    (hkind : (binds.all fun y => scope.names.lookup y.1 == some .local || scope.names.lookup y.1 == some .cell) = true)
    (h : ∀ s₁, InCallC s s.heap.objs.size (bindL (envOfC qual scope s.heap.objs.size f cdv).kindOf binds fun _ => none) (cellsFrom (s.heap.objs.size + 1) scope.names [])
        (bindC (envOfC qual scope s.heap.objs.size f cdv).kindOf binds fun _ => none) s₁ →
      wpAny (model prog w) (A.deeper (envOfC qual scope s.heap.objs.size f cdv)) (execs body (envOfC qual scope s.heap.objs.size f cdv))
        (fun fl s' => R (.ok (.ret (match fl with | .ret v => v | _ => .none))) s')
        (fun e s' => wpAny (model prog w) (A.deeper (envOfC qual scope s.heap.objs.size f cdv)) (leaving (envOfC qual scope s.heap.objs.size f cdv) e) (fun _ s'' => R (.error e) s'') (fun e' s'' => R (.error e') s'') s') s₁)
    (hco : scope.isCoroutine = false) (hgen : scope.isGenerator = false) (hk : scope.kind = .function) : codeAny (model prog w) A (.call (.ref f) args) R s := by
  refine codeAny_call_function hroom (X _ _ ho) rfl hco hgen rfl (codeRec_of X hcd) (hbind _ _ _ _ ?_)
  refine wpAny_newFunctionEnv_cells hk (kindsX hkind _) fun env he s₁ x => ?_
  subst he
  exact ⟨hlim.keeps x.toInCall.keep, codeAny_func (h s₁ x)⟩

/-- C(..): dict at size, instance at size + 1, then __init__ -/
theorem make_obj {R : Result → Shared → Prop} {C fI : Addr} {rest : List Value} {kw : List (Str × Value)}
    (X : K.In s.heap) (hm : makesIn K C = true) (hi : findIn K (.ref C) "__init__" = some (some (.ref fI))) (hf : isFn K (.ref fI) = true)
    (h : codeAny (model prog w) (A.under (.builtin "type.__call__" ⟨.ref C :: rest, kw⟩)) (.call (.ref fI) ⟨.ref (s.heap.objs.size + 1) :: rest, kw⟩) (InitBack (s.heap.objs.size + 1) R)
      { s with heap := (s.heap.push emptyDict).push (instObj C s.heap.objs.size) }) : codeAny (model prog w) A (.call (.ref C) ⟨rest, kw⟩) R s := by
  obtain ⟨hh, g, d, t, os⟩ := s
  exact make_core (makes_of X hm) (looks_findIn X hi) (fun self => bind_fn X self (beq_iff_eq.mp hf)) (.inl rfl) h

/-- x.name where the instance's dict holds the name and the class does not -/
theorem get_field {x C : Addr} {ox : Obj} {es : List DictEntry} {n : Nat} {name : Str} {expr : Bool} {v : Value} {Q : Value → Shared → Prop}
    (X : K.In s.heap) (I : PySem.W.InstAt s.heap x ox C (some (dictOf es n))) (hg : plainGet K C name = true) (hh : hasDictIn K C = true) (ha : findIn K (.ref C) name = some none)
    (hl : getL name es = some (some v)) (hv : handedIn v = true) (h : Q v { s with toks := s.toks + 1 }) : wpAny (model prog w) A (getAttr (.ref x) name expr) Q E s :=
  get_value X I (plainGet_of hg).1 (findObj_own hh ha rfl hl) hv h

/-- x.m(..): the method found in the class -/
theorem get_method {x C f : Addr} {ox : Obj} {es : List DictEntry} {n : Nat} {name : Str} {pl : Sem Bool} {Q : Value × List Value → Shared → Prop}
    (X : K.In s.heap) (I : PySem.W.InstAt s.heap x ox C (some (dictOf es n))) (hg : plainGet K C name = true) (hf : findIn K (.ref C) name = some (some (.ref f))) (ht : isFn K (.ref f) = true)
    (hl : getL name es = some none) (h : Q (.ref f, [.ref x]) s) : wpAny (model prog w) A (getMethod (.ref x) name pl) Q E s :=
  method_fn X I (plainGet_of hg).1 (plainGet_of hg).2 hf (beq_iff_eq.mp ht) (by show (lookIn name (dictOf es n)).map _ = _; rw [lookIn_dict, hl]; rfl) h

/-! the whole heap as the ledger: makes every rule that writes through a ledger a rule over any heap -/
def noObjs (h : Heap) : Heap := { h with objs := #[] }
theorem noObjs_get (h : Heap) (b : Addr) : (noObjs h).get? b = none := by
  cases e : (noObjs h).get? b with
  | none => rfl
  | some o => exact absurd (Heap.lt_size e) (Nat.not_lt_zero _)
def ledger (h : Heap) (L d : Addr) : List (Addr × Obj) := (List.range h.objs.size).filterMap fun a => if a = L ∨ a = d then none else (h.get? a).map fun o => (a, o)
theorem mem_ledger {h : Heap} {L d a : Addr} {o : Obj} : (a, o) ∈ ledger h L d ↔ a ≠ L ∧ a ≠ d ∧ h.get? a = some o := by
  unfold ledger
  rw [List.mem_filterMap]
  constructor
  · rintro ⟨b, _, e⟩
    split at e
    · cases e
    · rename_i hb
      obtain ⟨o', ho, e'⟩ := Option.map_eq_some_iff.mp e
      cases e'
      exact ⟨fun q => hb (.inl q), fun q => hb (.inr q), ho⟩
  · rintro ⟨n1, n2, ho⟩
    refine ⟨a, List.mem_range.mpr (Heap.lt_size ho), ?_⟩
    rw [if_neg (show ¬ (a = L ∨ a = d) from fun q => q.elim n1 n2), ho] <;> rfl
theorem news_ledger {h : Heap} {L d : Addr} {od : Obj} (hne : d ≠ L) (ho : h.get? d = some od) : News (noObjs h) L h ([] ++ (d, od) :: ledger h L d) := by
  rintro ⟨a, o⟩ hp
  rcases List.mem_cons.mp hp with e | hp
  · cases e
    exact ⟨ho, hne, noObjs_get _ _⟩
  · obtain ⟨n1, n2, e⟩ := mem_ledger.mp hp
    exact ⟨e, n1, noObjs_get _ _⟩
theorem fr_all {h : Heap} {L : Addr} {m : Str → Option Value} (n : h.Ns L m) : Fr (noObjs h) L h m :=
  ⟨n, fun b o e => (by rw [noObjs_get] at e; cases e), Nat.zero_le _⟩
/-- Upd of the head entry (for append_K, setItem_K ..) -/
theorem upd_ledger {h : Heap} {L d : Addr} {o o' : Obj} : Upd d o o' ((d, o) :: ledger h L d) ((d, o') :: ledger h L d) :=
  .head fun ⟨_, _⟩ hp => (mem_ledger.mp hp).2.1

/-- x.name = v over any heap: L is any namespace of the heap (the frame's, say): its map stays, its object is not told; all else but the dict stays -/
theorem set_field {x C dx L : Addr} {ox : Obj} {m : Str → Option Value} {es es' : List DictEntry} {n n' : Nat} {name : Str} {v : Value} {Q : Unit → Shared → Prop}
    (X : K.In s.heap) (I : PySem.W.InstAt s.heap x ox C (some (dictOf es n))) (hd : ox.dict = some dx) (hL : s.heap.Ns L m) (hne : dx ≠ L)
    (hs : findIn K (.ref C) "__setattr__" = some (some (.builtin "object.__setattr__"))) (hp : plainOver K C = true) (ht : takerIn K C name = some none) (hh : hasDictIn K C = true) (hl : (getL name es).isSome = true)
    (e : (putL name (PyData.keyHash w.params name) (.str name (s.toks + 1)) v es, putN name es n) = (es', n')) (hz : es'.length ≤ 1000)
    (h : ∀ h' : Heap, h'.Ns L m → h'.get? dx = some (dictOf es' n') → (∀ b o, b ≠ dx → b ≠ L → s.heap.get? b = some o → h'.get? b = some o) → Q () { s with heap := h', toks := s.toks + 2 }) :
    wpAny (model prog w) A (setAttr (.ref x) name v) Q E s := by
  obtain ⟨e1, e2⟩ := Prod.mk.inj e
  have hdx : s.heap.get? dx = some (dictOf es n) := by
    have := I.dict
    rw [hd] at this
    exact this
  refine set_plain X I hs (osa_dict (s := { s with toks := s.toks + 1 }) (h₀ := noObjs s.heap) (L := L) (m := m) (od := dictOf es n) (od' := dictOf es' n') (es := es') (n := n') (pre := []) (post := ledger s.heap L dx)
    (fr_all hL) (news_ledger hne hdx) X I hd hp ht hh hl (fun _ q => nomatch q) (fun ⟨_, _⟩ q => (mem_ledger.mp q).2.1) (by rw [putName_dict, e1, e2]) rfl hz fun h' F' N' => ?_)
  exact h h' F'.ns (N'.get (List.Mem.head _)) fun b o n1 n2 ho => N'.get (List.Mem.tail _ (mem_ledger.mpr ⟨n2, n1, ho⟩))
end
end Att

namespace L2
open PySem PySem.Spec PyProof.Rows

theorem vals_ints : ∀ {vs : List Value} {ns : List Int}, IntsAre vs ns → Vals (ns.map V.int) vs
  | _, _, .nil => .nil
  | _, _, .cons n t h => .cons ⟨t, rfl⟩ (vals_ints h)

/-- nothing is tracked but the script, known to the object (or it is an object of the module) -/
def Only (H : Hp) : Prop := ∀ b, H b = none ∨ ∃ o xs, H b = some (.frz o (.lst xs))

/-- THE HEAD: the law's promise, at the heap behind the top. F, the promise of the law's def, may use that base is part of the heap (so K.In base, base.Ns mainGlobals mg stand in Mod) -/
theorem law_call {P : Program} {w : World} {K : PySem.W.Frag} {mg mb : Str → Option Value} {CX : CXT} {k : Nat} {fa a : Addr} {fd : FuncData} {x : Str} {sp : Sp} {s₁ : Shared} {vs : List Value} {ns : List Int}
    (KX : K.In s₁.heap) (hns : s₁.heap.Ns mainGlobals mg) (hb : s₁.heap.Ns builtinsNs mb) (hbb : ∀ x : Str, x ≠ "__name__" → mb x = bootBuiltins x) (hlim : s₁.heap.NoLimit) (hg : s₁.gens = #[])
    (ha : s₁.heap.get? a = some { cls := .type "list", data := .seq vs.toArray }) (hi : IntsAre vs ns) (hl : ns.length ≤ sizeLine) (hr : Room k callerA)
    (F : ∀ base : Heap, K.In base → base.Ns mainGlobals mg → FnOk P w K mg base CX k fa fd [x] sp) (hbind : ∀ (s : Shared) (u : Value), BindsTo s fd ⟨[u], []⟩ [(x, u)])
    (hsp : ∀ H : Hp, Only H → SqL K H a (ns.map V.int) → sp [.ref a] H (fun v _ => v = .bl true) fun _ _ _ => False)
    (hCX : ∀ H e s', CX [] H s₁ (fun _ _ _ => False) e s' → False) :
    codeAny (model P w) callerA (.call (.ref fa) ⟨[.ref a], []⟩) (fun r s' => r = .ok (.ret (.bool true)) ∧ OldK s₁.heap s'.heap ∧ s'.os = s₁.os ∧ AllBare s'.gens) s₁ := by
  have rv := vals_ints hi
  have lenV := hi.length
  -- from an abstract heap in which nothing but the script may be tracked
  have core : ∀ H : Hp, Only H → SqL K H a (ns.map V.int) → HOk P w H s₁.heap → (∀ b, H b ≠ none → b = a) → (H a ≠ none → K.lookup a = none) →
      codeAny (model P w) callerA (.call (.ref fa) ⟨[.ref a], []⟩) (fun r s' => r = .ok (.ret (.bool true)) ∧ OldK s₁.heap s'.heap ∧ s'.os = s₁.os ∧ AllBare s'.gens) s₁ := by
    intro H hO hS hok hA hK
    have base_of : ∀ {b : Addr} {o : Obj}, s₁.heap.get? b = some o → H b = none → (hidT s₁.heap H).get? b = some o := fun e n => hidT_get e n
    have noA : ∀ {b : Addr} {o : Obj} {es : Array DictEntry} {ep : Nat}, s₁.heap.get? b = some o → o.data = .dict es ep → H b = none := fun {b o es ep} e d => by
      cases q : H b with
      | none => rfl
      | some u =>
        have e' : b = a := hA b (by rw [q]; simp)
        subst e'
        rw [ha] at e; cases e
        have d' : Data.seq vs.toArray _ = Data.dict es ep := d
        cases d'
    have nsK : ∀ {b : Addr} {m : Str → Option Value}, s₁.heap.Ns b m → (hidT s₁.heap H).Ns b m := fun {b m} ⟨o, es, ep, e, d, r⟩ => ⟨o, es, ep, base_of e (noA e d), d, r⟩
    have hKb : K.In (hidT s₁.heap H) := fun b o e => base_of (KX b o e) (by
      cases q : H b with
      | none => rfl
      | some u =>
        have e' : b = a := hA b (by rw [q]; simp)
        subst e'
        rw [hK (by rw [q]; simp)] at e; cases e)
    have hM : Mod K mg (hidT s₁.heap H) := ⟨hKb, nsK hns, ⟨mb, nsK hb, hbb⟩, let ⟨mc, h1, h2⟩ := hlim; ⟨mc, nsK h1, h2⟩⟩
    have e0 : Env0 P w K mg (hidT s₁.heap H) callerA [] s₁ H := ⟨rfl, hM, fun b o e => of_hidT e, Nat.le_of_eq (hidT_size _ _), trivial, fun b hb => absurd (show b ∈ ([] : List Addr) from hb) (by simp), hok, .of_eq hg⟩
    refine codeAny_mono ((F _ hKb (nsK hns)).run callerA [] s₁ H ⟨[.ref a], []⟩ [.ref a] [.ref a] _ _ hr e0 (hbind s₁ (.ref a)) (.cons rfl .nil) (hsp H hO hS)) fun r s' h => ?_
    cases r with
    | error e => exact (hCX H e s' h).elim
    | ok fl =>
      cases fl with
      | next => exact False.elim h
      | brk => exact False.elim h
      | cont => exact False.elim h
      | ret u =>
        obtain ⟨v, H', os, bare, un, hok', r', q⟩ := h
        have q' : v = .bl true := q
        subst q'
        obtain rfl : u = Value.bool true := r'
        refine ⟨rfl, OldK.of_keep fun b o e => ?_, os, bare⟩
        cases q : H b with
        | none => exact un.keep b o e q (by intro z; exact absurd (show b ∈ ([] : List Addr) from z) (by simp)) (by simp)
        | some u =>
          rcases hO b with z | ⟨ob, xs, z⟩
          · rw [q] at z; cases z
          · have z2 := un.frzs b ob _ z
            obtain ⟨e1, _⟩ := hok b _ z
            obtain ⟨e2, _⟩ := hok' b _ z2
            rw [e] at e1; cases e1
            exact e2
  cases hk : K.lookup a with
  | some o =>
    -- the script is one of the module's own objects
    have e := KX a o hk
    rw [ha] at e
    cases e
    refine core (fun _ => none) (fun _ => .inl rfl) (.inr ⟨_, vs.toArray, _, hk, rfl, rfl, rfl, by rw [List.size_toArray, lenV]; exact hl, by simpa using rv⟩) (fun b u z => by have z' : (none : Option HO) = some u := z; cases z') (fun b z => absurd rfl z) fun z => absurd rfl z
  | none =>
    refine core (fun b => if b = a then some (.frz { cls := .type "list", data := .seq vs.toArray } (.lst (ns.map V.int))) else none) (fun b => ?_) (.inl (.inr ⟨{ cls := .type "list", data := .seq vs.toArray }, if_pos rfl⟩)) (fun b u z => ?_) (fun b z => ?_) fun _ => hk
    · by_cases hb : b = a
      · exact .inr ⟨_, _, if_pos hb⟩
      · exact .inl (if_neg hb)
    · by_cases hb : b = a
      · have z' := (if_pos hb).symm.trans z
        cases z'
        subst hb
        exact ⟨ha, by rw [List.length_map]; exact hl, vs, _, rv, ha⟩
      · have z' := (if_neg hb).symm.trans z
        cases z'
    · by_cases hb : b = a
      · exact hb
      · exact absurd (if_neg hb) z
end L2

namespace L2
open PySem PySem.Spec PyProof.Rows

abbrev KOf {K : PySem.W.Frag} {h : Heap} (_ : K.In h) : PySem.W.Frag := K

/-- the goal that k_head leaves (case hc), from the law's promise. F gives the function object fd (K's own) once, then the promise over every base -/
theorem walk_of {l : PySem.W.OpenLaw} {n k : Nat} {q : Program} {loose : List Str} {XP : (Str → Option Value) → Heap → Prop} {YP : World → Heap → Prop} {d : DefRec} {K : Params → PySem.W.Frag} {CX : World → CXT} {sp : World → Sp} {x : Str}
    (hn : l.most = some n) (hn2 : n ≤ sizeLine) (hdf : d.params.defaults = []) (hr : Room k callerA)
    (hY : ∀ (w : World) (h : Heap), YP w h → (K w.params).In h)
    (F : ∀ (w : World) (mg : Str → Option Value) (fa : Addr) (h : Heap), (K w.params).In h → h.Ns mainGlobals mg → mg d.name = some (.ref fa) →
      ∃ fd : FuncData, (∀ (s : Shared) (u : Value), BindsTo s fd ⟨[u], []⟩ [(x, u)]) ∧
        ∀ base : Heap, (K w.params).In base → base.Ns mainGlobals mg → FnOk l.prog w (K w.params) mg base (CX w) k fa fd [x] (sp w))
    (hsp : ∀ (w : World) (H : Hp) (a : Addr) (ns : List Int), ns.length ≤ n → Only H → SqL (K w.params) H a (ns.map V.int) → sp w [.ref a] H (fun v _ => v = .bl true) fun _ _ _ => False)
    (hCX : ∀ (w : World) (H : Hp) (s : Shared) (e : Value) (s' : Shared), CX w [] H s (fun _ _ _ => False) e s' → False) :
    PySem.W.WalkO q loose XP YP l.row.toRowW d [] (fun f vs => PySem.call f vs) := by
  refine Att.attach_call hn hdf fun w s₀ s₁ mg mb fa o pm cd doc a vs ns G Y ho hd hcd hmg hobj hints hlen hg => ?_
  have KX := hY w _ Y
  obtain ⟨fd, hb, hF⟩ := F w mg fa _ KX G.T.g hmg
  exact law_call KX G.T.g G.T.b G.T.builtins G.T.nolimit hg hobj hints (Nat.le_trans hlen hn2) hr hF hb (fun H hO hS => hsp w H a ns hlen hO hS) fun H e s' => hCX w H s₁ e s'
/-- the same where the promise hangs on the written part alone: (sp := My.sp_law), no hole under a binder -/
theorem walk_ofK {l : PySem.W.OpenLaw} {n k : Nat} {q : Program} {loose : List Str} {XP : (Str → Option Value) → Heap → Prop} {YP : World → Heap → Prop} {d : DefRec} {K : Params → PySem.W.Frag} {CX : CXT} {sp : PySem.W.Frag → Sp} {x : Str}
    (hn : l.most = some n) (hn2 : n ≤ sizeLine) (hdf : d.params.defaults = []) (hr : Room k callerA)
    (hY : ∀ (w : World) (h : Heap), YP w h → (K w.params).In h)
    (F : ∀ (w : World) (mg : Str → Option Value) (fa : Addr) (h : Heap), (K w.params).In h → h.Ns mainGlobals mg → mg d.name = some (.ref fa) →
      ∃ fd : FuncData, (∀ (s : Shared) (u : Value), BindsTo s fd ⟨[u], []⟩ [(x, u)]) ∧
        ∀ base : Heap, (K w.params).In base → base.Ns mainGlobals mg → FnOk l.prog w (K w.params) mg base CX k fa fd [x] (sp (K w.params)))
    (hsp : ∀ (K : PySem.W.Frag) (H : Hp) (a : Addr) (ns : List Int), ns.length ≤ n → Only H → SqL K H a (ns.map V.int) → sp K [.ref a] H (fun v _ => v = .bl true) fun _ _ _ => False)
    (hCX : ∀ (H : Hp) (s : Shared) (e : Value) (s' : Shared), CX [] H s (fun _ _ _ => False) e s' → False) :
    PySem.W.WalkO q loose XP YP l.row.toRowW d [] (fun f vs => PySem.call f vs) :=
  walk_of (K := K) (CX := fun _ => CX) (sp := fun w => sp (K w.params)) hn hn2 hdf hr hY F (fun w H a ns h1 h2 h3 => hsp (K w.params) H a ns h1 h2 h3) fun _ H s e s' => hCX H s e s'
end L2


/-! SHORT WORDS over the layer: a def of the text, its body, what a loop and a test want. -/
namespace L2
open PySem PySem.Spec PyProof.Rows

/-! ### the text by places -/
/-- the j-th statement of a class's body -/
def inClass (s : Stmt) (j : Nat) : Stmt := match s with
  | .ClassDef _ _ _ body _ _ _ _ _ _ _ => body.getD j (.Pass ⟨0, 0, 0, 0⟩)
  | _ => .Pass ⟨0, 0, 0, 0⟩
def defArgs (s : Stmt) : Arguments := match s with
  | .FunctionDef _ a _ _ _ _ _ _ _ _ => a
  | _ => { posonlyargs := [], args := [], vararg := none, kwonlyargs := [], kw_defaults := [], kwarg := none, defaults := [] }
def defBody (s : Stmt) : List Stmt := match s with
  | .FunctionDef _ _ b _ _ _ _ _ _ _ => b
  | _ => []
def defScope (s : Stmt) : Scope := match s with
  | .FunctionDef _ _ _ _ _ _ sc _ _ _ => sc
  | _ => { kind := .function, names := [], isGenerator := false, isCoroutine := false }

/-! ### no exception leaves a def -/
abbrev CX0 : CXT := fun _ _ _ _ _ _ => False
abbrev E0 : XK := fun _ _ _ => False
theorem pass0 {X : Cx} : Passes CX0 X E0 := fun _ _ _ _ _ _ _ h => h.elim

/-! ### a def (or method) of the text as it stands behind the top -/
structure Fun (K : PySem.W.Frag) (x qual : Str) (st : Stmt) (f : Addr) (fd : FuncData) : Prop where
  ex : ∃ (oc : Value) (od : Option Addr) (kV doc pm : Value) (an : Option Addr) (cdv ct : Value) (osl : Array (Option Value)),
    fd = PySem.W.fnOf x qual (defArgs st) (defBody st) (defScope st) .none kV doc pm an cdv ct ∧ K.lookup f = some ⟨oc, od, .func fd, osl⟩ ∧ PySem.W.codeIn K cdv qual = true
  kp : PySem.W.keepIn K (.ref f) = true
section
variable {P : Program} {w : World} {K : PySem.W.Frag} {mg : Str → Option Value} {base : Heap}
/-- THE RULE for a def: its body as a term of rules, and the reading of that term -/
theorem Fun.ok {x qual : Str} {st : Stmt} {f : Addr} {fd : FuncData} {N ps : List Str} {k : Nat} {sp : Sp} (F : Fun K x qual st f fd) (S : FnScope N ps (defScope st)) (len : ∀ vs H Q E, sp vs H Q E → vs.length = ps.length)
    (hbody : ∀ (cdv : Value) (A : Around) (outer : List Env) (s : Shared) (H : Hp) (vs : List V) (Q : VK) (E : XK), Room k (A.deeper (envOfC qual (defScope st) s.heap.objs.size f cdv)) → sp vs H Q E →
      ∃ t, PSs (cxOf CX0 P w K mg base N qual (defScope st) f cdv A outer s H E).nox (defBody st) t ∧ t { nx := fun _ H' => Q .non H', rt := Q } (start N vs) H) : FnOk P w K mg base CX0 (k + 1) f fd ps sp := by
  obtain ⟨oc, od, kV, doc, pm, an, cdv, ct, osl, rfl, lk, hcd⟩ := F.ex
  refine fn_of lk hcd S len fun A outer s H vs Q E hr hsp => ?_
  obtain ⟨t, h, q⟩ := hbody cdv A outer s H vs Q E hr hsp
  exact ⟨t, h.nox, q⟩
/-- how its arguments bind (no defaults): h is «fun _ _ _ _ _ _ us hl => match us, hl with | [_, _], _ => rfl», one _ a parameter -/
theorem Fun.binds {x qual : Str} {st : Stmt} {f : Addr} {fd : FuncData} {ps : List Str} (F : Fun K x qual st f fd)
    (h : ∀ (kV doc pm : Value) (an : Option Addr) (cdv ct : Value) (us : List Value), us.length = ps.length → bindArgs (PySem.W.fnOf x qual (defArgs st) (defBody st) (defScope st) .none kV doc pm an cdv ct) ⟨us, []⟩ = pure (ps.zip us)) : Binds K fd ps [] := by
  obtain ⟨oc, od, kV, doc, pm, an, cdv, ct, osl, rfl, lk, hcd⟩ := F.ex
  exact .all (h kV doc pm an cdv ct)
theorem fun_mk {x qual : Str} {st : Stmt} {f : Addr} {oc : Value} {od an : Option Addr} {osl : Array (Option Value)} {kV doc pm cdv ct : Value} (l : K.lookup f = some ⟨oc, od, .func (PySem.W.fnOf x qual (defArgs st) (defBody st) (defScope st) .none kV doc pm an cdv ct), osl⟩)
    (c : PySem.W.codeIn K cdv qual = true) (k : PySem.W.keepIn K (.ref f) = true) : Fun K x qual st f (PySem.W.fnOf x qual (defArgs st) (defBody st) (defScope st) .none kV doc pm an cdv ct) := ⟨⟨oc, od, kV, doc, pm, an, cdv, ct, osl, rfl, l, c⟩, k⟩
end
theorem hu_of {A : Around} {k : Nat} (hr : Room k A) : A.units + 1 < cLine := Nat.lt_of_le_of_lt (Nat.add_le_add_left (by decide : 1 ≤ 64) _) hr.units
theorem small1000 {n : Nat} (h : n ≤ 1000) : n < sizeLine := Nat.lt_of_le_of_lt h (by decide)

/-! ### expressions in short: the name that stands in the i-th slot -/
section
variable {X : Cx}
theorem pv (i : Nat) {x : Str} {pos : Pos} (hN : X.N[i]? = some x := by rfl) (hv : Vis X.env.scope x := by first | exact Or.inl rfl | exact Or.inr (Or.inl rfl) | exact Or.inr (Or.inr rfl)) (hd : (x == ("__debug__" : Str)) = false := by decide)
    (hcd : (x == ("__classdict__" : Str)) = false := by decide) : PE X (.Name x pos) (tVar i) := pe_var hN hv hd hcd
end

/-! ### tests -/
theorem iteF {A B : Prop} (h : B) : if false = true then A else B := by
  rw [if_neg Bool.false_ne_true]
  exact h
theorem iteT {A B : Prop} (h : A) : if true = true then A else B := by
  rw [if_pos rfl]
  exact h
theorem ite2 {c A B : Prop} [Decidable c] (h1 : c → A) (h2 : ¬ c → B) : if c then A else B := by
  by_cases h : c
  · rw [if_pos h]
    exact h1 h
  · rw [if_neg h]
    exact h2 h
theorem iteNS {c A B : Prop} [Decidable c] (hc : c) (h : B) : if (!decide c) = true then A else B := by
  rw [decide_eq_true hc]
  exact iteF h

/-! ### heaps -/
/-- all that was tracked is as it was -/
def Same (H H' : Hp) : Prop := ∀ b o, H b = some o → H' b = some o
theorem Same.refl (H : Hp) : Same H H := fun _ _ h => h
theorem Same.trans {H H1 H2 : Hp} (a : Same H H1) (b : Same H1 H2) : Same H H2 := fun c o h => b c o (a c o h)
theorem Same.free {H H' : Hp} (e : Same H H') {l : Addr} (h : H' l = Option.none) : H l = Option.none := by
  cases q : H l with
  | none => rfl
  | some o =>
    rw [e l o q] at h
    cases h
theorem Same.seq {K : PySem.W.Frag} {H H' : Hp} {a : Addr} {xs : List V} (e : Same H H') (h : SqL K H a xs) : SqL K H' a xs := by
  rcases h with (h | ⟨o, h⟩) | h
  · exact .inl (.inl (e _ _ h))
  · exact .inl (.inr ⟨o, e _ _ h⟩)
  · exact .inr h

end L2

section
set_option Elab.async false
set_option linter.all false
set_option maxRecDepth 100000
set_option maxHeartbeats 4000000
namespace Sh
open PySem PySem.Spec PyProof.Rows L2

/-! ### rules that the layer lacks -/
section
variable {X : Cx}
theorem sl_str : SlR X (fun x lo hi H Q => ∃ z : Str, x = .str z ∧ z.length ≤ sizeLine ∧ Q (.str (Txt.slice z lo hi)) H) := by
  intro pins s σ H x v vl vu lo hi sl Q I rx hs pl pu h
  obtain ⟨z, rfl, hz, q⟩ := h
  obtain ⟨t, rfl⟩ := rx
  refine ⟨"str", _, F.slot_str_getitem.lookup, typeIs_str _ _ _, ?_⟩
  cases pl with
  | none =>
    cases pu with
    | none => exact wpAny_getItem_str_slice (l := none) (u := none) (st := none) hs rfl (post_val_or_str ⟨Nat.le_trans (Txt.slice_le z _ _) hz, fun t' k => ⟨.str _, H, I.tok k, ⟨t', rfl⟩, q⟩⟩)
    | int j uj => exact wpAny_getItem_str_slice (l := none) (u := some (j, uj)) (st := none) hs rfl (post_val_or_str ⟨Nat.le_trans (Txt.slice_le z _ _) hz, fun t' k => ⟨.str _, H, I.tok k, ⟨t', rfl⟩, q⟩⟩)
  | int i ui =>
    cases pu with
    | none => exact wpAny_getItem_str_slice (l := some (i, ui)) (u := none) (st := none) hs rfl (post_val_or_str ⟨Nat.le_trans (Txt.slice_le z _ _) hz, fun t' k => ⟨.str _, H, I.tok k, ⟨t', rfl⟩, q⟩⟩)
    | int j uj => exact wpAny_getItem_str_slice (l := some (i, ui)) (u := some (j, uj)) (st := none) hs rfl (post_val_or_str ⟨Nat.le_trans (Txt.slice_le z _ _) hz, fun t' k => ⟨.str _, H, I.tok k, ⟨t', rfl⟩, q⟩⟩)

theorem call_isinst : CallR X (.builtin "isinstance") (fun xs H Q => ∃ x T t b, xs = [x, .ty T] ∧ TyOf X.K H x t ∧ PySem.W.kitOne X.K t (.type T) = some b ∧ Q (.bl b) H) := by
  intro pins s σ H xs us Q I r h
  obtain ⟨x, T, t, b, rfl, ty, e, q⟩ := h
  obtain ⟨u, c, rfl, rx, rc⟩ := vals2 r
  cases (show c = Value.type T from rc)
  exact isinst_ok I rx ty e fun tk => ⟨.bl b, H, I.tok tk, rfl, q⟩

theorem kit_int_int {K : PySem.W.Frag} : PySem.W.kitOne K (.type "int") (.type "int") = some true := by with_unfolding_all rfl
theorem kit_int_bool {K : PySem.W.Frag} : PySem.W.kitOne K (.type "int") (.type "bool") = some false := by with_unfolding_all rfl
end
end Sh

end
section
set_option Elab.async false
set_option linter.all false
set_option maxRecDepth 100000
set_option maxHeartbeats 4000000
namespace Sh
open PySem PySem.Spec PyProof.Rows L2

/-! ### words: terms and forms -/
inductive Tag where
  | fn | rel | no | same | cond | all
  deriving DecidableEq
def Tag.s : Tag → Str
  | .fn => "fun" | .rel => "rel" | .no => "no" | .same => "same" | .cond => "if" | .all => "all"
def Tag.named : Tag → Bool
  | .fn => true | .rel => true | _ => false
inductive Wd where
  | var (n : Int)
  | node (t : Tag) (nm : Str) (ps : List Wd)
def Wd.parts : Wd → List Wd
  | .var _ => []
  | .node _ _ ps => ps
mutual
def knots : Wd → Nat
  | .var _ => 1
  | .node _ _ ps => 1 + knotsL ps
def knotsL : List Wd → Nat
  | [] => 0
  | w :: ws => knots w + knotsL ws
end
mutual
def dep : Wd → Nat
  | .var _ => 1
  | .node _ _ ps => 1 + depL ps
def depL : List Wd → Nat
  | [] => 0
  | w :: ws => max (dep w) (depL ws)
end
theorem dep_pos : ∀ w : Wd, 1 ≤ dep w
  | .var _ => by rw [dep]; exact Nat.le_refl _
  | .node _ _ ps => by rw [dep]; omega
theorem knots_pos : ∀ w : Wd, 1 ≤ knots w
  | .var _ => by rw [knots]; exact Nat.le_refl _
  | .node _ _ ps => by rw [knots]; omega
theorem knots_parts (w : Wd) : knots w = 1 + knotsL w.parts := by
  cases w with
  | var n => simp only [Wd.parts, knots, knotsL]
  | node t nm ps => simp only [Wd.parts, knots]
theorem dep_parts {w : Wd} {p : Wd} (h : p ∈ w.parts) : dep p < dep w := by
  have aux : ∀ (ps : List Wd), p ∈ ps → dep p ≤ depL ps := by
    intro ps
    induction ps with
    | nil => intro h; cases h
    | cons q r ih =>
      intro h
      rw [depL]
      rcases List.mem_cons.mp h with rfl | h
      · omega
      · have := ih h; omega
  cases w with
  | var n => cases h
  | node t nm ps =>
    have := aux ps h
    rw [dep]; omega
theorem depL_le {n : Nat} : ∀ {ps : List Wd}, (∀ p ∈ ps, dep p ≤ n) → depL ps ≤ n
  | [], _ => by rw [depL]; omega
  | p :: r, h => by
    have h1 := h p (List.mem_cons_self ..)
    have h2 := depL_le (ps := r) fun q hq => h q (List.mem_cons_of_mem _ hq)
    rw [depL]; omega
theorem knotsL_append : ∀ a b : List Wd, knotsL (a ++ b) = knotsL a + knotsL b
  | [], b => by simp only [List.nil_append, knotsL, Nat.zero_add]
  | w :: r, b => by simp only [List.cons_append, knotsL, knotsL_append r b, Nat.add_assoc]
theorem knotsL_le {n : Nat} : ∀ {ps : List Wd}, (∀ p ∈ ps, knots p ≤ n) → knotsL ps ≤ ps.length * n
  | [], _ => by simp only [knotsL, List.length_nil, Nat.zero_mul]; exact Nat.le_refl _
  | p :: r, h => by
    have h1 := h p (List.mem_cons_self ..)
    have h2 := knotsL_le (ps := r) fun q hq => h q (List.mem_cons_of_mem _ hq)
    simp only [knotsL, List.length_cons, Nat.add_mul, Nat.one_mul]; omega
theorem len_le_knotsL : ∀ ps : List Wd, ps.length ≤ knotsL ps
  | [] => Nat.zero_le _
  | p :: r => by
    have h1 := knots_pos p
    have h2 := len_le_knotsL r
    rw [knotsL, List.length_cons]; omega

/-! ### names, terms, forms -/
def IsName (x : Str) : Prop := 1 ≤ x.length ∧ x.length ≤ 12 ∧ ∀ c ∈ x.cps.toList, 97 ≤ c ∧ c ≤ 122
def IsTerm : Nat → Wd → Prop
  | _, .var n => 0 ≤ n ∧ n < 1000
  | 0, .node _ _ _ => False
  | d + 1, .node t nm ps => t = .fn ∧ IsName nm ∧ ps.length ≤ 3 ∧ ∀ p ∈ ps, IsTerm d p
def IsForm : Nat → Wd → Prop
  | _, .var _ => False
  | d, .node t nm ps => match t with
    | .fn => False
    | .no => nm = "" ∧ ps = []
    | .same => nm = "" ∧ ∃ a b, ps = [a, b] ∧ IsTerm 2 a ∧ IsTerm 2 b
    | .rel => IsName nm ∧ ps.length ≤ 3 ∧ ∀ p ∈ ps, IsTerm 2 p
    | .cond => match d with
      | 0 => False
      | d + 1 => nm = "" ∧ ∃ a b, ps = [a, b] ∧ IsForm d a ∧ IsForm d b
    | .all => match d with
      | 0 => False
      | d + 1 => nm = "" ∧ ∃ a, ps = [a] ∧ IsForm d a
theorem IsTerm.mono : ∀ {d e : Nat} {w : Wd}, IsTerm d w → d ≤ e → IsTerm e w
  | d, e, .var n, h, _ => by
    have h' : 0 ≤ n ∧ n < 1000 := by cases d <;> simpa only [IsTerm] using h
    cases e <;> simpa only [IsTerm] using h'
  | 0, e, .node t nm ps, h, _ => by simp only [IsTerm] at h
  | d + 1, e, .node t nm ps, h, le => by
    cases e with
    | zero => omega
    | succ e =>
      simp only [IsTerm] at h ⊢
      exact ⟨h.1, h.2.1, h.2.2.1, fun p hp => (h.2.2.2 p hp).mono (by omega)⟩
theorem IsTerm.dep : ∀ {d : Nat} {w : Wd}, IsTerm d w → dep w ≤ d + 1
  | d, .var n, _ => by rw [Sh.dep]; omega
  | 0, .node t nm ps, h => by simp only [IsTerm] at h
  | d + 1, .node t nm ps, h => by
    simp only [IsTerm] at h
    have := depL_le (n := d + 1) fun p hp => (h.2.2.2 p hp).dep
    rw [Sh.dep]; omega
theorem IsTerm.knots2 {w : Wd} (h : IsTerm 2 w) : knots w ≤ 13 := by
  have k0 : ∀ {w : Wd}, IsTerm 0 w → knots w ≤ 1 := by
    intro w h
    cases w with
    | var n => rw [knots]; exact Nat.le_refl _
    | node t nm ps => simp only [IsTerm] at h
  have k1 : ∀ {w : Wd}, IsTerm 1 w → knots w ≤ 4 := by
    intro w h
    cases w with
    | var n => rw [knots]; omega
    | node t nm ps =>
      simp only [IsTerm] at h
      have := knotsL_le (n := 1) fun p hp => k0 (h.2.2.2 p hp)
      have := h.2.2.1
      rw [knots]; omega
  cases w with
  | var n => rw [knots]; omega
  | node t nm ps =>
    simp only [IsTerm] at h
    have := knotsL_le (n := 4) fun p hp => k1 (h.2.2.2 p hp)
    have := h.2.2.1
    rw [knots]; omega
theorem IsForm.mono : ∀ {d e : Nat} {w : Wd}, IsForm d w → d ≤ e → IsForm e w
  | d, e, .var n, h, _ => by simp only [IsForm] at h
  | d, e, .node t nm ps, h, le => by
    cases t with
    | fn => simp only [IsForm] at h
    | no => simp only [IsForm] at h ⊢; exact h
    | same => simp only [IsForm] at h ⊢; exact h
    | rel => simp only [IsForm] at h ⊢; exact h
    | cond =>
      cases d with
      | zero => simp only [IsForm] at h
      | succ d =>
        cases e with
        | zero => omega
        | succ e =>
          simp only [IsForm] at h ⊢
          obtain ⟨h0, a, b, rfl, ha, hb⟩ := h
          exact ⟨h0, a, b, rfl, ha.mono (by omega), hb.mono (by omega)⟩
    | all =>
      cases d with
      | zero => simp only [IsForm] at h
      | succ d =>
        cases e with
        | zero => omega
        | succ e =>
          simp only [IsForm] at h ⊢
          obtain ⟨h0, a, rfl, ha⟩ := h
          exact ⟨h0, a, rfl, ha.mono (by omega)⟩
theorem IsForm.dep : ∀ {d : Nat} {w : Wd}, IsForm d w → dep w ≤ d + 4
  | d, .var n, h => by simp only [IsForm] at h
  | d, .node t nm ps, h => by
    cases t with
    | fn => simp only [IsForm] at h
    | no => simp only [IsForm] at h; rw [h.2, Sh.dep, depL]; omega
    | same =>
      simp only [IsForm] at h
      obtain ⟨_, a, b, rfl, ha, hb⟩ := h
      have := ha.dep; have := hb.dep
      simp only [Sh.dep, depL]; omega
    | rel =>
      simp only [IsForm] at h
      have := depL_le (n := 3) fun p hp => (h.2.2 p hp).dep
      rw [Sh.dep]; omega
    | cond =>
      cases d with
      | zero => simp only [IsForm] at h
      | succ d =>
        simp only [IsForm] at h
        obtain ⟨h0, a, b, rfl, ha, hb⟩ := h
        have := ha.dep; have := hb.dep
        simp only [Sh.dep, depL]; omega
    | all =>
      cases d with
      | zero => simp only [IsForm] at h
      | succ d =>
        simp only [IsForm] at h
        obtain ⟨h0, a, rfl, ha⟩ := h
        have := ha.dep
        simp only [Sh.dep, depL]; omega
theorem IsForm.knots : ∀ {d : Nat} {w : Wd}, IsForm d w → knots w + 1 ≤ 41 * 2 ^ d
  | d, .var n, h => by simp only [IsForm] at h
  | d, .node t nm ps, h => by
    have hp := Nat.one_le_two_pow (n := d)
    cases t with
    | fn => simp only [IsForm] at h
    | no => simp only [IsForm] at h; rw [h.2, Sh.knots, knotsL]; omega
    | same =>
      simp only [IsForm] at h
      obtain ⟨_, a, b, rfl, ha, hb⟩ := h
      have := ha.knots2; have := hb.knots2
      simp only [Sh.knots, knotsL]; omega
    | rel =>
      simp only [IsForm] at h
      have := knotsL_le (n := 13) fun p hp => (h.2.2 p hp).knots2
      rw [Sh.knots]; omega
    | cond =>
      cases d with
      | zero => simp only [IsForm] at h
      | succ d =>
        simp only [IsForm] at h
        obtain ⟨h0, a, b, rfl, ha, hb⟩ := h
        have := ha.knots; have := hb.knots
        simp only [Sh.knots, knotsL, Nat.pow_succ]; omega
    | all =>
      cases d with
      | zero => simp only [IsForm] at h
      | succ d =>
        simp only [IsForm] at h
        obtain ⟨h0, a, rfl, ha⟩ := h
        have := ha.knots
        simp only [Sh.knots, knotsL, Nat.pow_succ]; omega

/-! ### words in the heap -/
inductive Shp (H : Hp) (a : Addr) (t : Tag) (nm : Str) (vs : List V) : Prop
  | named (b : Addr) (hn : t.named = true) (ha : H a = some (.tup [.str t.s, .str nm, .ref b])) (hb : H b = some (.tup vs))
  | plain (hn : t.named = false) (ha : H a = some (.tup (.str t.s :: vs))) (hm : nm = "")
mutual
def Rw (H : Hp) : Wd → V → Prop
  | .var n, v => ∃ a, v = .ref a ∧ H a = some (.tup [.str "var", .int n])
  | .node t nm ps, v => ∃ a vs, v = .ref a ∧ Rws H ps vs ∧ Shp H a t nm vs
def Rws (H : Hp) : List Wd → List V → Prop
  | [], vs => vs = []
  | w :: ws, vs => ∃ v r, vs = v :: r ∧ Rw H w v ∧ Rws H ws r
end
/-- tuples are kept -/
def Tk (H H' : Hp) : Prop := ∀ b xs, H b = some (.tup xs) → H' b = some (.tup xs)
theorem Tk.refl (H : Hp) : Tk H H := fun _ _ h => h
theorem Tk.trans {H H1 H2 : Hp} (a : Tk H H1) (b : Tk H1 H2) : Tk H H2 := fun c o h => b c o (a c o h)
theorem tk_lst {H : Hp} {p : Addr} {xs : List V} (h : H p = some (.lst xs)) (o : HO) : Tk H (upd H p o) := fun b ys q => by
  rw [upd_ne (ne_of q h (by intro z; cases z))]; exact q
theorem Shp.mono {H H' : Hp} (k : Tk H H') {a : Addr} {t : Tag} {nm : Str} {vs : List V} (h : Shp H a t nm vs) : Shp H' a t nm vs := by
  cases h with
  | named b hn ha hb => exact .named b hn (k _ _ ha) (k _ _ hb)
  | plain hn ha hm => exact .plain hn (k _ _ ha) hm
mutual
theorem Rw.mono {H H' : Hp} (k : Tk H H') : ∀ {w : Wd} {v : V}, Rw H w v → Rw H' w v
  | .var n, v, h => by
    rw [Rw] at h ⊢
    obtain ⟨a, e, q⟩ := h
    exact ⟨a, e, k _ _ q⟩
  | .node t nm ps, v, h => by
    rw [Rw] at h ⊢
    obtain ⟨a, vs, e, q, r⟩ := h
    exact ⟨a, vs, e, Rws.mono k q, r.mono k⟩
theorem Rws.mono {H H' : Hp} (k : Tk H H') : ∀ {ws : List Wd} {vs : List V}, Rws H ws vs → Rws H' ws vs
  | [], vs, h => by rw [Rws] at h ⊢; exact h
  | w :: ws, vs, h => by
    rw [Rws] at h ⊢
    obtain ⟨v, r, e, q, z⟩ := h
    exact ⟨v, r, e, Rw.mono k q, Rws.mono k z⟩
end
theorem Rws.nil {H : Hp} : Rws H [] [] := by rw [Rws]
theorem Rws.cons {H : Hp} {w : Wd} {ws : List Wd} {v : V} {vs : List V} (h : Rw H w v) (r : Rws H ws vs) : Rws H (w :: ws) (v :: vs) := by
  rw [Rws]; exact ⟨v, vs, rfl, h, r⟩
theorem Rws.length {H : Hp} : ∀ {ws : List Wd} {vs : List V}, Rws H ws vs → vs.length = ws.length
  | [], vs, h => by rw [Rws] at h; rw [h]; rfl
  | w :: ws, vs, h => by
    rw [Rws] at h
    obtain ⟨v, r, rfl, _, z⟩ := h
    rw [List.length_cons, List.length_cons, Rws.length z]
theorem Rws.get {H : Hp} : ∀ {ws : List Wd} {vs : List V} {i : Nat} {v : V}, Rws H ws vs → vs[i]? = some v → ∃ w, ws[i]? = some w ∧ Rw H w v
  | [], vs, i, v, h, e => by rw [Rws] at h; subst h; cases e
  | w :: ws, vs, i, v, h, e => by
    rw [Rws] at h
    obtain ⟨u, r, rfl, q, z⟩ := h
    cases i with
    | zero =>
      have e' : u = v := Option.some.inj (by simpa using e)
      subst e'
      exact ⟨w, rfl, q⟩
    | succ i => exact Rws.get (i := i) z (by simpa using e)
theorem Rws.append {H : Hp} : ∀ {ws : List Wd} {vs : List V} {ws' : List Wd} {vs' : List V}, Rws H ws vs → Rws H ws' vs' → Rws H (ws ++ ws') (vs ++ vs')
  | [], vs, ws', vs', h, h' => by rw [Rws] at h; subst h; exact h'
  | w :: ws, vs, ws', vs', h, h' => by
    rw [Rws] at h
    obtain ⟨u, r, rfl, q, z⟩ := h
    exact Rws.cons q (Rws.append z h')
theorem Rws.snoc {H : Hp} {ws : List Wd} {vs : List V} {w : Wd} {v : V} (h : Rws H ws vs) (q : Rw H w v) : Rws H (ws ++ [w]) (vs ++ [v]) := h.append (.cons q .nil)
theorem Rws.unsnoc {H : Hp} : ∀ {ws : List Wd} {vs : List V}, Rws H ws vs → vs ≠ [] → ∃ ws' w v, ws = ws' ++ [w] ∧ vs[vs.length - 1]? = some v ∧ Rw H w v ∧ Rws H ws' vs.dropLast
  | [], vs, h, n => by rw [Rws] at h; exact absurd h n
  | w :: ws, vs, h, n => by
    rw [Rws] at h
    obtain ⟨u, r, rfl, q, z⟩ := h
    cases r with
    | nil =>
      cases ws with
      | nil => exact ⟨[], w, u, rfl, rfl, q, .nil⟩
      | cons w' ws' => rw [Rws] at z; obtain ⟨_, _, e, _⟩ := z; cases e
    | cons u' r' =>
      obtain ⟨ws', w1, v1, e1, e2, q1, q2⟩ := Rws.unsnoc z (by intro e; cases e)
      refine ⟨w :: ws', w1, v1, by rw [e1]; rfl, ?_, q1, ?_⟩
      · simpa using e2
      · rw [List.dropLast_cons_of_ne_nil (by intro e; cases e)]
        exact .cons q q2
theorem Rw.var {H : Hp} {a : Addr} {n : Int} (h : H a = some (.tup [.str "var", .int n])) : Rw H (.var n) (.ref a) := by rw [Rw]; exact ⟨a, rfl, h⟩
theorem Rw.node {H : Hp} {a : Addr} {t : Tag} {nm : Str} {ps : List Wd} {vs : List V} (r : Rws H ps vs) (h : Shp H a t nm vs) : Rw H (.node t nm ps) (.ref a) := by rw [Rw]; exact ⟨a, vs, rfl, r, h⟩

/-! ### places -/
theorem at0 {α : Type} {x : α} {xs : List α} : atI (x :: xs) 0 = some x := by simp [atI, ixN]
theorem at1 {α : Type} {x y : α} {xs : List α} : atI (x :: y :: xs) 1 = some y := by
  have h : (1 : Int) < ((x :: y :: xs).length : Int) := by simp only [List.length_cons]; omega
  unfold atI ixN; rw [if_pos (by decide), if_pos h]; rfl
theorem at2 {α : Type} {x y z : α} {xs : List α} : atI (x :: y :: z :: xs) 2 = some z := by
  have h : (2 : Int) < ((x :: y :: z :: xs).length : Int) := by simp only [List.length_cons]; omega
  unfold atI ixN; rw [if_pos (by decide), if_pos h]; rfl

/-! ### tags as texts -/
theorem tag_var (t : Tag) : decide (V.str t.s = V.str "var") = false := by cases t <;> decide +kernel
theorem tag_in (t : Tag) : inV (.str t.s) [.str "fun", .str "rel"] = t.named := by cases t <;> decide +kernel
theorem var_var : decide (V.str "var" = V.str "var") = true := decide_eq_true rfl
theorem tag_eq (t u : Tag) : decide (V.str t.s = V.str u.s) = decide (t = u) := by cases t <;> cases u <;> decide +kernel
end Sh

end
section
set_option Elab.async false
set_option linter.all false
set_option maxRecDepth 100000
set_option maxHeartbeats 4000000
namespace Sh
open PySem PySem.Spec PyProof.Rows L2

/-! ### a def of the text, and its promise, by its name -/
def Def (K : PySem.W.Frag) (mg : Str → Option Value) (x : Str) (st : Stmt) (ps : List Str) : Prop :=
  ∃ f fd, Fun K x x st f fd ∧ Binds K fd ps [] ∧ mg x = some (.ref f)
def Ok (P : Program) (w : World) (K : PySem.W.Frag) (mg : Str → Option Value) (base : Heap) (x : Str) (ps : List Str) (k : Nat) (sp : Sp) : Prop :=
  ∃ f fd, FnOk P w K mg base CX0 k f fd ps sp ∧ Binds K fd ps [] ∧ mg x = some (.ref f) ∧ PySem.W.keepIn K (.ref f) = true
section
variable {P : Program} {w : World} {K : PySem.W.Frag} {mg : Str → Option Value} {base : Heap} {x : Str} {st : Stmt} {N ps : List Str} {k : Nat} {sp : Sp}
theorem Def.ok (D : Def K mg x st ps) (S : FnScope N ps (defScope st)) (len : ∀ vs H Q E, sp vs H Q E → vs.length = ps.length)
    (hbody : ∀ (f : Addr) (cdv : Value) (A : Around) (outer : List Env) (s : Shared) (H : Hp) (vs : List V) (Q : VK) (E : XK), Room k (A.deeper (envOfC x (defScope st) s.heap.objs.size f cdv)) → sp vs H Q E →
      ∃ t, PSs (cxOf CX0 P w K mg base N x (defScope st) f cdv A outer s H E).nox (defBody st) t ∧ t { nx := fun _ H' => Q .non H', rt := Q } (start N vs) H) : Ok P w K mg base x ps (k + 1) sp := by
  obtain ⟨f, fd, F, b, m⟩ := D
  exact ⟨f, fd, F.ok S len (hbody f), b, m, F.kp⟩
theorem Def.void (D : Def K mg x st ps) (no : ∀ vs H Q E, ¬ sp vs H Q E) : Ok P w K mg base x ps k sp := by
  obtain ⟨f, fd, F, b, m⟩ := D
  exact ⟨f, fd, ⟨fun vs H Q E h => absurd h (no vs H Q E), fun A outer s H args us vs Q E _ _ _ _ h => absurd h (no vs H Q E)⟩, b, m, F.kp⟩
theorem Ok.mono {j : Nat} (G : Ok P w K mg base x ps k sp) (h : k ≤ j) : Ok P w K mg base x ps j sp := by
  obtain ⟨f, fd, F, r⟩ := G
  exact ⟨f, fd, F.mono h, r⟩
theorem Ok.imp {sp' : Sp} (G : Ok P w K mg base x ps k sp) (h : ∀ vs H Q E, sp' vs H Q E → sp vs H Q E) : Ok P w K mg base x ps k sp' := by
  obtain ⟨f, fd, F, r⟩ := G
  exact ⟨f, fd, F.imp h, r⟩
end
section
variable {X : Cx} {x : Str} {ps : List Str} {k j : Nat} {sp : Sp} {p pos : Pos} {e : Expr} {es : List Expr} {t : TA}
theorem pe_ok (G : Ok X.prog X.w X.K X.mg X.base x ps k sp) (hr : Room j X.A) (hk : k ≤ j) (hg : Gl X x) (ha : PA X (e :: es) t) (hdb : (x == ("__debug__" : Str)) = false := by decide)
    (he : starEach (e :: es) X.env = (false, eval e X.env) :: starEach es X.env := by rfl) (hpl : (backTo pos (starEach es X.env)).any (·.1) = false := by rfl) : PE X (.Call (.Name x p) (e :: es) [] pos) (tCall sp [] E0 t) := by
  obtain ⟨f, fd, F, b, m, kp⟩ := G
  exact pe_call F (hr.mono hk) hg m kp b .nil pass0 ha hdb he hpl
end
theorem len1 {x : V} {vs : List V} (h : vs = [x]) : vs.length = 1 := by rw [h]; rfl

/-! ### the built-in names are not the module's -/
structure Blt (mg : Str → Option Value) : Prop where
  len : mg "len" = none
  range : mg "range" = none
  int : mg "int" = none
  bool : mg "bool" = none
  str : mg "str" = none
  tuple : mg "tuple" = none
  isinstance : mg "isinstance" = none
  zip : mg "zip" = none
  list : mg "list" = none
  sorted : mg "sorted" = none
  max : mg "max" = none
  min : mg "min" = none
  ord : mg "ord" = none
  enumerate : mg "enumerate" = none
  dict : mg "dict" = none
  sum : mg "sum" = none
  ValueError : mg "ValueError" = none
section
variable {X : Cx} {pos : Pos}
theorem pe_ty_int {p : Pos} (h : X.mg "int" = none) (hg : Gl X "int") : PE X (.Name "int" p) (tC (.ty "int")) := pe_bltn hg h PyProof.Rows.boot_int rfl
theorem pe_ty_bool {p : Pos} (h : X.mg "bool" = none) (hg : Gl X "bool") : PE X (.Name "bool" p) (tC (.ty "bool")) := pe_bltn hg h PyProof.Rows.boot_bool rfl
theorem pe_ty_str {p : Pos} (h : X.mg "str" = none) (hg : Gl X "str") : PE X (.Name "str" p) (tC (.ty "str")) := pe_bltn hg h PyProof.Rows.boot_str rfl
theorem pe_ty_tuple {p : Pos} (h : X.mg "tuple" = none) (hg : Gl X "tuple") : PE X (.Name "tuple" p) (tC (.ty "tuple")) := pe_bltn hg h PyProof.Rows.boot_tuple rfl
end
theorem sIx_one {n d : Nat} : HT.sIx (n + 1) d (some 1) = 1 := by
  have := HT.sIx_nat (n + 1) d 1
  have e : min 1 (n + 1) = 1 := by omega
  rw [e] at this
  exact this
theorem cut_tail {x : V} {xs : List V} : cutV (x :: xs) (some 1) none = xs := by
  unfold cutV
  rw [HT.sIx_none, List.length_cons, sIx_one]
  simp
theorem five (k : Int) : ∃ c : Int, atI [V.int 48271, V.int 69621, V.int 16807, V.int 40692, V.int 39373] (k % 5) = some (V.int c) ∧ -1000000 < c ∧ c < 1000000 := by
  have h0 := Int.emod_nonneg k (show (5 : Int) ≠ 0 by decide)
  have h1 := Int.emod_lt_of_pos k (show (0 : Int) < 5 by decide)
  have h : k % 5 = 0 ∨ k % 5 = 1 ∨ k % 5 = 2 ∨ k % 5 = 3 ∨ k % 5 = 4 := by omega
  rcases h with e | e | e | e | e <;> rw [e]
  · exact ⟨48271, by decide, by decide, by decide⟩
  · exact ⟨69621, by decide, by decide, by decide⟩
  · exact ⟨16807, by decide, by decide, by decide⟩
  · exact ⟨40692, by decide, by decide, by decide⟩
  · exact ⟨39373, by decide, by decide, by decide⟩
theorem alpha_list : ("abcdefghijklmnopqrstuvwxyz" : Str).cps.toList = List.range' 97 26 := by decide +kernel
theorem alpha (m : Int) : ∃ c : Nat, atI ("abcdefghijklmnopqrstuvwxyz" : Str).cps.toList (m % 26) = some c ∧ 97 ≤ c ∧ c ≤ 122 := by
  have h0 := Int.emod_nonneg m (show (26 : Int) ≠ 0 by decide)
  have h1 := Int.emod_lt_of_pos m (show (0 : Int) < 26 by decide)
  obtain ⟨k, e⟩ : ∃ k : Nat, m % 26 = (k : Int) := ⟨(m % 26).toNat, by omega⟩
  refine ⟨97 + k, ?_, by omega, by omega⟩
  rw [e, alpha_list]
  refine atI_nat ?_
  rw [List.getElem?_range' (by omega)]
  simp
theorem str_add_cps (x y : Str) : (x ++ y).cps.toList = x.cps.toList ++ y.cps.toList := by
  show (x.cps ++ y.cps).toList = _
  rw [Array.toList_append]
theorem str_add_len (x y : Str) : (x ++ y).length = x.length + y.length := by
  show (x.cps ++ y.cps).size = _
  rw [Array.size_append]
  rfl
theorem mem_slice {x : Str} {l u : Option Int} {c : Nat} (h : c ∈ (Txt.slice x l u).cps.toList) : c ∈ x.cps.toList := by
  unfold Txt.slice at h
  split at h
  · exact h
  · obtain ⟨i, hi, e⟩ := List.mem_filterMap.mp (by simpa using h)
    exact Array.mem_toList_iff.mpr (Array.mem_of_getElem? e)
theorem name_head {x : Str} (h : IsName x) : IsName (Txt.slice x none (some 1)) := by
  have hl := Txt.slice_le x none (some 1)
  refine ⟨?_, Nat.le_trans hl h.2.1, fun c hc => h.2.2 c (mem_slice hc)⟩
  have h1 := h.1
  unfold Txt.slice
  split
  · exact h1
  · have e : Builtin.Str.strSliceIndices none (some 1) 1 x.length = [0] := by
      obtain ⟨n, hn⟩ : ∃ n, x.length = n + 1 := ⟨x.length - 1, by omega⟩
      rw [hn]
      show sliceRange 0 (max 0 (min 1 ((n + 1 : Nat) : Int))) 1 = [0]
      have e1 : max 0 (min 1 ((n + 1 : Nat) : Int)) = 1 := by omega
      rw [e1]
      decide
    have h2 : 0 < x.cps.size := h1
    rw [e]
    simp [Str.length, h2]
theorem orJoin {c : Prop} [Decidable c] {T U rest : Prop} (hT : T) (hrest : ¬ c → T → rest) : if c then (if true = true then T else U) else rest := by
  by_cases h : c
  · rw [if_pos h, if_pos rfl]; exact hT
  · rw [if_neg h]; exact hrest h hT
theorem fst_of (b : Bool) : ∃ ft : Nat, V.int (1 + if b = true then 1 else 0) = V.int ft ∧ ft ≤ 2 := by
  cases b
  · exact ⟨1, rfl, by omega⟩
  · exact ⟨2, rfl, by omega⟩
theorem IsForm.no {d : Nat} : IsForm d (.node .no "" []) := by rw [IsForm]; exact ⟨rfl, rfl⟩
theorem IsForm.same {d : Nat} {a b : Wd} (ha : IsTerm 2 a) (hb : IsTerm 2 b) : IsForm d (.node .same "" [a, b]) := by rw [IsForm]; exact ⟨rfl, a, b, rfl, ha, hb⟩
theorem IsForm.rel {d : Nat} {nm : Str} {ps : List Wd} (hn : IsName nm) (hl : ps.length ≤ 3) (hp : ∀ p ∈ ps, IsTerm 2 p) : IsForm d (.node .rel nm ps) := by rw [IsForm]; exact ⟨hn, hl, hp⟩
theorem IsForm.cond {d : Nat} {a b : Wd} (ha : IsForm d a) (hb : IsForm d b) : IsForm (d + 1) (.node .cond "" [a, b]) := by rw [IsForm]; exact ⟨rfl, a, b, rfl, ha, hb⟩
theorem IsForm.all {d : Nat} {a : Wd} (ha : IsForm d a) : IsForm (d + 1) (.node .all "" [a]) := by rw [IsForm]; exact ⟨rfl, a, rfl, ha⟩
theorem tag_no (t : Tag) : decide (V.str t.s = V.str "no") = decide (t = .no) := by cases t <;> decide +kernel
theorem tag_fun (t : Tag) : decide (V.str t.s = V.str "fun") = decide (t = .fn) := by cases t <;> decide +kernel
theorem tag_rel (t : Tag) : decide (V.str t.s = V.str "rel") = decide (t = .rel) := by cases t <;> decide +kernel
theorem tag_all (t : Tag) : decide (V.str t.s = V.str "all") = decide (t = .all) := by cases t <;> decide +kernel
theorem tag_same (t : Tag) : decide (V.str t.s = V.str "same") = decide (t = .same) := by cases t <;> decide +kernel
theorem tag_if (t : Tag) : decide (V.str t.s = V.str "if") = decide (t = .cond) := by cases t <;> decide +kernel

/-! ### what holds of every word within a word -/
mutual
def Her (p : Wd → Prop) : Wd → Prop
  | .var n => p (.var n)
  | .node t nm ps => p (.node t nm ps) ∧ HerL p ps
def HerL (p : Wd → Prop) : List Wd → Prop
  | [] => True
  | w :: ws => Her p w ∧ HerL p ws
end
theorem her_at {p : Wd → Prop} {w : Wd} (h : Her p w) : p w := by
  cases w with
  | var n => exact h
  | node t nm ps => exact h.1
theorem her_parts {p : Wd → Prop} {w : Wd} (h : Her p w) : HerL p w.parts := by
  cases w with
  | var n => exact True.intro
  | node t nm ps => exact h.2
theorem herL_append {p : Wd → Prop} : ∀ {a b : List Wd}, HerL p (a ++ b) ↔ HerL p a ∧ HerL p b
  | [], b => ⟨fun h => ⟨True.intro, h⟩, fun h => h.2⟩
  | w :: r, b => ⟨fun h => ⟨⟨h.1, (herL_append.mp h.2).1⟩, (herL_append.mp h.2).2⟩, fun h => ⟨h.1.1, herL_append.mpr ⟨h.1.2, h.2⟩⟩⟩
theorem herL_snoc {p : Wd → Prop} {a : List Wd} {w : Wd} : HerL p (a ++ [w]) ↔ HerL p a ∧ Her p w :=
  herL_append.trans ⟨fun h => ⟨h.1, h.2.1⟩, fun h => ⟨h.1, h.2, True.intro⟩⟩
theorem herL_of {p : Wd → Prop} : ∀ {ws : List Wd}, (∀ w ∈ ws, Her p w) → HerL p ws
  | [], _ => True.intro
  | w :: r, h => ⟨h w (List.mem_cons_self ..), herL_of fun u hu => h u (List.mem_cons_of_mem _ hu)⟩
theorem herL_mem {p : Wd → Prop} : ∀ {ws : List Wd} {w : Wd}, HerL p ws → w ∈ ws → Her p w
  | [], w, _, h => by cases h
  | u :: r, w, h, m => by
    rcases List.mem_cons.mp m with rfl | m
    · exact h.1
    · exact herL_mem h.2 m
/-- a form that is never so has no parts -/
def noOk (w : Wd) : Prop := ∀ nm ps, w = .node .no nm ps → ps = []
theorem her_term : ∀ {d : Nat} {w : Wd}, IsTerm d w → Her noOk w
  | d, .var n, _ => fun nm ps e => by cases e
  | 0, .node t nm ps, h => by simp only [IsTerm] at h
  | d + 1, .node t nm ps, h => by
    simp only [IsTerm] at h
    exact ⟨fun nm' ps' e => (by cases e; cases h.1), herL_of fun p hp => her_term (h.2.2.2 p hp)⟩
theorem her_form : ∀ {d : Nat} {w : Wd}, IsForm d w → Her noOk w
  | d, .var n, h => by simp only [IsForm] at h
  | d, .node t nm ps, h => by
    cases t with
    | fn => simp only [IsForm] at h
    | no =>
      simp only [IsForm] at h
      obtain ⟨_, rfl⟩ := h
      exact ⟨fun nm' ps' e => (by cases e; rfl), True.intro⟩
    | same =>
      simp only [IsForm] at h
      obtain ⟨_, a, b, rfl, ha, hb⟩ := h
      exact ⟨fun nm' ps' e => (by cases e), her_term ha, her_term hb, True.intro⟩
    | rel =>
      simp only [IsForm] at h
      exact ⟨fun nm' ps' e => (by cases e), herL_of fun p hp => her_term (h.2.2 p hp)⟩
    | cond =>
      cases d with
      | zero => simp only [IsForm] at h
      | succ d =>
        simp only [IsForm] at h
        obtain ⟨h0, a, b, rfl, ha, hb⟩ := h
        exact ⟨fun nm' ps' e => (by cases e), her_form ha, her_form hb, True.intro⟩
    | all =>
      cases d with
      | zero => simp only [IsForm] at h
      | succ d =>
        simp only [IsForm] at h
        obtain ⟨h0, a, rfl, ha⟩ := h
        exact ⟨fun nm' ps' e => (by cases e), her_form ha, True.intro⟩
end Sh

end
section
set_option Elab.async false
set_option linter.all false
set_option maxRecDepth 100000
set_option maxHeartbeats 4000000
namespace Sh
open PySem PySem.Spec PyProof.Rows L2

/-! ### things that are known by their very object; laying them by, taking them back -/
def Is (a : Addr) (o : Obj) : Heap → Prop := fun h => h.get? a = some o
def ups (H : Hp) (cs : List (Addr × Obj)) : Hp := fun b => match cs.lookup b with | some o => some (.ext (Is b o)) | none => H b
def dels (H : Hp) (cs : List (Addr × Obj)) : Hp := fun b => match cs.lookup b with | some _ => none | none => H b
section
variable {H : Hp} {cs : List (Addr × Obj)} {b : Addr} {o : Obj}
theorem ups_in (e : cs.lookup b = some o) : ups H cs b = some (.ext (Is b o)) := by unfold ups; rw [e]
theorem ups_out (e : cs.lookup b = none) : ups H cs b = H b := by unfold ups; rw [e]
theorem dels_in (e : cs.lookup b = some o) : dels H cs b = none := by unfold dels; rw [e]
theorem dels_out (e : cs.lookup b = none) : dels H cs b = H b := by unfold dels; rw [e]
end
section
variable {P : Program} {w : World} {H H' : Hp} {h h' : Heap} {cs : List (Addr × Obj)}
theorem ext_ok {a : Addr} {o : Obj} (e : h.get? a = some o) : ObjOk P w H h a (.ext (Is a o)) := ⟨e, ⟨o, e⟩, fun h1 h2 x k => k o x⟩
theorem ext_get {a : Addr} {o : Obj} (ok : HOk P w H h) (e : H a = some (.ext (Is a o))) : h.get? a = some o := (ok a _ e).1
theorem hok_ups (ok : HOk P w H h) (hn : ∀ b o, cs.lookup b = some o → H b = none) (hh : ∀ b o, cs.lookup b = some o → h.get? b = some o) : HOk P w (ups H cs) h := fun a u e => by
  have out : ∀ b v, H b = some v → ups H cs b = some v := fun b v z => by
    cases q : cs.lookup b with
    | some o => rw [hn b o q] at z; cases z
    | none => rw [ups_out q]; exact z
  cases q : cs.lookup a with
  | some o => rw [ups_in q] at e; cases e; exact ext_ok (hh a o q)
  | none => rw [ups_out q] at e; exact (ok a u e).stay (fun _ _ _ z => z) (fun b z => out b _ z) fun b xs z => out b _ z
theorem hok_dels (ok : HOk P w H h) (hx : ∀ b o, cs.lookup b = some o → H b = some (.ext (Is b o))) : HOk P w (dels H cs) h := fun a u e => by
  cases q : cs.lookup a with
  | some o => rw [dels_in q] at e; cases e
  | none =>
    rw [dels_out q] at e
    refine (ok a u e).stay (fun _ _ _ z => z) (fun b z => ?_) fun b xs z => ?_
    · cases q2 : cs.lookup b with
      | some o => rw [hx b o q2] at z; cases z
      | none => rw [dels_out q2]; exact z
    · cases q2 : cs.lookup b with
      | some o => rw [hx b o q2] at z; cases z
      | none => rw [dels_out q2]; exact z
/-- a callee that was given the things at cs: from outside they were never tracked -/
theorem un_dels {fs : List Addr} (u : Un fs [] (ups H cs) H' h h') (ok : HOk P w H' h') (hn : ∀ b o, cs.lookup b = some o → H b = none) (hh : ∀ b o, cs.lookup b = some o → h.get? b = some o)
    (hx : ∀ b o, cs.lookup b = some o → H' b = some (.ext (Is b o))) : Un fs [] H (dels H' cs) h h' where
  keep := fun b o e n hb hx' => by
    cases q : cs.lookup b with
    | some o' =>
      have e1 := hh b o' q
      rw [e] at e1; cases e1
      exact ext_get ok (hx b o q)
    | none => exact u.keep b o e (by rw [ups_out q]; exact n) hb hx'
  slot := fun b o e n hb hx' => by
    cases q : cs.lookup b with
    | some o' =>
      have e1 := hh b o' q
      rw [e] at e1; cases e1
      exact ⟨o.slots, ext_get ok (hx b o q)⟩
    | none => exact u.slot b o e (by rw [ups_out q]; exact n) hb hx'
  free := fun b o e n hx' => by
    cases q : cs.lookup b with
    | some o' => exact dels_in q
    | none => rw [dels_out q]; exact u.free b o e (by rw [ups_out q]; exact n) hx'
  there := u.there
  tups := fun b xs e => by
    cases q : cs.lookup b with
    | some o' => rw [hn b o' q] at e; cases e
    | none => rw [dels_out q]; exact u.tups b xs (by rw [ups_out q]; exact e)
  frzs := fun b o v e => by
    cases q : cs.lookup b with
    | some o' => rw [hn b o' q] at e; cases e
    | none => rw [dels_out q]; exact u.frzs b o v (by rw [ups_out q]; exact e)
  tbls := fun b ps e => by
    cases q : cs.lookup b with
    | some o' => rw [hn b o' q] at e; cases e
    | none => rw [dels_out q]; exact u.tbls b ps (by rw [ups_out q]; exact e)
/-- a body that had the things at cs as its own cells: from outside they are as they were -/
theorem un_ups {fs : List Addr} (u : Un fs [] (dels H cs) H' h h') (hx : ∀ b o, cs.lookup b = some o → H b = some (.ext (Is b o))) : Un fs [] H (ups H' cs) h h' where
  keep := fun b o e n hb hx' => by
    cases q : cs.lookup b with
    | some o' => rw [hx b o' q] at n; cases n
    | none => exact u.keep b o e (by rw [dels_out q]; exact n) hb hx'
  slot := fun b o e n hb hx' => by
    cases q : cs.lookup b with
    | some o' => rw [hx b o' q] at n; cases n
    | none => exact u.slot b o e (by rw [dels_out q]; exact n) hb hx'
  free := fun b o e n hx' => by
    cases q : cs.lookup b with
    | some o' => rw [hx b o' q] at n; cases n
    | none => rw [ups_out q]; exact u.free b o e (by rw [dels_out q]; exact n) hx'
  there := u.there
  tups := fun b xs e => by
    cases q : cs.lookup b with
    | some o' => rw [hx b o' q] at e; cases e
    | none => rw [ups_out q]; exact u.tups b xs (by rw [dels_out q]; exact e)
  frzs := fun b o v e => by
    cases q : cs.lookup b with
    | some o' => rw [hx b o' q] at e; cases e
    | none => rw [ups_out q]; exact u.frzs b o v (by rw [dels_out q]; exact e)
  tbls := fun b ps e => by
    cases q : cs.lookup b with
    | some o' => rw [hx b o' q] at e; cases e
    | none => rw [ups_out q]; exact u.tbls b ps (by rw [dels_out q]; exact e)
end

/-! ### the table of a def's inner defs: empty, or with the one code in it -/
def CodeIn (H : Hp) (c : Addr) (q : Str) : Prop := ∃ co vs t, H c = some (.ext (Is c co)) ∧ co.data = .fields vs ∧ vs[1]? = some (.str q t)
/-- which tables there are: the place and the name of the one inner def -/
class Inn where
  at_ : Addr → Option (Pos × Str)
variable [Inn]
def TabI (H : Hp) (T : Addr) : Prop :=
  ∃ pos q, Inn.at_ T = some (pos, q) ∧ ∃ ps, H T = some (.tbl ps) ∧ (ps = #[] ∨ ∃ c, ps = #[rawInt pos.line, rawInt pos.col, .ref c] ∧ CodeIn H c q)
def Fx : HO → Bool
  | .tbl _ => false
  | _ => true
/-- all that was tracked is as it was; tables may have grown -/
structure Same (H H' : Hp) : Prop where
  fix : ∀ b o, H b = some o → Fx o = true → H' b = some o
  tab : ∀ T, TabI H T → TabI H' T
theorem Same.refl (H : Hp) : Same H H := ⟨fun _ _ h _ => h, fun _ h => h⟩
theorem Same.trans {H H1 H2 : Hp} (a : Same H H1) (b : Same H1 H2) : Same H H2 := ⟨fun c o h f => b.fix c o (a.fix c o h f) f, fun T h => b.tab T (a.tab T h)⟩
theorem Same.at {H H' : Hp} (s : Same H H') {b : Addr} {o : HO} (h : H b = some o) (f : Fx o = true := by rfl) : H' b = some o := s.fix b o h f
theorem CodeIn.mono {H H' : Hp} {c : Addr} {q : Str} (h : CodeIn H c q) (k : ∀ b o, H b = some (.ext (Is b o)) → H' b = some (.ext (Is b o))) : CodeIn H' c q := by
  obtain ⟨co, vs, t, e, r⟩ := h
  exact ⟨co, vs, t, k _ _ e, r⟩
theorem TabI.mono {H H' : Hp} {T : Addr} (h : TabI H T) (kt : ∀ ps, H T = some (.tbl ps) → H' T = some (.tbl ps)) (k : ∀ b o, H b = some (.ext (Is b o)) → H' b = some (.ext (Is b o))) : TabI H' T := by
  obtain ⟨pos, q, hi, ps, e, r⟩ := h
  refine ⟨pos, q, hi, ps, kt ps e, ?_⟩
  rcases r with r | ⟨c, r, z⟩
  · exact .inl r
  · exact .inr ⟨c, r, z.mono k⟩
theorem same_of {H H' : Hp} (k : ∀ b o, H b = some o → H' b = some o) : Same H H' := ⟨fun b o h _ => k b o h, fun T h => h.mono (fun ps e => k _ _ e) fun b o e => k _ _ e⟩
theorem same_new {H : Hp} {p : Addr} (h : H p = none) (o : HO) : Same H (upd H p o) := same_of fun b u q => by rw [upd_ne (ne_of_none q h)]; exact q
theorem same_own {H0 H : Hp} {p : Addr} {xs : List V} (s : Same H0 H) (h : H0 p = none) (hx : H p = some (.lst xs)) (o : HO) : Same H0 (upd H p o) :=
  ⟨fun b u q f => by rw [upd_ne (ne_of_none q h)]; exact s.fix b u q f, fun T z => (s.tab T z).mono (fun ps e => by rw [upd_ne (ne_of e hx (by intro z; cases z))]; exact e) fun b o' e => by rw [upd_ne (ne_of e hx (by intro z; cases z))]; exact e⟩
theorem tk_of {H H' : Hp} (h : Same H H') : Tk H H' := fun b xs e => h.at e
theorem Same.seq {K : PySem.W.Frag} {H H' : Hp} {a : Addr} {xs : List V} (e : Same H H') (h : SqL K H a xs) : SqL K H' a xs := by
  rcases h with (h | ⟨o, h⟩) | h
  · exact .inl (.inl (e.at h))
  · exact .inl (.inr ⟨o, e.at h⟩)
  · exact .inr h
theorem Same.free {H H' : Hp} (e : Same H H') {l : Addr} (h : H' l = Option.none) (f : ∀ ps, H l ≠ some (.tbl ps)) : H l = Option.none := by
  cases q : H l with
  | none => rfl
  | some o =>
    cases o with
    | tbl ps => exact absurd q (f ps)
    | _ => rw [e.at q] at h; cases h
/-- no code stands among the things at cs -/
def NC (H : Hp) (cs : List (Addr × Obj)) : Prop := ∀ c co vs, H c = some (.ext (Is c co)) → co.data = .fields vs → cs.lookup c = none
/-- the things at cs come back from a callee that left them -/
theorem same_dels {H H1 H2 : Hp} {cs : List (Addr × Obj)} (s : Same H H1) (hn : ∀ b o, cs.lookup b = some o → H1 b = none) (s2 : Same (ups H1 cs) H2) (hx : ∀ b o, cs.lookup b = some o → H2 b = some (.ext (Is b o))) (nc : NC H2 cs) : Same H (dels H2 cs) := by
  have up : ∀ b v, H1 b = some v → ups H1 cs b = some v := fun b v z => by
    cases q : cs.lookup b with
    | some o => rw [hn b o q] at z; cases z
    | none => rw [ups_out q]; exact z
  refine ⟨fun b o e f => ?_, fun T h => ?_⟩
  · have e1 := s.fix b o e f
    cases q : cs.lookup b with
    | some o' => rw [hn b o' q] at e1; cases e1
    | none => rw [dels_out q]; exact s2.fix b o (up b o e1) f
  · have h1 : TabI (ups H1 cs) T := (s.tab T h).mono (fun ps e => up _ _ e) fun b o e => up _ _ e
    obtain ⟨pos, q, hi, ps, e, r⟩ := s2.tab T h1
    refine ⟨pos, q, hi, ps, ?_, ?_⟩
    · cases q2 : cs.lookup T with
      | some o' => rw [hx T o' q2] at e; cases e
      | none => rw [dels_out q2]; exact e
    · rcases r with r | ⟨c, r, co, vs, t, e1, e2, e3⟩
      · exact .inl r
      · exact .inr ⟨c, r, co, vs, t, by rw [dels_out (nc c co vs e1 e2)]; exact e1, e2, e3⟩
/-- a body whose cells they are leaves them -/
theorem same_ups {H H' : Hp} {cs : List (Addr × Obj)} (nc : NC H cs) (hx : ∀ b o, cs.lookup b = some o → H b = some (.ext (Is b o))) (s : Same (dels H cs) H') (hn : ∀ b o, cs.lookup b = some o → H' b = none) : Same H (ups H' cs) := by
  have up : ∀ b v, H' b = some v → ups H' cs b = some v := fun b v z => by
    cases q : cs.lookup b with
    | some o => rw [hn b o q] at z; cases z
    | none => rw [ups_out q]; exact z
  refine ⟨fun b o e f => ?_, fun T h => ?_⟩
  · cases q : cs.lookup b with
    | some o' => rw [hx b o' q] at e; cases e; exact ups_in q
    | none => exact up b o (s.fix b o (by rw [dels_out q]; exact e) f)
  · obtain ⟨pos, q, hi, ps, e, r⟩ := h
    have h1 : TabI (dels H cs) T := by
      refine ⟨pos, q, hi, ps, ?_, ?_⟩
      · cases q2 : cs.lookup T with
        | some o' => rw [hx T o' q2] at e; cases e
        | none => rw [dels_out q2]; exact e
      · rcases r with r | ⟨c, r, co, vs, t, e1, e2, e3⟩
        · exact .inl r
        · exact .inr ⟨c, r, co, vs, t, by rw [dels_out (nc c co vs e1 e2)]; exact e1, e2, e3⟩
    exact (s.tab T h1).mono (fun ps e => up _ _ e) fun b o e => up _ _ e

/-! ### a closure: what of it stands in the heap -/
/-- the function at f, its code, the cells at cs -/
structure CloH (H : Hp) (f : Addr) (fd : FuncData) : Prop where
  fn : ∃ fo, H f = some (.ext (Is f fo)) ∧ fo.data = .func fd
  code : ∃ c, fd.code = .ref c ∧ CodeIn H c fd.qualname
theorem CloH.mono {H H' : Hp} {f : Addr} {fd : FuncData} (h : CloH H f fd) (s : Same H H') : CloH H' f fd := by
  obtain ⟨fo, e, d⟩ := h.fn
  obtain ⟨c, e2, z⟩ := h.code
  exact ⟨⟨fo, s.at e, d⟩, ⟨c, e2, z.mono fun b o q => s.at q⟩⟩
/-- the captured names' values: each name has a cell of cs -/
def Caps (cl : List (Str × Addr)) (fr : List Str) (cvs : List V) (cs : List (Addr × Obj)) : Prop :=
  (∀ (i : Nat) (x : Str) (v : V), fr[i]? = some x → cvs[i]? = some v → ∃ c o u, cl.lookup x = some c ∧ cs.lookup c = some o ∧ o.data = .cell (some u) ∧ RelV v u) ∧
  (∀ x c, cl.lookup x = some c → ∃ o v, cs.lookup c = some o ∧ o.data = .cell v) ∧ ∀ c o, cs.lookup c = some o → ∃ v, o.data = .cell v
theorem nc_of {P : Program} {w : World} {H : Hp} {h : Heap} {cs : List (Addr × Obj)} (ok : HOk P w H h) (hx : ∀ b o, cs.lookup b = some o → H b = some (.ext (Is b o))) (hc : ∀ c o, cs.lookup c = some o → ∃ v, o.data = .cell v) : NC H cs := fun c co vs e d => by
  cases q : cs.lookup c with
  | none => rfl
  | some o =>
    have e1 := ext_get ok (hx c o q)
    have e2 := ext_get ok e
    rw [e1] at e2; cases e2
    obtain ⟨v, z⟩ := hc c _ q
    rw [z] at d; cases d

/-! ### the body of a closure -/
abbrev envF (fd : FuncData) (f L : Addr) : Env := { scope := fd.scope, locals := L, globals := fd.globals, cells := fd.closure, qual := fd.qualname ++ ".<locals>.", func := some f, code := fd.code, frame := some L, builtins := fd.builtins }
def cxClo (P : Program) (w : World) (K : PySem.W.Frag) (mg : Str → Option Value) (base : Heap) (N : List Str) (fd : FuncData) (f : Addr) (A : Around) (outer : List Env) (s : Shared) (H : Hp) : Cx where
  prog := P
  w := w
  K := K
  mg := mg
  base := base
  A := A.deeper (envF fd f s.heap.objs.size)
  N := N
  s₀ := s
  H₀ := H
  env := envF fd f s.heap.objs.size
  outer := outer
  stack := envF fd f s.heap.objs.size :: outer
  ex := []
  calm := true
  fn := fun _ => false
  pn := []
  xe := fun _ _ => False
structure CloScope (N ps fr : List Str) (sc : Scope) : Prop where
  kind : sc.kind = .function
  co : sc.isCoroutine = false
  gen : sc.isGenerator = false
  nd : N.Nodup
  pre : N.take (ps.length + fr.length) = ps ++ fr
  par : ∀ x ∈ ps, sc.names.lookup x = some .local
  fre : ∀ x ∈ fr, sc.names.lookup x = some .free
  all : ∀ y ∈ sc.names, y.2 = .free → y.1 ∈ fr
  nocell : ∀ y ∈ sc.names, y.2 ≠ .cell
theorem lookup_nd {x : Str} {v : Value} : ∀ {l : List (Str × Value)}, (l.map (·.1)).Nodup → (x, v) ∈ l → l.lookup x = some v
  | [], _, h => by cases h
  | (y, u) :: r, nd, h => by
    rw [List.map_cons, List.nodup_cons] at nd
    rcases List.mem_cons.mp h with e | h
    · cases e
      rw [List.lookup_cons, beq_self_eq_true]
    · have hne : x ≠ y := fun e => nd.1 (by rw [← e]; exact List.mem_map_of_mem (f := (·.1)) h)
      rw [List.lookup_cons, beq_eq_false_iff_ne.mpr hne]
      exact lookup_nd nd.2 h
theorem fst_sub : ∀ (ps : List Str) (us : List Value), ((ps.zip us).map (·.1)).Sublist ps
  | [], us => by simp
  | p :: r, [] => by simp
  | p :: r, u :: us => by
    rw [List.zip_cons_cons, List.map_cons]
    exact (fst_sub r us).cons₂ p
theorem rev_lookup {x : Str} {v : Value} {ps : List Str} {us : List Value} {i : Nat} (nd : ps.Nodup) (hp : ps[i]? = some x) (hu : us[i]? = some v) : (ps.zip us).reverse.lookup x = some v := by
  have hm : (x, v) ∈ (ps.zip us).reverse := by
    rw [List.mem_reverse]
    refine List.mem_of_getElem? (i := i) ?_
    rw [List.getElem?_zip_eq_some]
    exact ⟨hp, hu⟩
  have hnd : ((ps.zip us).reverse.map (·.1)).Nodup := by
    rw [List.map_reverse]
    show List.Pairwise _ _
    rw [List.pairwise_reverse]
    have hs := fst_sub ps us
    exact (nd.sublist hs).imp fun h => h.symm
  exact lookup_nd hnd hm
/-- at the entry -/
theorem inv_clo {P : Program} {w : World} {K : PySem.W.Frag} {mg : Str → Option Value} {base : Heap} {N ps fr : List Str} {fd : FuncData} {f : Addr} {A : Around} {outer : List Env} {s : Shared} {h1 : Heap} {tk : Nat} {H : Hp} {us : List Value} {vs cvs : List V} {cs : List (Addr × Obj)}
    (S : CloScope N ps fr fd.scope) (hgl : fd.globals = mainGlobals) (hbl : fd.builtins = builtinsNs) (hd : A.handled = none) (e0 : Env0 P w K mg base A outer s H) (hl : vs.length = ps.length) (hcl : cvs.length = fr.length) (r : Vals vs us)
    (inj : ∀ x y c, fd.closure.lookup x = some c → fd.closure.lookup y = some c → x = y) (hx : ∀ b o, cs.lookup b = some o → H b = some (.ext (Is b o))) (cap : Caps fd.closure fr cvs cs)
    (hns : h1.Ns s.heap.objs.size (fun x => (ps.zip us).reverse.lookup x)) (hk : ∀ b o, s.heap.get? b = some o → h1.get? b = some o) :
    Inv (cxClo P w K mg base N fd f A outer s (dels H cs)) [] (start N (vs ++ cvs)) (dels H cs) { s with heap := h1, toks := tk } := by
  have noA : ∀ b : Addr, b ∉ (cxClo P w K mg base N fd f A outer s (dels H cs)).ex := fun b z => absurd (show b ∈ ([] : List Addr) from z) (by simp)
  have fr0 : ∀ b, H b = none → dels H cs b = none := fun b e => by
    cases q : cs.lookup b with
    | some o => exact dels_in q
    | none => rw [dels_out q]; exact e
  have cget : ∀ c o, cs.lookup c = some o → s.heap.get? c = some o := fun c o e => ext_get e0.hok (hx c o e)
  have hnl : N.length ≥ ps.length + fr.length := by
    have := congrArg List.length S.pre
    rw [List.length_take, List.length_append] at this
    omega
  have okd := hok_dels e0.hok hx
  refine ⟨⟨e0.mod, S.kind, hgl, hbl, Nat.le_refl _, inj, fun y hy => ?_, (fun y c z _ => absurd z Bool.false_ne_true), fun _ => hd, Around.frames_deeper e0.frames, .inr ⟨rfl, rfl⟩, fun b z => absurd z (noA b), fun b o e => ⟨(e0.bs b o e).1, fr0 b (e0.bs b o e).2⟩, e0.bsz, fun b _ _ => noA b, fun b z => absurd z (noA b), e0.funs, fun b hb => fr0 b (e0.frf b hb)⟩,
    rfl, e0.bare, Un.kept hk, ⟨_, hns, fun i y v h1' h2 h3 => ?_⟩, fun y c h => ?_, fr0 _ (e0.hok.fresh (Nat.le_refl _)), fun y c h => ?_, fun p hp => absurd (show p ∈ ([] : List (Addr × Obj)) from hp) (by simp), okd.kept hk, ?_⟩
  · have hy' : fd.scope.names.lookup y = some .cell ∨ fd.scope.names.lookup y = some .free := hy
    rcases hy' with z | z
    · exact absurd rfl (S.nocell _ (PySem.mem_of_lookup z))
    · have hm := S.all _ (PySem.mem_of_lookup z) rfl
      obtain ⟨i, hi⟩ := List.getElem?_of_mem hm
      have hi2 : i < cvs.length := by
        have := (List.getElem?_eq_some_iff.mp hi).1
        omega
      obtain ⟨c, o, u, e1, _⟩ := cap.1 i y _ hi (List.getElem?_eq_getElem hi2)
      exact ⟨c, e1⟩
  · have hi : i < (vs ++ cvs).length := by
      unfold L2.start at h2
      by_cases hi : i < (vs ++ cvs).length
      · exact hi
      · rw [List.getElem?_append_right (by simpa using hi), List.getElem?_replicate] at h2
        split at h2 <;> cases h2
    have ha : (vs ++ cvs)[i]? = some v := by
      unfold L2.start at h2
      rw [List.getElem?_append_left (by simpa using hi), List.getElem?_map] at h2
      cases e : (vs ++ cvs)[i]? with
      | none => rw [e] at h2; cases h2
      | some a => rw [e] at h2; cases h2; rfl
    rw [List.length_append] at hi
    have hN : (ps ++ fr)[i]? = some y := by
      rw [← S.pre, List.getElem?_take_of_lt (by omega)]; exact h1'
    have ndA : (ps ++ fr).Nodup := by rw [← S.pre]; exact S.nd.sublist (List.take_sublist _ _)
    by_cases hp : i < vs.length
    · rw [List.getElem?_append_left hp] at ha
      rw [List.getElem?_append_left (by omega)] at hN
      obtain ⟨u, hu, rv⟩ := r.get ha
      exact ⟨u, rv, .inl ⟨S.par y (List.mem_of_getElem? hN), rev_lookup (List.nodup_append.mp ndA).1 hN hu⟩⟩
    · rw [List.getElem?_append_right (by omega)] at ha
      rw [List.getElem?_append_right (by omega)] at hN
      rw [← hl] at hN
      obtain ⟨c, o, u, e1, e2, e3, rv⟩ := cap.1 _ y v hN ha
      exact ⟨u, rv, .inr ⟨.inr (S.fre y (List.mem_of_getElem? hN)), c, e1, o, hk _ _ (cget c o e2), e3⟩⟩
  · obtain ⟨o, v, e1, e2⟩ := cap.2.1 y c h
    exact ⟨v, o, hk _ _ (cget c o e1), e2⟩
  · obtain ⟨o, v, e1, e2⟩ := cap.2.1 y c h
    exact dels_in e1
  · unfold L2.start
    show _ = N.length
    rw [List.length_append, List.length_map, List.length_replicate, List.length_append]
    omega
/-- a body's end, expressions and statements alike -/
def BodyOk (X : Cx) (b : FuncBody) (Q : VK) (σ : L2.St) (H : Hp) : Prop := match b with
  | .stmts sts => ∃ t, PSs X sts t ∧ t { nx := fun _ H' => Q .non H', rt := Q } σ H
  | .expr e => ∃ t, PE X e t ∧ t σ H Q
/-- THE RULE for a closure -/
theorem fn_clo {P : Program} {w : World} {K : PySem.W.Frag} {mg : Str → Option Value} {base : Heap} {k : Nat} {f : Addr} {fd : FuncData} {N ps fr : List Str} {sp : Sp} (hgl : fd.globals = mainGlobals) (hbl : fd.builtins = builtinsNs) (S : CloScope N ps fr fd.scope)
    (inj : ∀ x y c, fd.closure.lookup x = some c → fd.closure.lookup y = some c → x = y) (len : ∀ vs H Q E, sp vs H Q E → vs.length = ps.length)
    (hbody : ∀ (A : Around) (outer : List Env) (s : Shared) (H : Hp) (vs : List V) (Q : VK) (E : XK), Room k (A.deeper (envF fd f s.heap.objs.size)) → sp vs H Q E →
      CloH H f fd ∧ ∃ (cs : List (Addr × Obj)) (cvs : List V), (∀ b o, cs.lookup b = some o → H b = some (.ext (Is b o))) ∧ Caps fd.closure fr cvs cs ∧ cvs.length = fr.length ∧
        (NC H cs → BodyOk (cxClo P w K mg base N fd f A outer s (dels H cs)) fd.body (fun v H' => (∀ b o, cs.lookup b = some o → H' b = none) → Q v (ups H' cs)) (start N (vs ++ cvs)) (dels H cs))) :
    FnOk P w K mg base CX0 (k + 1) f fd ps sp := by
  refine ⟨len, fun A outer s H args us vs Q E hr e0 hb r hsp => ?_⟩
  have hl := len _ _ _ _ hsp
  obtain ⟨C, cs, cvs, hx, cap, hcl, hq⟩ := hbody A outer s H vs Q E (hr.deeper _) hsp
  have hq := hq (nc_of e0.hok hx cap.2.2)
  obtain ⟨fo, e1, hfo⟩ := C.fn
  obtain ⟨c, hc, co, vs', t, e2, hd, hv⟩ := C.code
  have ho := ext_get e0.hok e1
  have hcd : s.heap.CodeRec fd.code fd.qualname := ⟨c, co, vs', t, hc, ext_get e0.hok e2, hd, hv⟩
  have lim : s.heap.NoLimit := e0.mod.nolimit.keeps fun b o e => (e0.bs b o e).1
  have hloc : ∀ y ∈ ps.zip us, fd.scope.names.lookup y.1 = some .local := fun ⟨n, v⟩ hy => S.par n (List.of_mem_zip hy).1
  have inv : ∀ {h1 : Heap} {tk : Nat}, h1.Ns s.heap.objs.size (fun x => (ps.zip us).reverse.lookup x) → (∀ b o, s.heap.get? b = some o → h1.get? b = some o) →
      Inv (cxClo P w K mg base N fd f A outer s (dels H cs)) [] (start N (vs ++ cvs)) (dels H cs) { s with heap := h1, toks := tk } := fun hns hk => inv_clo S hgl hbl hr.hd e0 hl hcl r inj hx cap hns hk
  have fin : ∀ {s' : Shared} {σ' : L2.St} {H' : Hp} {v : V} {u : Value}, Inv (cxClo P w K mg base N fd f A outer s (dels H cs)) [] σ' H' s' → RelV v u → ((∀ b o, cs.lookup b = some o → H' b = none) → Q v (ups H' cs)) → CE outer P w H s Q u s' := fun {s' σ' H' v u} J rv q => by
    have out : ∀ b o, cs.lookup b = some o → b ∉ frs outer := fun b o z hb => by
      have e := hx b o z
      rw [e0.frf b hb] at e; cases e
    have hg : ∀ b o, cs.lookup b = some o → s.heap.get? b = some o := fun b o z => ext_get e0.hok (hx b o z)
    have hn : ∀ b o, cs.lookup b = some o → H' b = none := fun b o z => J.base.free b o (hg b o z) (dels_in z) (by intro y; exact absurd (show b ∈ ([] : List Addr) from y) (by simp))
    have hk : ∀ b o, cs.lookup b = some o → s'.heap.get? b = some o := fun b o z => J.base.keep b o (hg b o z) (dels_in z) (out b o z) (by intro y; exact absurd (show b ∈ ([] : List Addr) from y) (by simp))
    exact ⟨v, ups H' cs, J.os, J.bare, un_ups J.base hx, hok_ups J.hok hn hk, rv, q hn⟩
  cases hb' : fd.body with
  | stmts sts =>
    rw [hb'] at hq
    obtain ⟨tt, ht, hq⟩ := hq
    refine codeAny_call_function hr.depth ho hfo S.co S.gen hb' hcd (hb _ _ _ _ ?_)
    refine wpAny_newFunctionEnv S.nocell hloc (fun h1 hns hsb => ?_) S.kind
    have hk : ∀ b o, s.heap.get? b = some o → h1.get? b = some o := fun b o e => hsb.extBut b o (Nat.ne_of_lt (Heap.lt_size e)) (Heap.get?_push_of_some _ e)
    refine ⟨lim.keeps hk, codeAny_func ?_⟩
    refine wpAny_mono (ht [] _ (start N (vs ++ cvs)) (dels H cs) _ (inv hns hk) hq) (fun fl s' hs => ?_) fun e s' hs => False.elim hs
    cases fl with
    | ret u =>
      obtain ⟨v, σ', H', J, rv, q⟩ := hs
      exact fin J rv q
    | next =>
      obtain ⟨σ', H', J, q⟩ := hs
      exact fin (v := V.non) (u := Value.none) J rfl q
    | brk =>
      obtain ⟨_, _, _, q⟩ := hs
      exact False.elim q
    | cont =>
      obtain ⟨_, _, _, q⟩ := hs
      exact False.elim q
  | expr ex =>
    rw [hb'] at hq
    obtain ⟨tt, ht, hq⟩ := hq
    refine PySem.W.kla_callFunE hr.depth ho hfo S.co S.gen hb' hcd (hb _ _ _ _ ?_)
    refine wpAny_newFunctionEnv S.nocell hloc (fun h1 hns hsb => ?_) S.kind
    have hk : ∀ b o, s.heap.get? b = some o → h1.get? b = some o := fun b o e => hsb.extBut b o (Nat.ne_of_lt (Heap.lt_size e)) (Heap.get?_push_of_some _ e)
    refine ⟨lim.keeps hk, PySem.W.kla_codeExpr ?_⟩
    refine wpAny_mono (ht [] _ (start N (vs ++ cvs)) (dels H cs) _ (inv hns hk) hq) (fun u s' hs => ?_) fun e s' hs => False.elim hs
    obtain ⟨v, H', J, rv, q⟩ := hs
    exact fin J rv q
end Sh

end
section
set_option Elab.async false
set_option linter.all false
set_option maxRecDepth 100000
set_option maxHeartbeats 4000000
namespace Sh
open PySem PySem.Spec PyProof.Rows L2
variable [Inn]

/-! ### where a def of the text keeps the codes of its inner defs -/
structure Tab (base : Heap) (mg : Str → Option Value) (c T : Addr) : Prop where
  code : PySem.W.CodeHd base c T
  blt : base.BuiltinsAt mg T
  gl : mainGlobals ≠ T
section
variable {X : Cx} {pins : List (Addr × Obj)} {σ : L2.St} {H : Hp} {s : Shared} {c T : Addr}
theorem _root_.L2.Inv.builtinsAt (I : Inv X pins σ H s) (t : Tab X.base X.mg c T) : s.heap.BuiltinsAt X.mg T := by
  obtain ⟨bm, o, h1, h2, h3, h4, h5, r⟩ := t.blt
  exact ⟨bm, o, h1, h2, h3, h4, I.bk _ _ h5, r⟩
/-- a code of its own laid into the empty table, and the function behind it -/
theorem _root_.L2.Inv.made2 {h' : Heap} {fo co : Obj} {c' : Addr} {more : Array Value} {tk : Nat} (I : Inv X pins σ H s) (hT : H T = some (.tbl #[])) (hx : Heap.ExtBut T s.heap h') (hge : s.heap.objs.size ≤ c') (hlt : c' < h'.objs.size)
    (hco : h'.get? c' = some co) (htb : h'.get? T = some (PySem.W.tabObj (#[] ++ more))) (hfo : (h'.push fo).get? h'.objs.size = some fo) :
    Inv X pins σ (upd (upd (upd H T (.tbl (#[] ++ more))) c' (.ext (Is c' co))) h'.objs.size (.ext (Is h'.objs.size fo))) { s with heap := h'.push fo, toks := tk } := by
  have hTs := I.hok.lt hT
  have hTc : T ≠ c' := Nat.ne_of_lt (Nat.lt_of_lt_of_le hTs hge)
  have hTf : T ≠ h'.objs.size := Nat.ne_of_lt (Nat.lt_of_lt_of_le hTs (Nat.le_trans hge (Nat.le_of_lt hlt)))
  have hcf : c' ≠ h'.objs.size := Nat.ne_of_lt hlt
  have old : ∀ b, b < s.heap.objs.size → b ≠ T → upd (upd (upd H T (.tbl (#[] ++ more))) c' (.ext (Is c' co))) h'.objs.size (.ext (Is h'.objs.size fo)) b = H b := fun b hb hne => by
    rw [upd_ne (Nat.ne_of_lt (Nat.lt_of_lt_of_le hb (Nat.le_trans hge (Nat.le_of_lt hlt)))), upd_ne (Nat.ne_of_lt (Nat.lt_of_lt_of_le hb hge)), upd_ne hne]
  have keep : ∀ b o, b ≠ T → s.heap.get? b = some o → (h'.push fo).get? b = some o := fun b o hb e => Heap.get?_push_of_some _ (hx b o hb e)
  have neT : ∀ {b : Addr}, H b = none → b ≠ T := fun e z => by rw [z, hT] at e; cases e
  refine I.un (t' := tk) ⟨fun b o e n _ _ => keep b o (neT n) e, fun b o e n _ _ => ⟨o.slots, keep b o (neT n) e⟩, fun b o e n _ => ?_, fun b o e _ => ?_, fun b xs e => ?_, fun b o u e => ?_, fun b ps e => ?_⟩ fun a u e => ?_
  · rw [old b (Heap.lt_size e) (neT n)]; exact n
  · by_cases hb : b = T
    · subst hb; exact ⟨_, Heap.get?_push_of_some _ htb⟩
    · exact ⟨o, keep b o hb e⟩
  · rw [old b (I.hok.lt e) (fun z => by rw [z, hT] at e; cases e)]; exact e
  · rw [old b (I.hok.lt e) (fun z => by rw [z, hT] at e; cases e)]; exact e
  · by_cases hb : b = T
    · subst hb
      rw [hT] at e; cases e
      exact ⟨more, by rw [upd_ne hTf, upd_ne hTc, upd_same]⟩
    · exact ⟨#[], by rw [old b (I.hok.lt e) hb, e, Array.append_empty]⟩
  · by_cases h1 : a = h'.objs.size
    · subst h1
      rw [upd_same] at e; cases e
      exact ext_ok hfo
    · rw [upd_ne h1] at e
      by_cases h2 : a = c'
      · subst h2
        rw [upd_same] at e; cases e
        exact ext_ok (Heap.get?_push_of_some _ hco)
      · rw [upd_ne h2] at e
        by_cases h3 : a = T
        · subst h3
          rw [upd_same] at e; cases e
          exact Heap.get?_push_of_some _ htb
        · rw [upd_ne h3] at e
          refine (I.hok a u e).stay (fun b v hb z => keep b v ?_ z) (fun b z => ?_) fun b xs z => ?_
          · rcases hb with rfl | hb
            · exact h3
            · intro z2; rw [z2, hT] at hb; cases hb
          · rw [old b (I.hok.lt z) (fun y => by rw [y, hT] at z; cases z)]; exact z
          · rw [old b (I.hok.lt z) (fun y => by rw [y, hT] at z; cases z)]; exact z
theorem same_made2 {fo co : Obj} {c' f : Addr} {pos : Pos} {q : Str} (hT : H T = some (.tbl #[])) (hc : H c' = none) (hf : H f = none) (hcf : c' ≠ f) {vs : Array Value} {t : Tok} (hd : co.data = .fields vs) (hv : vs[1]? = some (.str q t)) (hq : Inn.at_ T = some (pos, q)) :
    Same H (upd (upd (upd H T (.tbl (#[] ++ #[rawInt pos.line, rawInt pos.col, .ref c']))) c' (.ext (Is c' co))) f (.ext (Is f fo))) := by
  have hTc : T ≠ c' := fun z => by rw [← z, hT] at hc; cases hc
  have hTf : T ≠ f := fun z => by rw [← z, hT] at hf; cases hf
  have old : ∀ b v, H b = some v → b ≠ T → upd (upd (upd H T (.tbl (#[] ++ #[rawInt pos.line, rawInt pos.col, .ref c']))) c' (.ext (Is c' co))) f (.ext (Is f fo)) b = some v := fun b v e hb => by
    rw [upd_ne (fun z => by rw [z, hf] at e; cases e), upd_ne (fun z => by rw [z, hc] at e; cases e), upd_ne hb]; exact e
  refine ⟨fun b o e fx => old b o e (fun z => ?_), fun T' h => ?_⟩
  · rw [z, hT] at e; cases e; cases fx
  · by_cases hb : T' = T
    · subst hb
      exact ⟨pos, q, hq, #[] ++ #[rawInt pos.line, rawInt pos.col, .ref c'], by rw [upd_ne hTf, upd_ne hTc, upd_same], .inr ⟨c', rfl, co, vs, t, by rw [upd_ne hcf, upd_same], hd, hv⟩⟩
    · exact h.mono (fun ps e => old _ _ e hb) fun b o e => old _ _ e (fun z => by rw [z, hT] at e; cases e)
end

/-! ### a lambda; an inner def -/
/-- the function is made: at f, its data fd -/
def tFun (T : Addr) (q : Str) (mk : Value → Value → Value → Value → FuncData) : TE := fun _ H Q => TabI H T ∧ ∀ f fd H', Same H H' → (∃ doc pm c ctv, fd = mk doc pm (.ref c) ctv) → CloH H' f fd → Q (.ref f) H'
section
variable {X : Cx} {params : Arguments} {scope : Scope} {pos : Pos} {c T : Addr} {clos : List (Str × Addr)}
theorem rawAmong {pos : Pos} {v : Value} : codeAmong pos (#[rawInt pos.line, rawInt pos.col, v] : Array Value).toList = some v := by simp [codeAmong, rawInt]
theorem pe_lam {body : Expr} (t : Tab X.base X.mg c T) (hcode : X.env.code = .ref c) (hin : Inn.at_ T = some (pos, X.env.qual ++ "<lambda>")) (hcl : closureFor scope X.env = pure clos := by rfl) (hdef : defaultsOf params X.env = ([], []) := by rfl) :
    PE X (.Lambda params body scope pos) (tFun T (X.env.qual ++ "<lambda>") fun _ pm cd ctv => PySem.W.kla_fn "<lambda>" (X.env.qual ++ "<lambda>") params body scope clos pm cd ctv) := by
  intro pins s σ H Q I h
  obtain ⟨⟨pos', q', hi, ps, hT, hps⟩, h⟩ := h
  rw [hin] at hi; cases hi
  have hg : s.heap.Ns mainGlobals X.mg := I.mod.glob.keeps I.bk
  have hT' : s.heap.get? T = some (PySem.W.tabObj ps) := I.hok T _ hT
  refine PySem.W.kla_eval hdef ?_
  rcases hps with rfl | ⟨c', rfl, hc'⟩
  · refine PySem.W.kla_makeFunction (mg := X.mg) hcl I.ok.glob hg hcode (t.code.keeps I.bk) hT' True.intro rfl t.gl (I.builtinsAt t) fun c' ctv h' tk hx hge hlt hrec htb => ?_
    obtain ⟨c2, co, vs, tq, e2, hco, hd, hv⟩ := hrec
    cases e2
    have hc0 : H c' = none := I.hok.fresh hge
    have hf0 : H h'.objs.size = none := I.hok.fresh (Nat.le_trans hge (Nat.le_of_lt hlt))
    have hcf : c' ≠ h'.objs.size := Nat.ne_of_lt hlt
    refine ⟨.ref h'.objs.size, _, I.made2 hT hx hge hlt hco htb (Heap.get?_push_size _ rfl), rfl, h _ _ _ (same_made2 hT hc0 hf0 hcf hd hv hin) ⟨.none, _, c', ctv, rfl⟩ ⟨⟨_, upd_same, rfl⟩, ⟨c', rfl, co, vs, tq, by rw [upd_ne hcf, upd_same], hd, hv⟩⟩⟩
  · refine PySem.W.kla_makeFunctionHit (mg := X.mg) hcl I.ok.glob hg hcode (t.code.keeps I.bk) hT' True.intro rawAmong (I.builtinsAt t) fun ctv h' tk hk hsz => ?_
    have hf0 : H h'.objs.size = none := I.hok.fresh hsz
    have s1 : ∀ fo : Obj, Same H (upd H h'.objs.size (.ext (Is h'.objs.size fo))) := fun fo => same_new hf0 _
    refine ⟨.ref h'.objs.size, _, I.laid (t' := tk) (fun b u e => Heap.get?_push_of_some _ (hk b u e)) hsz (ext_ok (Heap.get?_push_size _ rfl)), rfl, h _ _ _ (s1 _) ⟨.none, _, c', ctv, rfl⟩ ⟨⟨_, upd_same, rfl⟩, ⟨c', rfl, hc'.mono fun b o e => (s1 _).at e⟩⟩⟩
/-- def name(..): .. within a def -/
def sFun (T : Addr) (q : Str) (i : Nat) (mk : Value → Value → Value → Value → FuncData) : TS := fun D σ H => tFun T q mk σ H fun v H' => D.nx (σ.set i (some v)) H'
theorem ps_ndef {i : Nat} {name : Str} {body : List Stmt} (hN : X.N.Nodup) (hi : X.N[i]? = some name) (hxl : Loc X.env.scope name) (t : Tab X.base X.mg c T) (hcode : X.env.code = .ref c) (hin : Inn.at_ T = some (pos, qualnameIn X.env name name)) (hcl : closureFor scope X.env = pure clos := by rfl)
    (hd0 : params.defaults = [] := by rfl) (hk0 : params.kw_defaults = [] := by rfl) (ha0 : annTrees params none X.env = [] := by rfl) (hf : X.fn name = true ∨ X.env.scope.names.lookup name = some .local := by first | exact .inl rfl | exact .inr rfl | assumption) :
    PS X (.FunctionDef name params body [] none [] scope none name pos) (sFun T (qualnameIn X.env name name) i fun doc pm cd ctv => PySem.W.fnX name (qualnameIn X.env name name) params body scope clos .none .none doc pm none cd ctv) := by
  intro pins s σ H D I h
  obtain ⟨⟨pos', q', hi', ps, hT, hps⟩, h⟩ := h
  rw [hin] at hi'; cases hi'
  have hg : s.heap.Ns mainGlobals X.mg := I.mod.glob.keeps I.bk
  have hT' : s.heap.get? T = some (PySem.W.tabObj ps) := I.hok T _ hT
  refine PySem.W.nestDef_K hd0 hk0 ha0 ?_
  rcases hps with rfl | ⟨c', rfl, hc'⟩
  · refine PySem.W.makeFunction_K (mg := X.mg) hcl I.ok.glob hg hcode (t.code.keeps I.bk) hT' True.intro rfl t.gl (I.builtinsAt t) fun c' ctv doc h' tk hx hge hlt hrec htb => ?_
    obtain ⟨c2, co, vs, tq, e2, hco, hd, hv⟩ := hrec
    cases e2
    have hc0 : H c' = none := I.hok.fresh hge
    have hf0 : H h'.objs.size = none := I.hok.fresh (Nat.le_trans hge (Nat.le_of_lt hlt))
    have hcf : c' ≠ h'.objs.size := Nat.ne_of_lt hlt
    refine store_ok (v := .ref h'.objs.size) (I.made2 (tk := tk) hT hx hge hlt hco htb (Heap.get?_push_size _ rfl)) hN hi hxl rfl (fun s' I' => ⟨_, _, I', h _ _ _ (same_made2 hT hc0 hf0 hcf hd hv hin) ⟨doc, _, c', ctv, rfl⟩ ⟨⟨_, upd_same, rfl⟩, ⟨c', rfl, co, vs, tq, by rw [upd_ne hcf, upd_same], hd, hv⟩⟩⟩) hf
  · refine PySem.W.makeFunction_hit (mg := X.mg) hcl I.ok.glob hg hcode (t.code.keeps I.bk) hT' True.intro rawAmong (I.builtinsAt t) fun ctv doc h' tk hk hsz => ?_
    have hf0 : H h'.objs.size = none := I.hok.fresh hsz
    have s1 : ∀ fo : Obj, Same H (upd H h'.objs.size (.ext (Is h'.objs.size fo))) := fun fo => same_new hf0 _
    refine store_ok (v := .ref h'.objs.size) (I.laid (t' := tk) (fun b u e => Heap.get?_push_of_some _ (hk b u e)) hsz (ext_ok (Heap.get?_push_size _ rfl))) hN hi hxl rfl (fun s' I' => ⟨_, _, I', h _ _ _ (s1 _) ⟨doc, _, c', ctv, rfl⟩ ⟨⟨_, upd_same, rfl⟩, ⟨c', rfl, hc'.mono fun b o e => (s1 _).at e⟩⟩⟩) hf
end

/-! ### a call of a def that is given a closure: the cells that the closure has are laid by for the callee -/
/-- cap: the slots and the names whose cells they are -/
def CapsOf (env : Env) (σ : L2.St) (cap : List (Nat × Str)) (cs : List (Addr × Obj)) : Prop :=
  (∀ i x, (i, x) ∈ cap → ∃ c o u v, env.cells.lookup x = some c ∧ cs.lookup c = some o ∧ σ[i]? = some (some v) ∧ o.data = .cell (some u) ∧ RelV v u) ∧ (∀ c o, cs.lookup c = some o → ∃ v, o.data = .cell v)
def tCallC (X : Cx) (x : Str) (ps : List Str) (k : Nat) (cap : List (Nat × Str)) (t : TA) : TE := fun σ H Q => (∀ i x, (i, x) ∈ cap → ∃ v, σ[i]? = some (some v)) ∧ t σ H fun vs H1 => ∃ sp, Ok X.prog X.w X.K X.mg X.base x ps k sp ∧
  ∀ cs, CapsOf X.env σ cap cs → (∀ b o, cs.lookup b = some o → H1 b = none) → sp vs (ups H1 cs) (fun r H2 => (∀ b o, cs.lookup b = some o → H2 b = some (.ext (Is b o))) ∧ (NC H2 cs → Q r (dels H2 cs))) E0
section
variable {X : Cx} {x : Str} {ps : List Str} {k j : Nat} {cap : List (Nat × Str)} {p pos : Pos} {e : Expr} {es : List Expr} {t : TA}
theorem caps_mk {pins : List (Addr × Obj)} {σ : L2.St} {H : Hp} {s : Shared} (I : Inv X pins σ H s) : ∀ cap : List (Nat × Str), (∀ i x, (i, x) ∈ cap → X.N[i]? = some x ∧ X.env.scope.names.lookup x = some .cell ∧ X.fn x = true ∧ ∃ v, σ[i]? = some (some v)) →
    ∃ cs, CapsOf X.env σ cap cs ∧ (∀ b o, cs.lookup b = some o → (H b = none ∧ ∃ x, X.env.cells.lookup x = some b ∧ X.fn x = true) ∧ s.heap.get? b = some o)
  | [], _ => ⟨[], ⟨fun i x h => (by cases h), fun c o h => (by cases h)⟩, fun b o h => (by cases h)⟩
  | (i, x) :: r, h => by
    obtain ⟨cs, hc, hh⟩ := caps_mk I r fun i x hm => h i x (List.mem_cons_of_mem _ hm)
    obtain ⟨hN, hk, hfn, v, hv⟩ := h i x (List.mem_cons_self ..)
    obtain ⟨m, hns, hl⟩ := I.loc
    obtain ⟨u, ru, lk⟩ := hl i x v hN hv (.inr (.inl hk))
    obtain ⟨c, hcl, o, ho, hd⟩ : ∃ c, X.env.cells.lookup x = some c ∧ ∃ o, s.heap.get? c = some o ∧ o.data = .cell (some u) := by
      rcases lk with ⟨z, _⟩ | ⟨_, c, h1, h2⟩
      · have z' : X.env.scope.names.lookup x = some .local := z
        rw [hk] at z'; cases z'
      · exact ⟨c, h1, h2⟩
    have look : ∀ b o', ((c, o) :: cs).lookup b = some o' → (b = c ∧ o' = o) ∨ (b ≠ c ∧ cs.lookup b = some o') := fun b o' z => by
      rw [List.lookup_cons] at z
      by_cases hb : b = c
      · subst hb; rw [beq_self_eq_true] at z; cases z; exact .inl ⟨rfl, rfl⟩
      · rw [beq_eq_false_iff_ne.mpr hb] at z; exact .inr ⟨hb, z⟩
    have back : ∀ b o', cs.lookup b = some o' → ∃ o2, ((c, o) :: cs).lookup b = some o2 ∧ (o2 = o' ∨ (b = c ∧ o2 = o)) := fun b o' z => by
      by_cases hb : b = c
      · subst hb; exact ⟨o, by rw [List.lookup_cons, beq_self_eq_true], .inr ⟨rfl, rfl⟩⟩
      · exact ⟨o', by rw [List.lookup_cons, beq_eq_false_iff_ne.mpr hb]; exact z, .inl rfl⟩
    refine ⟨(c, o) :: cs, ⟨fun i' x' hm => ?_, fun b o' z => ?_⟩, fun b o' z => ?_⟩
    · rcases List.mem_cons.mp hm with e | hm
      · cases e
        exact ⟨c, o, u, v, hcl, by rw [List.lookup_cons, beq_self_eq_true], hv, hd, ru⟩
      · obtain ⟨c1, o1, u1, v1, e1, e2, e3, e4, e5⟩ := hc.1 i' x' hm
        obtain ⟨o2, e6, e7⟩ := back c1 o1 e2
        rcases e7 with rfl | ⟨rfl, rfl⟩
        · exact ⟨c1, o2, u1, v1, e1, e6, e3, e4, e5⟩
        · have g1 := (hh c1 o1 e2).2
          rw [ho] at g1; cases g1
          exact ⟨c1, _, u1, v1, e1, e6, e3, e4, e5⟩
    · rcases look b o' z with ⟨rfl, rfl⟩ | ⟨_, z⟩
      · exact ⟨_, hd⟩
      · exact hc.2 b o' z
    · rcases look b o' z with ⟨rfl, rfl⟩ | ⟨_, z⟩
      · exact ⟨⟨I.freeC x b hcl, x, hcl, hfn⟩, ho⟩
      · exact hh b o' z
theorem pe_callC (hcap : ∀ i x, (i, x) ∈ cap → X.N[i]? = some x ∧ X.env.scope.names.lookup x = some .cell ∧ X.fn x = true) (hr : Room j X.A) (hk : k ≤ j) (hg : Gl X x) (ha : PA X (e :: es) t) (hdf : ∃ f, X.mg x = some (.ref f) ∧ PySem.W.keepIn X.K (.ref f) = true) (hdb : (x == ("__debug__" : Str)) = false := by decide)
    (he : starEach (e :: es) X.env = (false, eval e X.env) :: starEach es X.env := by rfl) (hpl : (backTo pos (starEach es X.env)).any (·.1) = false := by rfl) : PE X (.Call (.Name x p) (e :: es) [] pos) (tCallC X x ps k cap t) := by
  intro pins s σ H Q I h
  obtain ⟨hσ, h⟩ := h
  obtain ⟨f, hm, kp⟩ := hdf
  refine wpAny_Call_Name_kw (ld_glob I hg hm ?_ hdb)
  refine PySem.W.callWith_K (h₀ := X.base) I.ok.mod.kin kp (thn (ha pos pins s σ H _ I h) fun us s1 ⟨vs, H1, I1, r, q⟩ => ⟨I1.kIn, ?_⟩) he hpl
  obtain ⟨sp, ⟨f', fd, F, b, m, kp'⟩, q⟩ := q
  rw [hm] at m; cases m
  obtain ⟨cs, hc, hh⟩ := caps_mk I1 cap fun i x hm => ⟨(hcap i x hm).1, (hcap i x hm).2.1, (hcap i x hm).2.2, hσ i x hm⟩
  have hn : ∀ b o, cs.lookup b = some o → H1 b = none := fun b o z => (hh b o z).1.1
  have hg' : ∀ b o, cs.lookup b = some o → s1.heap.get? b = some o := fun b o z => (hh b o z).2
  have q := q cs hc hn
  have e0 := I1.env0
  have young : ∀ c o, cs.lookup c = some o → X.s₀.heap.objs.size ≤ c := fun c o z => by
    obtain ⟨⟨_, y, h1, h2⟩, _⟩ := hh c o z
    exact I1.ok.cab y c h2 h1
  have up0 : ∀ c, H1 c = none → (∀ o, cs.lookup c = some o → False) → ups H1 cs c = none := fun c z y => by
    cases q2 : cs.lookup c with
    | some o => exact (y o q2).elim
    | none => rw [ups_out q2]; exact z
  have bs' : ∀ b o, X.base.get? b = some o → s1.heap.get? b = some o ∧ ups H1 cs b = none := fun b o z =>
    ⟨(e0.bs b o z).1, up0 b (e0.bs b o z).2 fun o' y => absurd (Nat.lt_of_lt_of_le (Heap.lt_size z) (Nat.le_trans I1.ok.bsz (young b o' y))) (Nat.lt_irrefl _)⟩
  have frf' : ∀ b ∈ frs X.stack, ups H1 cs b = none := fun b hb => up0 b (e0.frf b hb) fun o' y => by
    obtain ⟨⟨_, z, h1, h2⟩, _⟩ := hh b o' y
    rcases List.mem_cons.mp (I1.stkSub b hb) with e | hb'
    · exact I1.cne z b h1 e
    · obtain ⟨_, o, ho, _⟩ := I1.ok.funs.mem hb'
      exact absurd (Nat.lt_of_lt_of_le (Heap.lt_size ho) (young b o' y)) (Nat.lt_irrefl _)
  have hl : us.length = ps.length := by rw [← r.length]; exact F.len _ _ _ _ q
  have b' := b s1 us I1.kIn (by rw [List.append_nil]; exact hl)
  rw [List.append_nil] at b'
  refine wpAny_call (codeAny_mono (F.run X.A X.stack s1 (ups H1 cs) ⟨us, []⟩ us vs _ E0 (hr.mono hk) ⟨e0.frames, e0.mod, bs', e0.bsz, e0.funs, frf', hok_ups e0.hok hn hg', e0.bare⟩ b' r q) fun rs s' hq => ?_)
  cases rs with
  | error e => exact False.elim hq
  | ok fl =>
    cases fl with
    | ret u =>
      obtain ⟨v, H2, os, bare, un, hok, rv, hx, q2⟩ := hq
      have nc := nc_of hok hx hc.2
      obtain ⟨hh', g, d, tk, os'⟩ := s'
      obtain rfl : os' = s1.os := os
      exact ⟨v, dels H2 cs, I1.call (h' := hh') (g' := g) (d' := d) (t' := tk) (ch := []) (un_dels un hok hn hg' hx) (hok_dels hok hx) bare (fun b z => absurd z (by simp)), rv, q2 nc⟩
    | next => exact False.elim hq
    | brk => exact False.elim hq
    | cont => exact False.elim hq
end

/-! ### a call of a function that a name holds -/
def tCallV (X : Cx) (i k : Nat) (t : TA) : TE := fun σ H Q => ∃ f fd, σ[i]? = some (some (.ref f)) ∧ (∃ fo, H f = some (.ext (Is f fo)) ∧ fo.data = .func fd) ∧ t σ H fun vs H1 => (∃ fo, H1 f = some (.ext (Is f fo)) ∧ fo.data = .func fd) ∧
  ∃ ps sp, FnOk X.prog X.w X.K X.mg X.base CX0 k f fd ps sp ∧ Binds X.K fd ps [] ∧ sp vs H1 Q E0
section
variable {X : Cx} {x : Str} {i k j : Nat} {p pos : Pos} {e : Expr} {es : List Expr} {t : TA}
theorem fnAt_of {P : Program} {w : World} {H : Hp} {h : Heap} {f : Addr} {fd : FuncData} (ok : HOk P w H h) (hf : ∃ fo, H f = some (.ext (Is f fo)) ∧ fo.data = .func fd) : PySem.W.FnAt f h := by
  obtain ⟨⟨oc, od, da, sl⟩, e, d⟩ := hf
  have d' : da = .func fd := d
  subst d'
  exact ⟨oc, od, fd, sl, ext_get ok e⟩
theorem pe_callV (hN : X.N[i]? = some x) (hv : Vis X.env.scope x) (hr : Room j X.A) (hk : k ≤ j) (ha : PA X (e :: es) t) (hdb : (x == ("__debug__" : Str)) = false := by decide) (hcd : (x == ("__classdict__" : Str)) = false := by decide)
    (he : starEach (e :: es) X.env = (false, eval e X.env) :: starEach es X.env := by rfl) (hpl : (backTo pos (starEach es X.env)).any (·.1) = false := by rfl) : PE X (.Call (.Name x p) (e :: es) [] pos) (tCallV X i k t) := by
  intro pins s σ H Q I h
  obtain ⟨f, fd, hσ, hf, h⟩ := h
  refine wpAny_Call_Name_kw (thn (pe_var hN hv hdb hcd pins s σ H (fun v H' => v = .ref f ∧ H' = H) I ⟨_, hσ, rfl, rfl⟩) fun u s1 ⟨v, H0, I0, rv, e1, e2⟩ => ?_)
  subst e1; subst e2
  cases (show u = Value.ref f from rv)
  refine PySem.W.callWith_F (fnAt_of I0.hok hf) (thn (ha pos pins s1 σ H0 _ I0 h) fun us s2 ⟨vs, H1, I1, r, hf1, ps, sp, F, b, q⟩ => ⟨fnAt_of I1.hok hf1, ?_⟩) he hpl
  refine run_fn (ds := []) (dvs := []) F (hr.mono hk) b .nil pass0 I1 r ?_
  rw [List.append_nil]
  exact q
end
end Sh

end
section
set_option Elab.async false
set_option linter.all false
set_option maxRecDepth 100000
set_option maxHeartbeats 4000000
namespace Sh
open PySem PySem.Spec PyProof.Rows L2

/-! ### [elt for x in iter] -/
def clOf (scope : Scope) (env : Env) : List (Str × Addr) := (scope.names.filterMap fun y => if y.2 == .free then (env.cells.lookup y.1).map fun c => (y.1, c) else none).reverse
theorem clOf_mem {scope : Scope} {env : Env} {x : Str} {c : Addr} (h : (x, c) ∈ clOf scope env) : env.cells.lookup x = some c := by
  unfold clOf at h
  rw [List.mem_reverse] at h
  obtain ⟨⟨n, k⟩, _, e⟩ := List.mem_filterMap.mp h
  split at e
  · cases q : env.cells.lookup n with
    | none => simp only [q] at e; cases e
    | some d =>
      simp only [q] at e
      cases e
      exact q
  · cases e
theorem clOf_some {scope : Scope} {env : Env} {x : Str} {c : Addr} (h : (clOf scope env).lookup x = some c) : env.cells.lookup x = some c := clOf_mem (PySem.mem_of_lookup h)
theorem lookup_of_key {α : Type} {x : Str} : ∀ {l : List (Str × α)}, (∃ v, (x, v) ∈ l) → ∃ v, l.lookup x = some v
  | [], ⟨v, h⟩ => by cases h
  | (y, u) :: r, ⟨v, h⟩ => by
    rw [List.lookup_cons]
    by_cases e : x = y
    · rw [e, beq_self_eq_true]; exact ⟨u, rfl⟩
    · rw [beq_eq_false_iff_ne.mpr e]
      rcases List.mem_cons.mp h with z | z
      · cases z; exact absurd rfl e
      · exact lookup_of_key ⟨v, z⟩
theorem clOf_has {scope : Scope} {env : Env} {x : Str} {c : Addr} (h : (x, NameKind.free) ∈ scope.names) (hc : env.cells.lookup x = some c) : (clOf scope env).lookup x = some c := by
  obtain ⟨v, hv⟩ := lookup_of_key (l := clOf scope env) (x := x) ⟨c, by
    unfold clOf
    rw [List.mem_reverse]
    refine List.mem_filterMap.mpr ⟨(x, .free), h, ?_⟩
    simp [hc]⟩
  have := clOf_some hv
  rw [hc] at this; cases this
  exact hv
/-- the scope of a comprehension within a def's: closed facts -/
structure LcScope (x : Str) (fr : List Str) (sc scope : Scope) : Prop where
  kind : scope.kind = .function
  nocell : ∀ y ∈ scope.names, y.2 ≠ .cell
  loc : scope.names.lookup x = some .local
  names : ∀ y ∈ scope.names, y.2 = .local → scope.names.lookup y.1 = some .local
  sub : ∀ y ∈ scope.names, y.2 = .free → sc.names.lookup y.1 = some .cell ∨ sc.names.lookup y.1 = some .free
  fre : ∀ y ∈ fr, scope.names.lookup y = some .free
  nd : (x :: fr).Nodup
theorem relabel_kind {scope : Scope} {env : Env} {y : Str} : (relabel scope env).names.lookup y = (scope.names.lookup y).map fun k => if (k == .free && env.scope.kind == .function && env.kindOf y == some .cell) = true then .cell else k := by
  unfold relabel
  simp only
  induction scope.names with
  | nil => rfl
  | cons p r ih =>
    obtain ⟨n, k⟩ := p
    simp only [List.map_cons]
    by_cases hc : (k == .free && env.scope.kind == .function && env.kindOf n == some .cell) = true
    · rw [if_pos hc, List.lookup_cons, List.lookup_cons]
      by_cases e : y = n
      · subst e
        rw [beq_self_eq_true]
        show some NameKind.cell = some (if _ then _ else _)
        rw [if_pos hc]
      · rw [beq_eq_false_iff_ne.mpr e]; exact ih
    · rw [if_neg hc, List.lookup_cons, List.lookup_cons]
      by_cases e : y = n
      · subst e
        rw [beq_self_eq_true]
        show some k = some (if _ then _ else _)
        rw [if_neg hc]
      · rw [beq_eq_false_iff_ne.mpr e]; exact ih
/-- the captured names' values -/
def capS (σ : L2.St) (ix : List Nat) : L2.St := ix.map fun i => (σ[i]?).join
/-- the block's context -/
def cxLc (X : Cx) (x : Str) (fr : List Str) (scope : Scope) (C : Addr) (s₃ : Shared) (H₃ : Hp) (fp : List Addr) (pins : List (Addr × Obj)) : Cx :=
  { X with N := x :: fr, s₀ := s₃, H₀ := H₃, env := compEnvC scope (clOf scope X.env) C X.env, outer := X.stack, stack := X.stack, ex := fp, fn := fun _ => false, pn := X.pn ++ pins, xe := fun _ _ => False }
section
variable {X : Cx} {x : Str} {fr : List Str} {scope : Scope} {pins : List (Addr × Obj)} {σ : L2.St} {H : Hp} {s₃ : Shared} {h₁ : Heap} {tk : Nat} {fp : List Addr} {ix : List Nat}
theorem inv_lc (I : Inv X pins σ H s₃) (S : LcScope x fr X.env.scope scope) (hix : ix.length = fr.length) (hN : ∀ (j : Nat) (i : Nat) (y : Str), ix[j]? = some i → fr[j]? = some y → X.N[i]? = some y)
    (hf : ∀ b ∈ fp, FpOk X pins H b ∧ b < s₃.heap.objs.size) (hns : h₁.Ns s₃.heap.objs.size fun _ => none) (hk : ∀ b o, s₃.heap.get? b = some o → h₁.get? b = some o) :
    Inv (cxLc X x fr scope s₃.heap.objs.size s₃ H fp pins) [] (none :: capS σ ix) H { s₃ with heap := h₁, toks := tk } := by
  have cl : ∀ y c, (clOf scope X.env).lookup y = some c → X.env.cells.lookup y = some c := fun y c e => clOf_some e
  have has : ∀ y, scope.names.lookup y = some .free → ∃ c, (clOf scope X.env).lookup y = some c := fun y e => by
    have hm := PySem.mem_of_lookup e
    obtain ⟨c, hc⟩ := I.ok.has y (S.sub _ hm rfl)
    exact ⟨c, clOf_has hm hc⟩
  have rel : ∀ y, (relabel scope X.env).names.lookup y = some .cell ∨ (relabel scope X.env).names.lookup y = some .free → scope.names.lookup y = some .free := fun y h => by
    rw [relabel_kind] at h
    cases e : scope.names.lookup y with
    | none => rw [e] at h; rcases h with h | h <;> cases h
    | some k =>
      cases k with
      | free => rfl
      | cell => exact absurd rfl (S.nocell _ (PySem.mem_of_lookup e))
      | _ => rw [e] at h; rcases h with h | h <;> simp at h
  refine ⟨⟨I.ok.mod, S.kind, I.ok.glob, I.ok.blt, Nat.le_refl _, fun y z c h1 h2 => I.ok.inj y z c (cl _ _ h1) (cl _ _ h2), fun y hy => has y (rel y hy), (fun y c z _ => absurd z Bool.false_ne_true), I.ok.hd, I.ok.frames, .inl rfl,
    fun b hb => ⟨Nat.ne_of_lt (hf b hb).2, fun y c e => (hf b hb).1.2.2.2.2.1 y c (cl y c e)⟩, I.bs, Nat.le_trans I.ok.bsz I.sz, fun b o e hb => ?_, fun b hb hs => ?_, I.stack, I.stkFree⟩,
    rfl, I.bare, Un.kept hk, ⟨_, hns, fun j y v h1 h2 h3 => ?_⟩, fun y c e => ?_, I.hok.fresh (Nat.le_refl _), fun y c e => I.freeC y c (cl y c e), fun p hp => ?_, I.hok.kept hk, ?_⟩
  · rcases (hf b hb).1.2.2.2.1 with z | z
    · exact I.ok.noex b o e z
    · exact absurd (Nat.lt_of_lt_of_le (Heap.lt_size e) (Nat.le_trans I.ok.bsz z)) (Nat.lt_irrefl _)
  · rcases List.mem_cons.mp (I.stkSub b hs) with z | z
    · exact (hf b hb).1.2.1 z
    · exact (hf b hb).1.2.2.1 z
  · cases j with
    | zero => simp at h2
    | succ j =>
      have h1' : fr[j]? = some y := by simpa [cxLc] using h1
      have h2' : (capS σ ix)[j]? = some (some v) := by simpa using h2
      unfold capS at h2'
      rw [List.getElem?_map] at h2'
      cases e : ix[j]? with
      | none => rw [e] at h2'; cases h2'
      | some i =>
        rw [e] at h2'
        have h4 : (σ[i]?).join = some v := Option.some.inj h2'
        have h5 : σ[i]? = some (some v) := by
          cases q : σ[i]? with
          | none => rw [q] at h4; cases h4
          | some o => rw [q] at h4; rw [show o = some v from h4]
        have hy := S.fre y (List.mem_of_getElem? h1')
        have hm := PySem.mem_of_lookup hy
        have hv : Vis X.env.scope y := by rcases S.sub _ hm rfl with z | z; exact .inr (.inl z); exact .inr (.inr z)
        obtain ⟨m, _, hl⟩ := I.loc
        obtain ⟨u, ru, lk⟩ := hl i y v (hN j i y e h1') h5 hv
        refine ⟨u, ru, .inr ⟨?_, ?_⟩⟩
        · show (relabel scope X.env).names.lookup y = some .cell ∨ (relabel scope X.env).names.lookup y = some .free
          rw [relabel_kind, hy]
          simp only [Option.map_some]
          split
          · exact .inl rfl
          · exact .inr rfl
        · rcases lk with ⟨z, _⟩ | ⟨_, c, e1, e2⟩
          · rcases S.sub _ hm rfl with z2 | z2
            · have z' : X.env.scope.names.lookup y = some .local := z
              rw [z2] at z'; cases z'
            · have z' : X.env.scope.names.lookup y = some .local := z
              rw [z2] at z'; cases z'
          · exact ⟨c, clOf_has hm e1, e2.keeps hk⟩
  · obtain ⟨v, z⟩ := I.cell y c (cl y c e)
    exact ⟨v, z.keeps hk⟩
  · have hp' : p ∈ X.pn ++ pins := by simpa [cxLc] using hp
    obtain ⟨q1, q2, q3, q4, q5⟩ := I.pin p hp'
    refine ⟨hk _ _ q1, q2, Nat.ne_of_lt (Heap.lt_size q1), fun hs => ?_, q5⟩
    rcases List.mem_cons.mp (I.stkSub _ hs) with z | z
    · exact q3 z
    · exact q4 z
  · show (capS σ ix).length + 1 = fr.length + 1
    unfold capS
    rw [List.length_map, hix]
/-- behind the block -/
theorem inv_lc_end {σ' : L2.St} {H' : Hp} {s' : Shared} {h' : Heap} (I : Inv X pins σ H s₃) (J : Inv (cxLc X x fr scope s₃.heap.objs.size s₃ H fp pins) [] σ' H' s') (hf : ∀ b ∈ fp, FpOk X pins H b) (hs : Heap.SameBut s₃.heap.objs.size s'.heap h') :
    Inv X pins σ H' { s' with heap := h' } := by
  have ne : ∀ b o, s₃.heap.get? b = some o → b ≠ s₃.heap.objs.size := fun b o e => Nat.ne_of_lt (Heap.lt_size e)
  have to : ∀ b o, b ≠ s₃.heap.objs.size → s'.heap.get? b = some o → h'.get? b = some o := fun b o hb e => (hs.2 b hb).trans e
  have u : Un (frs X.stack) fp H H' s₃.heap s'.heap := J.base
  have hC : H' s₃.heap.objs.size = none := J.free
  refine I.call' (s' := { s' with heap := h' }) (ch := fp) J.os ⟨fun b o e n hb hx => to b o (ne b o e) (u.keep b o e n hb hx), fun b o e n hb hx => ?_, u.free, fun b o e hx => ?_, u.tups, u.frzs, u.tbls⟩ (fun a v e => ?_) J.bare fun b hb => ⟨(hf b hb).2.2.2.1, (hf b hb).2.1, (hf b hb).2.2.2.2.1, (hf b hb).2.2.2.2.2⟩
  · obtain ⟨sl, z⟩ := u.slot b o e n hb hx
    exact ⟨sl, to b _ (ne b o e) z⟩
  · obtain ⟨o', z⟩ := u.there b o e hx
    exact ⟨o', to b _ (ne b o e) z⟩
  · have J2 : HOk X.prog X.w H' s'.heap := J.hok
    refine (J2 a v e).stay (fun b w' hb z => to b w' (fun y => ?_) z) (fun _ z => z) fun _ _ z => z
    rcases hb with rfl | hb
    · rw [y, hC] at e; cases e
    · rw [y, hC] at hb; cases hb
end
def tLC (wi : TI) (ix : List Nat) (te : TE) : TE := fun σ H Q => wi σ H fun J H1 => ∀ D, H1 D = none → ∃ W : Nat → Nat → Hp → Prop, (∃ m, W 0 m (upd H1 D (.lst []))) ∧ ∀ i m H, W i m H →
  (J.stop i H ∧ Q (.ref D) H) ∨ (J.go i H ∧ ∃ N : Hp → Prop, (∀ H', N H' → ∃ m', m' < m ∧ W (i + 1) m' H') ∧ ∀ x H', J.yld i H x H' → te (some x :: capS σ ix) H' fun y H2 => rAppend (.ref D) [y] H2 fun _ H3 => N H3)
section
variable {X : Cx} {x : Str} {fr : List Str} {scope : Scope} {iter elt : Expr} {px pos : Pos} {wi : TI} {te : TE} {ix : List Nat}
theorem pe_lcomp (hxe : X.xe = fun _ _ => False) (hcalm : X.calm = true) (S : LcScope x fr X.env.scope scope) (hix : ix.length = fr.length) (hN : ∀ (j : Nat) (i : Nat) (y : Str), ix[j]? = some i → fr[j]? = some y → X.N[i]? = some y)
    (hi : PI X (.Name x px) iter wi) (he : ∀ s₃ H₃ fp pins, PE (cxLc X x fr scope s₃.heap.objs.size s₃ H₃ fp pins) elt te) (hcl : closureFor scope X.env = pure (clOf scope X.env) := by rfl) (hs : ∀ v, foldedSetIterable iter X.env v = pure v := by intro _; rfl) :
    PE X (.ListComp elt [⟨.Name x px, iter, [], 0⟩] scope pos) (tLC wi ix te) := by
  intro pins s σ H Q I h
  rw [eval_ListComp]
  have hi' := hi pins s σ H _ I h
  rw [hxe] at hi' ⊢
  refine wpAny_comprehension_free (use := none) rfl hs hcl S.kind S.names (wpAny_mono hi' (fun v s1 h1 => wpAny_mono h1 (fun itv s2 h2 => ?_) fun _ _ e => e) fun _ _ e => e)
  obtain ⟨it, fp, tn, J, H1, rfl, I2, T, ht0, hfp, hR⟩ := h2
  have hD0 : H1 s2.heap.objs.size = none := I2.fresh
  obtain ⟨W, ⟨m0, hW0⟩, hW⟩ := hR s2.heap.objs.size hD0
  have I3 : Inv X pins σ (upd H1 s2.heap.objs.size (.lst [])) { s2 with heap := s2.heap.push { cls := .type "list", data := .seq ([] : List Value).toArray } } := I2.lnew (t' := s2.toks) (ys := []) (its := []) .nil (Nat.zero_le _)
  refine wpAny_newObj_type (wpAny_newFunctionEnv S.nocell (by intro y hy; simp at hy) (fun h₁ hns hsb => ?_) S.kind)
  have hk : ∀ b o, (s2.heap.push { cls := .type "list", data := .seq ([] : List Value).toArray }).get? b = some o → h₁.get? b = some o := fun b o e => hsb.extBut b o (Nat.ne_of_lt (Heap.lt_size e)) (Heap.get?_push_of_some _ e)
  have hfp3 : ∀ b ∈ fp, FpOk X pins (upd H1 s2.heap.objs.size (.lst [])) b ∧ b < (s2.heap.push { cls := .type "list", data := .seq ([] : List Value).toArray }).objs.size := fun b hb => by
    obtain ⟨o, ho, _⟩ := T.obj 0 _ ht0 b hb
    have hlt := Heap.lt_size ho
    obtain ⟨f0, f1, f2, f3, f4, f5⟩ := hfp b hb
    exact ⟨⟨by rw [upd_ne (Nat.ne_of_lt hlt)]; exact f0, f1, f2, f3, f4, f5⟩, Nat.lt_of_lt_of_le hlt (by rw [Heap.size_push]; exact Nat.le_succ _)⟩
  have J4 := inv_lc (tk := s2.toks + ([] : List (Str × Value)).length) I3 S hix hN hfp3 hns hk
  generalize hs3 : ({ s2 with heap := s2.heap.push { cls := .type "list", data := .seq ([] : List Value).toArray } } : Shared) = s3 at *
  have ht1 : tn 0 h₁ := T.keep 0 _ _ ht0 fun b hb o e => hk b o (Heap.get?_push_of_some _ e)
  -- the loop
  have loop : ∀ s4, Inv (cxLc X x fr scope s3.heap.objs.size s3 (upd H1 s2.heap.objs.size (.lst [])) fp pins) [] (none :: capS σ ix) (upd H1 s2.heap.objs.size (.lst [])) s4 → tn 0 s4.heap →
      codeAny (model X.prog X.w) X.A (.compLoop (.ListComp elt [⟨.Name x px, iter, [], 0⟩] scope pos) 0 (.ref it) (.ref s2.heap.objs.size) (compEnvC scope (clOf scope X.env) s3.heap.objs.size X.env)) (compPost (model X.prog X.w) X.A (fun _ _ => False) none (EP X pins σ Q) (.ref s2.heap.objs.size) s3.heap.objs.size) s4 := by
    intro s4 J4 ht4
    have hpg : PG (cxLc X x fr scope s3.heap.objs.size s3 (upd H1 s2.heap.objs.size (.lst [])) fp pins) (.Name x px) (gName 0) := pg_name (i := 0) S.nd rfl (Or.inl (by
      show (relabel scope X.env).names.lookup x = some .local
      rw [relabel_kind, S.loc]; rfl)) (Or.inr (by
      show (relabel scope X.env).names.lookup x = some .local
      rw [relabel_kind, S.loc]; rfl))
    have stat : ∀ {H' : Hp}, (∀ b ∈ fp, H' b = none) → ∀ b ∈ fp, FpOk (cxLc X x fr scope s3.heap.objs.size s3 (upd H1 s2.heap.objs.size (.lst [])) fp pins) [] H' b := fun hn b hb => by
      obtain ⟨⟨f0, f1, f2, f3, f4, f5⟩, hlt⟩ := hfp3 b hb
      have hlt' : b < s3.heap.objs.size := by rw [← hs3]; exact hlt
      refine ⟨hn b hb, Nat.ne_of_lt hlt', fun hs => ?_, .inl hb, fun y c e => f4 y c (clOf_some e), fun p hp => f5 p (by simpa [cxLc] using hp)⟩
      rcases List.mem_cons.mp (I3.stkSub b hs) with z | z
      · exact f1 z
      · exact f2 z
    refine codeAny_loop rfl (fun n s5 => ∃ i H5 o, Inv (cxLc X x fr scope s3.heap.objs.size s3 (upd H1 s2.heap.objs.size (.lst [])) fp pins) [] (o :: capS σ ix) H5 s5 ∧ tn i s5.heap ∧ (∀ b ∈ fp, H5 b = none) ∧ W i n H5) (fun n s5 hI => ?_) m0
      ⟨0, _, none, J4, ht4, fun b hb => (hfp3 b hb).1.1, hW0⟩
    obtain ⟨i, H5, o, J5, ht5, fr5, w5⟩ := hI
    show wpAny _ X.A ((compTurn (.ListComp elt [⟨.Name x px, iter, [], 0⟩] scope pos) 0 (.ref it) (.ref s2.heap.objs.size) (compEnvC scope (clOf scope X.env) s3.heap.objs.size X.env)).onRaise _) _ _ s5
    refine wpAny_noted ?_
    rw [compTurn_list1]
    refine wpAny_bind (wpAny_standAt (wpAny_bind ?_))
    rcases hW i n H5 w5 with ⟨stop, q⟩ | ⟨go, N, hN', step⟩
    · refine wpAny_mono (T.done (cxLc X x fr scope s3.heap.objs.size s3 (upd H1 s2.heap.objs.size (.lst [])) fp pins) rfl rfl rfl hcalm i [] s5 _ H5 (fun _ _ => False) J5 (stat fr5) ht5 stop) (fun r s6 ⟨hr, J6⟩ => ?_) fun _ _ z => z.elim
      subst hr
      obtain ⟨m, hn, _⟩ := id J6.loc
      exact wpAny_pure ⟨m, hn, fun h' hs => ⟨.ref s2.heap.objs.size, H5, inv_lc_end I3 J6 (fun b hb => (hfp3 b hb).1) hs, rfl, q⟩⟩
    · refine wpAny_mono (T.item (cxLc X x fr scope s3.heap.objs.size s3 (upd H1 s2.heap.objs.size (.lst [])) fp pins) rfl rfl rfl hcalm i [] s5 _ H5 (fun _ _ => False) J5 (stat fr5) ht5 go) (fun r s6 ⟨u, hr, h6⟩ => ?_) fun _ _ z => z.elim
      subst hr
      refine wpAny_bind (wpAny_mono h6 (fun _ s7 ⟨v, H7, J7, r7, y7, ht7, fr7⟩ => ?_) fun _ _ z => z.elim)
      have J7' := J7.pinned (stat fr7) (T.obj _ _ ht7)
      refine wpAny_bind (wpAny_mono (hpg _ s7 _ H7 v u (fun σ' H' => σ' = some v :: capS σ ix ∧ H' = H7) J7' r7 ⟨rfl, rfl⟩) (fun _ s8 ⟨σ8, H8, J8, e8, e9⟩ => ?_) fun _ _ z => False.elim z)
      subst e8; subst e9
      refine wpAny_bind (wpAny_bind (wpAny_mono (he _ _ _ _ _ s8 _ H8 _ J8 (step v H8 y7)) (fun yv s9 ⟨y, H9, J9, r9, q9⟩ => ?_) fun _ _ z => False.elim z))
      refine wpAny_bind (wpAny_mono (mt_append (X := cxLc X x fr scope s3.heap.objs.size s3 (upd H1 s2.heap.objs.size (.lst [])) fp pins) _ s9 _ H9 (.ref s2.heap.objs.size) [y] (.ref s2.heap.objs.size) [yv] _ J9 rfl (.cons r9 .nil) q9) (fun _ s10 ⟨z, H10, J10, _, q10⟩ => ?_) fun _ _ z => False.elim z)
      obtain ⟨m', hm, w10⟩ := hN' _ q10
      refine wpAny_pure (wpAny_pure ⟨rfl, m', hm, i + 1, H10, some v, J10.unpinned, T.keep _ _ _ ht7 fun b hb ob e => (J10.pin (b, ob) (List.mem_append_right _ (List.mem_append_right _ (mem_pinsAt hb e)))).1, fun b hb => ?_, w10⟩)
      obtain ⟨ob, e, d⟩ := T.obj _ _ ht7 b hb
      exact (J10.pin (b, ob) (List.mem_append_right _ (List.mem_append_right _ (mem_pinsAt hb e)))).2.1
  subst hs3
  exact codeAny_compStart_list (loop _ J4 ht1) (T.self _ 0 _ _ _ ht1 (loop _ J4 ht1))
/-- over a tuple that the block leaves as it is -/
theorem lc_tup {K : PySem.W.Frag} {a : Addr} {xs : List V} {te : TE} {σ' : L2.St} {H : Hp} {Q : VK} (Pv : Nat → Addr → Hp → Prop) (h0 : ∀ D, H D = none → Pv 0 D (upd H D (.lst []))) (hl : ∀ i D H, i ≤ xs.length → Pv i D H → SqT K H a xs)
    (hs : ∀ i D x H, xs[i]? = some x → Pv i D H → te (some x :: σ') H fun y H2 => rAppend (.ref D) [y] H2 fun _ H3 => Pv (i + 1) D H3) (hd : ∀ D H, Pv xs.length D H → Q (.ref D) H) :
    ∀ D, H D = none → ∃ W : Nat → Nat → Hp → Prop, (∃ m, W 0 m (upd H D (.lst []))) ∧ ∀ i m H, W i m H →
      ((Itt K a).stop i H ∧ Q (.ref D) H) ∨ ((Itt K a).go i H ∧ ∃ N : Hp → Prop, (∀ H', N H' → ∃ m', m' < m ∧ W (i + 1) m' H') ∧ ∀ x H', (Itt K a).yld i H x H' → te (some x :: σ') H' fun y H2 => rAppend (.ref D) [y] H2 fun _ H3 => N H3) := by
  intro D hD
  refine ⟨fun i m H => i + m = xs.length ∧ Pv i D H, ⟨xs.length, by omega, h0 D hD⟩, fun i m H ⟨hm, hP⟩ => ?_⟩
  have hq := hl i D H (by omega) hP
  cases e : xs[i]? with
  | none =>
    have hi : xs.length ≤ i := by rw [List.getElem?_eq_none_iff] at e; exact e
    have hi2 : i = xs.length := by omega
    subst hi2
    exact .inl ⟨⟨xs, hq, Nat.le_refl _⟩, hd D H hP⟩
  | some x =>
    have hi : i < xs.length := (List.getElem?_eq_some_iff.mp e).1
    refine .inr ⟨⟨xs, x, hq, e⟩, Pv (i + 1) D, fun H' hP' => ⟨m - 1, by omega, by omega, hP'⟩, fun y H' ⟨e1, e2⟩ => ?_⟩
    subst e1
    have e3 := e2 xs hq
    rw [e] at e3; cases e3
    exact hs i D x H' e hP
end
end Sh

end
section
set_option Elab.async false
set_option linter.all false
set_option maxRecDepth 100000
set_option maxHeartbeats 4000000
namespace Sh
open PySem PySem.Spec PyProof.Rows L2

/-! ### zip of two tuples, in a for with two names -/
section
variable {P : Program} {w : World} {A : Around} {E : Value → Shared → Prop} {s : Shared}
theorem nx_item {j t : Addr} {n : Nat} {its : Array Value} {y : Value} {Q : Value → Shared → Prop} (hj : s.heap.IsTupleIter j t n) (ht : s.heap.IsTuple t its) (hy : its[n]? = some y)
    (q : ∀ h2, h2.IsTupleIter j t (n + 1) → Heap.SameBut j s.heap h2 → Q y { s with heap := h2 }) : wpAny (model P w) A (Builtin.SmallTypes.nextOf (.ref j)) Q E s := by
  obtain ⟨oj, ej, cj, dj⟩ := id hj
  obtain ⟨ot, et, _, nt, dt⟩ := ht
  unfold Builtin.SmallTypes.nextOf
  refine wpAny_bind (wpAny_callSpecial?_slot (name := Str.ofString "__next__") hj.typeIs F.slot_tuple_iterator_next (wpAny_call_entry F.slot_tuple_iterator_next hj.typeIs F.entry_tuple_iterator_next ?_ (F.args_tuple_iterator_next_1 _)))
  show wpAny _ _ (field (.ref j) 0 >>= _) _ _ s
  refine wpAny_bind (wpAny_field ej dj (x := .ref t) rfl ?_)
  show wpAny (model P w) _ (if (Value.ref t == Value.none) = true then _ else _) _ _ s
  rw [if_neg (show ¬ ((Value.ref t == Value.none) = true) by exact Bool.false_ne_true)]
  show wpAny _ _ (field (.ref j) 1 >>= _) _ _ s
  refine wpAny_bind (wpAny_field ej dj (x := .int n 0) rfl ?_)
  show wpAny (model P w) _ (seqItems? (.ref t) >>= _) _ _ s
  refine wpAny_bind (wpAny_seqItems et dt ?_)
  simp only [Int.toNat_natCast, hy]
  refine wpAny_bind (wpAny_setField ej dj (by simp) (wpAny_pure ⟨y, rfl, wpAny_pure (q _ ?_ (Heap.SameBut.update ..))⟩))
  exact ⟨_, Heap.get?_update_self _ ej (Obj.isFreed_of_fields (Obj.data_mapFields dj _)), (Obj.cls_mapFields ..).trans cj, (by rw [Obj.data_mapFields dj]; simp [rawInt])⟩
theorem nx_end {j t : Addr} {n : Nat} {its : Array Value} {Q : Value → Shared → Prop} (hc : A.handled = none) (hj : s.heap.IsTupleIter j t n) (ht : s.heap.IsTuple t its) (hy : its[n]? = none)
    (q : ∀ h2 e, Heap.ExtBut j s.heap h2 → (∃ o, h2.get? e = some o ∧ o.cls = .type "StopIteration") → E (.ref e) { s with heap := h2 }) : wpAny (model P w) A (Builtin.SmallTypes.nextOf (.ref j)) Q E s := by
  obtain ⟨oj, ej, cj, dj⟩ := id hj
  obtain ⟨ot, et, _, nt, dt⟩ := ht
  unfold Builtin.SmallTypes.nextOf
  refine wpAny_bind (wpAny_callSpecial?_slot (name := Str.ofString "__next__") hj.typeIs F.slot_tuple_iterator_next (wpAny_call_entry F.slot_tuple_iterator_next hj.typeIs F.entry_tuple_iterator_next ?_ (F.args_tuple_iterator_next_1 _)))
  show wpAny _ _ (field (.ref j) 0 >>= _) _ _ s
  refine wpAny_bind (wpAny_field ej dj (x := .ref t) rfl ?_)
  show wpAny (model P w) _ (if (Value.ref t == Value.none) = true then _ else _) _ _ s
  rw [if_neg (show ¬ ((Value.ref t == Value.none) = true) by exact Bool.false_ne_true)]
  show wpAny _ _ (field (.ref j) 1 >>= _) _ _ s
  refine wpAny_bind (wpAny_field ej dj (x := .int n 0) rfl ?_)
  show wpAny (model P w) _ (seqItems? (.ref t) >>= _) _ _ s
  refine wpAny_bind (wpAny_seqItems et dt ?_)
  simp only [Int.toNat_natCast, hy]
  refine wpAny_bind (wpAny_rule (wpAny_bind (wpAny_setField ej dj (by simp) ?_)))
  show wpAny (model P w) _ (newExc (.type "StopIteration") [] >>= _) _ _ _
  refine wpAny_bind ?_
  simp only [newExc, newTuple]
  refine wpAny_bind (wpAny_newObj_type ?_ (show _ from by size_fits))
  refine wpAny_bind (m := firstArgMember _ _) (wpAny_of_eq (a := Value.none) (by first | rfl | (simp only [firstArgMember]; rfl)) (wpAny_newObj_type ?_ (by size_fits)))
  simp only [raiseNew]
  refine wpAny_bind (wpAny_handled ?_)
  first | rw [show A.in1.handled = none from hc] | rw [hc]
  exact wpAny_bind (wpAny_pure (wpAny_throw (q _ _ (((Heap.SameBut.update ..).extBut.push _).push _) ⟨_, Heap.get?_push_size _ rfl, rfl⟩)))

/-- the five things of a zip over the tuples t1, t2: all apart -/
structure Zp (z ti to i1 i2 t1 t2 : Addr) : Prop where
  a1 : ti ≠ z
  a2 : to ≠ z
  a3 : i1 ≠ z
  a4 : i2 ≠ z
  a5 : ti ≠ to
  a6 : ti ≠ i1
  a7 : ti ≠ i2
  a8 : to ≠ i1
  a9 : to ≠ i2
  b1 : i1 ≠ i2
  b2 : t1 ≠ z
  b3 : t1 ≠ to
  b4 : t1 ≠ i1
  b5 : t1 ≠ i2
  b6 : t2 ≠ z
  b7 : t2 ≠ to
  b8 : t2 ≠ i1
  b9 : t2 ≠ i2
/-- a zip after n turns -/
structure Zs (h : Heap) (z ti to i1 i2 t1 t2 : Addr) (f : Value) (n : Nat) : Prop where
  zip : IsZip h z ti to f
  its : IsPair h ti (.ref i1) (.ref i2)
  out : ∃ a b, IsPair h to a b
  it1 : h.IsTupleIter i1 t1 n
  it2 : h.IsTupleIter i2 t2 n
variable {z ti to i1 i2 t1 t2 : Addr} {n : Nat} {xs ys : Array Value} {x y : Value}
theorem zp_item {Q : Value → Shared → Prop} (D : Zp z ti to i1 i2 t1 t2) (S : Zs s.heap z ti to i1 i2 t1 t2 .none n) (ht1 : s.heap.IsTuple t1 xs) (ht2 : s.heap.IsTuple t2 ys) (hx : xs[n]? = some x) (hy : ys[n]? = some y)
    (hQ : ∀ h2, Zs h2 z ti to i1 i2 t1 t2 (rawInt s.heap.objs.size) (n + 1) → IsPair h2 s.heap.objs.size x y → h2.objs.size = s.heap.objs.size + 1 → (∀ c o, c ≠ z → c ≠ to → c ≠ i1 → c ≠ i2 → s.heap.get? c = some o → h2.get? c = some o) →
      Q (.ref s.heap.objs.size) { s with heap := h2 }) : wpAny (model P w) A (Builtin.«zip.__next__» ⟨[.ref z], []⟩) (fun fin s' => ∃ v, fin = .done (.ret v) ∧ Q v s') E s := by
  obtain ⟨hz, hti, ⟨a, b, hto⟩, h1, h2⟩ := S
  show wpAny (model P w) _ (field (.ref z) 2 >>= _) _ _ _
  refine wpAny_bind (wpAny_field hz rfl (x := .bool false) (by rfl) ?_)
  show wpAny (model P w) _ (field (.ref z) 3 >>= _) _ _ _
  refine wpAny_bind (wpAny_field hz rfl (x := .ref ti) rfl (wpAny_bind (wpAny_seqItems hti rfl ?_)))
  show wpAny (model P w) _ (Builtin.SmallTypes.ownedTupleIsFree (.ref z) >>= _) _ _ _
  refine wpAny_bind ?_
  unfold Builtin.SmallTypes.ownedTupleIsFree
  refine wpAny_bind (wpAny_field hz rfl (x := .none) (by rfl) (wpAny_pure ?_))
  simp only [if_true]
  refine wpAny_bind (wpAny_rule (wpAny_bind (wpAny_field hz rfl (x := .ref to) rfl (wpAny_bind (wpAny_setField_rec hz (by simp) fun g1 hz1 e1 => ?_)))))
  replace hz1 : IsZip g1 z ti to .ellipsis := by exact hz1
  refine wpAny_bind ?_
  simp only [List.zipIdx_cons, List.zipIdx_nil, List.forIn_cons, List.forIn_nil]
  refine wpAny_bind (wpAny_bind (wpAny_onRaise ?_))
  show wpAny (model P w) _ (Builtin.SmallTypes.nextOf (.ref i1) >>= _) _ _ _
  refine wpAny_bind (nx_item (h1.extBut e1.extBut D.a3) (ht1.extBut e1.extBut D.b2) hx fun g2 j1 e2 => wpAny_pure ?_)
  have o2 : IsPair g2 to a b := e2.extBut _ _ D.a8 (e1.extBut _ _ D.a2 hto)
  refine wpAny_bind (wpAny_seqItems o2 rfl (wpAny_bind (wpAny_updateSeq_pair o2 fun g3 o3 e3 => ?_)))
  replace o3 : IsPair g3 to x b := by exact o3
  refine wpAny_bind (wpAny_letGo (wpAny_pure (wpAny_bind (wpAny_bind (wpAny_onRaise ?_)))))
  show wpAny (model P w) _ (Builtin.SmallTypes.nextOf (.ref i2) >>= _) _ _ _
  refine wpAny_bind (nx_item (((h2.extBut e1.extBut D.a4).extBut e2.extBut D.b1.symm).extBut e3.extBut D.a9.symm) (((ht2.extBut e1.extBut D.b6).extBut e2.extBut D.b8).extBut e3.extBut D.b7) hy fun g4 j2 e4 => wpAny_pure ?_)
  have o4 : IsPair g4 to x b := e4.extBut _ _ D.a9 o3
  refine wpAny_bind (wpAny_seqItems o4 rfl (wpAny_bind (wpAny_updateSeq_pair o4 fun g5 o5 e5 => ?_)))
  replace o5 : IsPair g5 to x y := by exact o5
  refine wpAny_bind (wpAny_letGo (wpAny_pure (wpAny_pure (wpAny_bind (wpAny_seqItems o5 rfl (wpAny_bind (wpAny_newTuple ?_)))))))
  have hsz : g5.objs.size = s.heap.objs.size := by rw [e5.1, e4.1, e3.1, e2.1, e1.1]
  have hz5 : IsZip g5 z ti to .ellipsis := e5.extBut _ _ D.a2.symm (e4.extBut _ _ D.a4.symm (e3.extBut _ _ D.a2.symm (e2.extBut _ _ D.a3.symm hz1)))
  have k5 : ∀ c o, c ≠ z → c ≠ to → c ≠ i1 → c ≠ i2 → s.heap.get? c = some o → g5.get? c = some o := fun c o c1 c2 c3 c4 e => e5.extBut _ _ c2 (e4.extBut _ _ c4 (e3.extBut _ _ c2 (e2.extBut _ _ c3 (e1.extBut _ _ c1 e))))
  have k1 : g5.IsTupleIter i1 t1 (n + 1) := ((j1.extBut e3.extBut D.a8.symm).extBut e4.extBut D.b1).extBut e5.extBut D.a8.symm
  have k2 : g5.IsTupleIter i2 t2 (n + 1) := j2.extBut e5.extBut D.a9.symm
  have zlt : z < g5.objs.size := Heap.lt_size hz5
  show wpAny (model P w) _ (Builtin.SmallTypes.ownedTupleHandOut (.ref z) (.ref g5.objs.size) >>= _) _ _ _
  refine wpAny_bind ?_
  unfold Builtin.SmallTypes.ownedTupleHandOut
  have hz6 : IsZip (g5.push { cls := .type "tuple", data := .seq #[x, y] }) z ti to .ellipsis := Heap.get?_push_of_some _ hz5
  refine wpAny_bind (wpAny_setField_rec hz6 (by simp) fun g7 hz7 e7 => ?_)
  replace hz7 : IsZip g7 z ti to (rawInt g5.objs.size) := by exact hz7
  refine wpAny_setField_rec hz7 (by simp) fun g8 hz8 e8 => ?_
  replace hz8 : IsZip g8 z ti to (rawInt g5.objs.size) := by exact hz8
  have up : ∀ c o, c ≠ z → g5.get? c = some o → g8.get? c = some o := fun c o c1 e => e8.extBut _ _ c1 (e7.extBut _ _ c1 (Heap.get?_push_of_some _ e))
  have p8 : IsPair g8 g5.objs.size x y := e8.extBut _ _ (Nat.ne_of_gt zlt) (e7.extBut _ _ (Nat.ne_of_gt zlt) (Heap.get?_push_size _ rfl))
  have z8 : g8.objs.size = g5.objs.size + 1 := by rw [e8.1, e7.1, Heap.size_push]
  rw [hsz] at hz8 p8 z8
  refine wpAny_pure ⟨_, rfl, ?_⟩
  show Q (.ref g5.objs.size) _
  rw [hsz]
  exact hQ g8 ⟨hz8, up _ _ D.a1 (k5 _ _ D.a1 D.a5 D.a6 D.a7 hti), ⟨x, y, up _ _ D.a2 o5⟩, k1.extBut (b := z) (fun c o c1 e => up c o c1 e) D.a3, k2.extBut (b := z) (fun c o c1 e => up c o c1 e) D.a4⟩ p8 z8 fun c o c1 c2 c3 c4 e => up c o c1 (k5 c o c1 c2 c3 c4 e)
theorem zp_end {Q : Fin → Shared → Prop} (hh : A.handled = none) (D : Zp z ti to i1 i2 t1 t2) (S : Zs s.heap z ti to i1 i2 t1 t2 .none n) (ht1 : s.heap.IsTuple t1 xs) (hx : xs[n]? = none)
    (hE : ∀ h2 e, (∀ c o, c ≠ z → c ≠ i1 → s.heap.get? c = some o → h2.get? c = some o) → (∃ o, h2.get? e = some o ∧ o.cls = .type "StopIteration") → E (.ref e) { s with heap := h2 }) :
    wpAny (model P w) A (Builtin.«zip.__next__» ⟨[.ref z], []⟩) Q E s := by
  obtain ⟨hz, hti, ⟨a, b, hto⟩, h1, h2⟩ := S
  show wpAny (model P w) _ (field (.ref z) 2 >>= _) _ _ _
  refine wpAny_bind (wpAny_field hz rfl (x := .bool false) (by rfl) ?_)
  show wpAny (model P w) _ (field (.ref z) 3 >>= _) _ _ _
  refine wpAny_bind (wpAny_field hz rfl (x := .ref ti) rfl (wpAny_bind (wpAny_seqItems hti rfl ?_)))
  show wpAny (model P w) _ (Builtin.SmallTypes.ownedTupleIsFree (.ref z) >>= _) _ _ _
  refine wpAny_bind ?_
  unfold Builtin.SmallTypes.ownedTupleIsFree
  refine wpAny_bind (wpAny_field hz rfl (x := .none) (by rfl) (wpAny_pure ?_))
  simp only [if_true]
  refine wpAny_bind (wpAny_rule (wpAny_bind (wpAny_field hz rfl (x := .ref to) rfl (wpAny_bind (wpAny_setField_rec hz (by simp) fun g1 hz1 e1 => ?_)))))
  replace hz1 : IsZip g1 z ti to .ellipsis := by exact hz1
  refine wpAny_bind ?_
  simp only [List.zipIdx_cons, List.zipIdx_nil, List.forIn_cons, List.forIn_nil]
  refine wpAny_bind (wpAny_bind (wpAny_onRaise ?_))
  show wpAny (model P w) _ (Builtin.SmallTypes.nextOf (.ref i1) >>= _) _ _ _
  refine wpAny_bind (nx_end hh (h1.extBut e1.extBut D.a3) (ht1.extBut e1.extBut D.b2) hx fun g2 e e2 he => ?_)
  obtain ⟨oe, he1, he2⟩ := he
  have hz2 : IsZip g2 z ti to .ellipsis := e2 _ _ D.a3.symm hz1
  have hez : e ≠ z := fun q => by subst q; rw [hz2] at he1; cases he1; simp at he2
  exact wpAny_setField_rec hz2 (by simp) fun g3 _ e3 => hE g3 e (fun c o c1 c3 q => e3.extBut _ _ c1 (e2 _ _ c3 (e1.extBut _ _ c1 q))) ⟨oe, e3.extBut _ _ hez he1, he2⟩
theorem zp_next {Q : Option Value → Shared → Prop} (D : Zp z ti to i1 i2 t1 t2) (S : Zs s.heap z ti to i1 i2 t1 t2 .none n) (ht1 : s.heap.IsTuple t1 xs) (ht2 : s.heap.IsTuple t2 ys) (hx : xs[n]? = some x) (hy : ys[n]? = some y)
    (hQ : ∀ h2, Zs h2 z ti to i1 i2 t1 t2 (rawInt s.heap.objs.size) (n + 1) → IsPair h2 s.heap.objs.size x y → h2.objs.size = s.heap.objs.size + 1 → (∀ c o, c ≠ z → c ≠ to → c ≠ i1 → c ≠ i2 → s.heap.get? c = some o → h2.get? c = some o) →
      Q (some (.ref s.heap.objs.size)) { s with heap := h2 }) : wpAny (model P w) A (pyNext (.ref z)) Q E s := by
  have hT : s.TypeIs (.ref z) "zip" := ⟨_, S.zip, rfl⟩
  unfold pyNext
  exact wpAny_bind (wpAny_attempt (wpAny_callSpecial?_slot (name := Str.ofString "__next__") hT F.slot_zip_next (wpAny_call_entry F.slot_zip_next hT F.entry_zip_next (zp_item D S ht1 ht2 hx hy fun h2 q1 q2 q3 q4 => wpAny_pure (hQ h2 q1 q2 q3 q4)) (F.args_zip_next_1 _))))
theorem zp_done {Q : Option Value → Shared → Prop} (hh : A.handled = none) (D : Zp z ti to i1 i2 t1 t2) (S : Zs s.heap z ti to i1 i2 t1 t2 .none n) (ht1 : s.heap.IsTuple t1 xs) (hx : xs[n]? = none)
    (hQ : ∀ h2, (∀ c o, c ≠ z → c ≠ i1 → s.heap.get? c = some o → h2.get? c = some o) → Q none { s with heap := h2 }) : wpAny (model P w) A (pyNext (.ref z)) Q E s := by
  have hT : s.TypeIs (.ref z) "zip" := ⟨_, S.zip, rfl⟩
  unfold pyNext
  refine wpAny_bind (wpAny_attempt (wpAny_callSpecial?_slot (name := Str.ofString "__next__") hT F.slot_zip_next (wpAny_call_entry F.slot_zip_next hT F.entry_zip_next (zp_end hh D S ht1 hx fun h2 e hk he => ?_) (F.args_zip_next_1 _))))
  obtain ⟨o, ho, hc⟩ := he
  exact wpAny_bind (wpAny_isInstance (T := "StopIteration") (b := true) ⟨o, ho, hc⟩ isSubtype_stop (wpAny_pure (hQ _ hk)))
end
section
abbrev zq1 (h : Heap) (t : Addr) : Heap := h.push { cls := .type "tuple_iterator", data := .fields #[.ref t, .int 0 0] }
abbrev zq3 (h : Heap) (t1 t2 : Addr) : Heap := (zq1 (zq1 h t1) t2).push { cls := .type "tuple", data := .seq #[.ref h.objs.size, .ref (zq1 h t1).objs.size] }
abbrev zq4 (h : Heap) (t1 t2 : Addr) : Heap := (zq3 h t1 t2).push { cls := .type "tuple", data := .seq #[.none, .none] }
abbrev zq5 (h : Heap) (t1 t2 : Addr) : Heap := (zq4 h t1 t2).push { cls := .type "zip", data := .fields #[.none, .bool false, .bool false, .ref (zq1 (zq1 h t1) t2).objs.size, .ref (zq3 h t1 t2).objs.size] }
theorem zip_new (t1 t2 : Addr) (xs ys : Array Value) :
    Meets (Builtin.«zip.__new__» ⟨[.type "zip", .ref t1, .ref t2], []⟩) (fun _ R s => s.heap.IsTuple t1 xs ∧ s.heap.IsTuple t2 ys ∧ R (.ok (.ret (.ref (zq4 s.heap t1 t2).objs.size))) { s with heap := zq5 s.heap t1 t2 }) :=
  .of_wp fun P w A R s h => by
    obtain ⟨hp, g, d, tk, os⟩ := s; obtain ⟨ht1, ht2, h⟩ := h
    have hsub := sub_zip
    have q1 : Heap.IsTuple (Shared.heap ⟨hp, g, d, tk, os⟩) t1 xs := ht1
    have q2 : Heap.IsTuple (Shared.heap ⟨hp.push { cls := .type "tuple_iterator", data := .fields #[.ref t1, .int 0 0] }, g, d, tk, os⟩) t2 ys := Heap.IsTuple.push ht2 _
    wp_walk using wpAny_pyIter_tuple q1, wpAny_pyIter_tuple q2
    exact ⟨_, rfl, h⟩
variable {P : Program} {w : World} {A : Around} {E : Value → Shared → Prop} {s : Shared}
theorem zip_call {t1 t2 : Addr} {xs ys : Array Value} {Q : Value → Shared → Prop} (ht1 : s.heap.IsTuple t1 xs) (ht2 : s.heap.IsTuple t2 ys)
    (h : ∀ h2, Zs h2 (s.heap.objs.size + 4) (s.heap.objs.size + 2) (s.heap.objs.size + 3) s.heap.objs.size (s.heap.objs.size + 1) t1 t2 .none 0 → (∀ c o, s.heap.get? c = some o → h2.get? c = some o) → Q (.ref (s.heap.objs.size + 4)) { s with heap := h2 }) :
    wpAny (model P w) A (call (.type "zip") [.ref t1, .ref t2]) Q E s := by
  refine callType_new F.called_zip (by decide) (F.typeCall_zip_2 _ _) (F.newCall_zip_2 _ _) (fun obj => F.args_object_init_3 obj _ _) F.entry_zip_new (zip_new t1 t2 xs ys) ⟨ht1, ht2, ?_⟩
  have z1 : (zq1 s.heap t1).objs.size = s.heap.objs.size + 1 := Heap.size_push ..
  have z2 : (zq1 (zq1 s.heap t1) t2).objs.size = s.heap.objs.size + 2 := by rw [Heap.size_push, z1]
  have z3 : (zq3 s.heap t1 t2).objs.size = s.heap.objs.size + 3 := by rw [Heap.size_push, z2]
  have z4 : (zq4 s.heap t1 t2).objs.size = s.heap.objs.size + 4 := by rw [Heap.size_push, z3]
  have p : ∀ {h : Heap} {b : Addr} {o o' : Obj}, h.get? b = some o → (h.push o').get? b = some o := fun e => Heap.get?_push_of_some _ e
  have g5 : (zq5 s.heap t1 t2).get? (zq4 s.heap t1 t2).objs.size = some _ := Heap.get?_push_size _ rfl
  have g4 : (zq5 s.heap t1 t2).get? (zq3 s.heap t1 t2).objs.size = some _ := p (Heap.get?_push_size _ rfl)
  have g3 : (zq5 s.heap t1 t2).get? (zq1 (zq1 s.heap t1) t2).objs.size = some _ := p (p (Heap.get?_push_size _ rfl))
  have g2 : (zq5 s.heap t1 t2).get? (zq1 s.heap t1).objs.size = some _ := p (p (p (Heap.get?_push_size _ rfl)))
  have g1 : (zq5 s.heap t1 t2).get? s.heap.objs.size = some _ := p (p (p (p (Heap.get?_push_size _ rfl))))
  show _ ∧ _
  rw [z2, z3, z4] at g5
  rw [z1, z2] at g3
  rw [z3] at g4
  rw [z1] at g2
  rw [z4]
  exact ⟨⟨_, g5, rfl⟩, h _ ⟨g5, g3, ⟨_, _, g4⟩, ⟨_, g1, rfl, rfl⟩, ⟨_, g2, rfl, rfl⟩⟩ fun c o x => p (p (p (p (p x))))⟩
end
/-! ### as a walk of the layer -/
/-- the pairs of the tuples t1 and t2 -/
def Itz (K : PySem.W.Frag) (t1 t2 : Addr) : It :=
  ⟨fun i H => ∃ xs ys x y, H t1 = some (.tup xs) ∧ H t2 = some (.tup ys) ∧ xs[i]? = some x ∧ ys[i]? = some y,
   fun i H v H' => ∃ p x y, v = .ref p ∧ H p = none ∧ H' = upd H p (.tup [x, y]) ∧ (∀ xs, H t1 = some (.tup xs) → xs[i]? = some x) ∧ (∀ ys, H t2 = some (.tup ys) → ys[i]? = some y),
   fun i H => ∃ xs, H t1 = some (.tup xs) ∧ xs.length ≤ i⟩
section
variable {X : Cx} {pins : List (Addr × Obj)} {σ : L2.St} {H : Hp} {s : Shared}
/-- several untracked records of ours have turned, a new thing is laid -/
theorem _root_.L2.Inv.turnedN {h' : Heap} {t' : Nat} {ch : List Addr} {p : Addr} {ob : HO} (I : Inv X pins σ H s) (k : ∀ b o, b ∉ ch → s.heap.get? b = some o → h'.get? b = some o) (hf : ∀ b ∈ ch, FpOk X pins H b) (hp : s.heap.objs.size ≤ p)
    (new : ObjOk X.prog X.w (upd H p ob) h' p ob) : Inv X pins σ (upd H p ob) { s with heap := h', toks := t' } := by
  have nt : ∀ a o, H a = some o → a ∉ ch := fun a o e z => by rw [(hf a z).1] at e; cases e
  have hL : X.env.locals ∉ ch := fun z => (hf _ z).2.1 rfl
  have hp0 : H p = none := I.hok.fresh hp
  have old : ∀ b v, H b = some v → upd H p ob b = some v := fun b v e => by rw [upd_ne (ne_of_none e hp0)]; exact e
  refine I.step (ch := ch) (g' := s.gens) (d' := s.drawn) (fun b hb => ⟨(hf b hb).2.2.2.1, (hf b hb).2.1, (hf b hb).2.2.2.2.1, (hf b hb).2.2.2.2.2⟩) (fun b o _ _ hb e _ => k b o hb e) (fun b o _ _ hb e _ => ⟨o.slots, k b o hb e⟩)
    (fun b o _ e n => by rw [upd_ne (Nat.ne_of_lt (Nat.lt_of_lt_of_le (Heap.lt_size e) hp))]; exact n) (fun b o hb e => ⟨o, k b o hb e⟩) (fun b xs e => old b _ e) (fun b o u e => old b _ e) (fun b ps e => ⟨#[], by rw [old b _ e]; simp⟩) (fun m hm => ?_) (fun b u e => ?_) I.bare
  · obtain ⟨o, es, ep, ho, r⟩ := hm
    exact ⟨o, es, ep, k _ o hL ho, r⟩
  · by_cases hb : b = p
    · subst hb
      rw [upd_same] at e; cases e
      exact new
    · rw [upd_ne hb] at e
      refine (I.hok b u e).stay (fun c v hc q => k c v ?_ q) (fun c q => old c _ q) fun c xs q => old c _ q
      rcases hc with z | z
      · rw [z]; exact nt b u e
      · exact nt c _ z
theorem _root_.L2.Inv.turnedL {h' : Heap} {t' : Nat} {ch : List Addr} (I : Inv X pins σ H s) (k : ∀ b o, b ∉ ch → s.heap.get? b = some o → h'.get? b = some o) (hf : ∀ b ∈ ch, FpOk X pins H b) : Inv X pins σ H { s with heap := h', toks := t' } := by
  have nt : ∀ a o, H a = some o → a ∉ ch := fun a o e z => by rw [(hf a z).1] at e; cases e
  have hL : X.env.locals ∉ ch := fun z => (hf _ z).2.1 rfl
  refine I.step (ch := ch) (g' := s.gens) (d' := s.drawn) (fun b hb => ⟨(hf b hb).2.2.2.1, (hf b hb).2.1, (hf b hb).2.2.2.2.1, (hf b hb).2.2.2.2.2⟩) (fun b o _ _ hb e _ => k b o hb e) (fun b o _ _ hb e _ => ⟨o.slots, k b o hb e⟩)
    (fun b o _ e n => n) (fun b o hb e => ⟨o, k b o hb e⟩) (fun b xs e => e) (fun b o u e => e) (fun b ps e => ⟨#[], by rw [e]; simp⟩) (fun m hm => ?_) (fun b u e => ?_) I.bare
  · obtain ⟨o, es, ep, ho, r⟩ := hm
    exact ⟨o, es, ep, k _ o hL ho, r⟩
  · refine (I.hok b u e).stay (fun c v hc q => k c v ?_ q) (fun c q => q) fun c xs q => q
    rcases hc with z | z
    · rw [z]; exact nt b u e
    · exact nt c _ z
theorem _root_.L2.Inv.tup1 {a : Addr} {xs : List V} (I : Inv X pins σ H s) (h : H a = some (.tup xs)) : ∃ its : List Value, Vals xs its ∧ IsTup s.heap a its.toArray ∧ xs.length ≤ sizeLine := I.tuple (SqT.of h)
end
theorem turn_zip {P : Program} {w : World} {K : PySem.W.Frag} {elts : List Expr} {k : Nat} {pos : Pos} {z ti to i1 i2 t1 t2 : Addr} (D : Zp z ti to i1 i2 t1 t2) :
    Turn P w K (.Tuple elts k pos) (Itz K t1 t2) [z, ti, to, i1, i2] z (fun i h => Zs h z ti to i1 i2 t1 t2 .none i) where
  mem := by simp
  obj := fun i h S b hb => by
    obtain ⟨hz, hti, ⟨a, b', hto⟩, ⟨o1, e1, _, d1⟩, ⟨o2, e2, _, d2⟩⟩ := S
    simp only [List.mem_cons, List.not_mem_nil, or_false] at hb
    rcases hb with rfl | rfl | rfl | rfl | rfl
    · exact ⟨_, hz, fun v q => nomatch q⟩
    · exact ⟨_, hti, fun v q => nomatch q⟩
    · exact ⟨_, hto, fun v q => nomatch q⟩
    · exact ⟨_, e1, fun v q => by rw [d1] at q; cases q⟩
    · exact ⟨_, e2, fun v q => by rw [d2] at q; cases q⟩
  keep := fun i h h' S kk => by
    obtain ⟨hz, hti, ⟨a, b', hto⟩, ⟨o1, e1, r1⟩, ⟨o2, e2, r2⟩⟩ := S
    exact ⟨kk z (by simp) _ hz, kk ti (by simp) _ hti, ⟨a, b', kk to (by simp) _ hto⟩, ⟨o1, kk i1 (by simp) _ e1, r1⟩, ⟨o2, kk i2 (by simp) _ e2, r2⟩⟩
  item := by
    intro X hP hw hK hc i pins s σ H E I hf S hg
    subst hP hw hK
    obtain ⟨xs, ys, x, y, h1, h2, hx, hy⟩ := hg
    obtain ⟨us, ru, pu, hu⟩ := I.tup1 h1
    obtain ⟨vs, rv, pv, hv⟩ := I.tup1 h2
    obtain ⟨u, eu, rxu⟩ := ru.get hx
    obtain ⟨v, ev, ryv⟩ := rv.get hy
    refine zp_next D S (show s.heap.IsTuple t1 us.toArray from pu) (show s.heap.IsTuple t2 vs.toArray from pv) (x := u) (y := v) (by simpa using eu) (by simpa using ev) fun g S2 pr hsz kk => ⟨_, rfl, ?_⟩
    have hch : ∀ b ∈ [z, to, i1, i2], FpOk X pins H b := fun b hb => hf b (by simp at hb ⊢; rcases hb with rfl | rfl | rfl | rfl <;> simp)
    have I1 : Inv X pins σ (upd H s.heap.objs.size (.tup [x, y])) { s with heap := g } := I.turnedN (t' := s.toks) (ch := [z, to, i1, i2]) (fun b o hb e => by simp at hb; exact kk b o hb.1 hb.2.1 hb.2.2.1 hb.2.2.2 e) hch (Nat.le_refl _)
      ⟨by show 2 ≤ sizeLine; decide, [u, v], .cons rxu (.cons ryv .nil), ⟨_, pr, rfl, _, rfl⟩⟩
    have lt : ∀ b ∈ [z, ti, to, i1, i2], b ≠ s.heap.objs.size := fun b hb => by
      obtain ⟨hz, hti, ⟨a, b', hto⟩, ⟨o1, e1, _⟩, ⟨o2, e2, _⟩⟩ := S
      simp only [List.mem_cons, List.not_mem_nil, or_false] at hb
      rcases hb with rfl | rfl | rfl | rfl | rfl
      · exact Nat.ne_of_lt (Heap.lt_size hz)
      · exact Nat.ne_of_lt (Heap.lt_size hti)
      · exact Nat.ne_of_lt (Heap.lt_size hto)
      · exact Nat.ne_of_lt (Heap.lt_size e1)
      · exact Nat.ne_of_lt (Heap.lt_size e2)
    refine wpAny_letOwnedTupleGo_zip S2.zip fun g2 hz2 sb => ?_
    have hp0 : H s.heap.objs.size = none := I.fresh
    obtain ⟨f0, f1, f2, f3, f4, f5⟩ := hf z (by simp)
    have I2 : Inv X pins σ (upd H s.heap.objs.size (.tup [x, y])) { s with heap := g2 } := I1.turned (t' := s.toks) (fun b o hb e => (sb.2 b hb).trans e) (by rw [upd_ne (lt z (by simp))]; exact f0) f1 f3 f4 f5
    obtain ⟨_, q2, ⟨a, b', q3⟩, q4, q5⟩ := S2
    refine ⟨.ref s.heap.objs.size, _, I2, rfl, ⟨_, x, y, rfl, hp0, rfl, fun xs' e => ?_, fun ys' e => ?_⟩, ⟨hz2, sb.extBut _ _ D.a1 q2, ⟨a, b', sb.extBut _ _ D.a2 q3⟩, q4.extBut sb.extBut D.a3, q5.extBut sb.extBut D.a4⟩, fun b hb => ?_⟩
    · rw [h1] at e; cases e; exact hx
    · rw [h2] at e; cases e; exact hy
    · rw [upd_ne (lt b hb)]; exact (hf b hb).1
  done := by
    intro X hP hw hK hc i pins s σ H E I hf S hg
    subst hP hw hK
    obtain ⟨xs, h1, hx⟩ := hg
    obtain ⟨us, ru, pu, hu⟩ := I.tup1 h1
    have hl := ru.length
    refine zp_done (I.ok.hd hc) D S (show s.heap.IsTuple t1 us.toArray from pu) (by simp; omega) fun g kk => ⟨rfl, ?_⟩
    exact I.turnedL (t' := s.toks) (ch := [z, i1]) (fun b o hb e => by simp at hb; exact kk b o hb.1 hb.2 e) fun b hb => hf b (by simp at hb ⊢; rcases hb with rfl | rfl <;> simp)
  self := fun _ _ _ _ _ S h => wpAny_pyIter_zip S.zip h
/-- for a, b in zip(t, u) -/
def iZip (K : PySem.W.Frag) (ta : TA) : TI := fun σ H R => ta σ H fun vs H1 => ∃ t1 t2 xs ys, vs = [.ref t1, .ref t2] ∧ H1 t1 = some (.tup xs) ∧ H1 t2 = some (.tup ys) ∧ R (Itz K t1 t2) H1
theorem pi_zip {X : Cx} {elts : List Expr} {k : Nat} {tpos : Pos} {a b : Expr} {ta : TA} {p pos : Pos} (hg : Gl X "zip") (hm : X.mg "zip" = none) (ha : PA X [a, b] ta) (hs : starEach [a, b] X.env = [(false, eval a X.env), (false, eval b X.env)] := by rfl) (hs2 : starEach [b] X.env = [(false, eval b X.env)] := by rfl) :
    PI X (.Tuple elts k tpos) (.Call (.Name "zip" p) [a, b] [] pos) (iZip X.K ta) := by
  intro pins s σ H R I h
  refine Call_ (ld_blt I hg hm boot_zip (PyProof.Rows.callWith_type1 (thn (ha pos pins s σ H _ I h) fun us s1 ⟨vs, H1, I1, r1, q1⟩ => ?_) (by rw [hs, hs2]) (by rw [hs2]; rfl)))
  obtain ⟨t1, t2, xs, ys, e, h1, h2, q⟩ := q1
  subst e
  obtain ⟨u1, u2, rfl, e1, e2⟩ := vals2 r1
  cases (show u1 = Value.ref t1 from e1)
  cases (show u2 = Value.ref t2 from e2)
  obtain ⟨us, ru, pu, _⟩ := I1.tup1 h1
  obtain ⟨vs, rv, pv, _⟩ := I1.tup1 h2
  refine zip_call (show s1.heap.IsTuple t1 us.toArray from pu) (show s1.heap.IsTuple t2 vs.toArray from pv) fun g S kk => ?_
  refine wpAny_pyIter_zip S.zip ?_
  have l1 := I1.hok.lt h1
  have l2 := I1.hok.lt h2
  have n1 : ∀ j, t1 ≠ s1.heap.objs.size + j := fun j => Nat.ne_of_lt (Nat.lt_of_lt_of_le l1 (Nat.le_add_right _ j))
  have n2 : ∀ j, t2 ≠ s1.heap.objs.size + j := fun j => Nat.ne_of_lt (Nat.lt_of_lt_of_le l2 (Nat.le_add_right _ j))
  have ne : ∀ (m i j : Nat), i ≠ j → m + i ≠ m + j := fun m i j h => by omega
  have D : Zp (s1.heap.objs.size + 4) (s1.heap.objs.size + 2) (s1.heap.objs.size + 3) s1.heap.objs.size (s1.heap.objs.size + 1) t1 t2 :=
    ⟨ne _ 2 4 (by decide), ne _ 3 4 (by decide), ne _ 0 4 (by decide), ne _ 1 4 (by decide), ne _ 2 3 (by decide), ne _ 2 0 (by decide), ne _ 2 1 (by decide), ne _ 3 0 (by decide), ne _ 3 1 (by decide), ne _ 0 1 (by decide), n1 4, n1 3, n1 0, n1 1, n2 4, n2 3, n2 0, n2 1⟩
  refine ⟨s1.heap.objs.size + 4, _, _, Itz X.K t1 t2, H1, rfl, I1.kept (t' := s1.toks) kk, turn_zip D, S, fun b hb => ?_, q⟩
  have up : ∀ j, FpOk X pins H1 (s1.heap.objs.size + j) := fun j => I1.fpOk (Nat.le_add_right _ j) (I1.hok.fresh (Nat.le_add_right _ j))
  simp only [List.mem_cons, List.not_mem_nil, or_false] at hb
  rcases hb with rfl | rfl | rfl | rfl | rfl
  · exact up 4
  · exact up 2
  · exact up 3
  · exact up 0
  · exact up 1
theorem for_zip {K : PySem.W.Frag} {t1 t2 : Addr} {xs ys : List V} {g : TG} {tb : TS} {D : Ends} {σ : L2.St} {H : Hp} (hlen : xs.length = ys.length) (Pv : Nat → L2.St → Hp → Prop) (h0 : Pv 0 σ H) (hl : ∀ i σ H, Pv i σ H → H t1 = some (.tup xs) ∧ H t2 = some (.tup ys))
    (hs : ∀ i x y p σ H, xs[i]? = some x → ys[i]? = some y → H p = none → Pv i σ H → g (.ref p) σ (upd H p (.tup [x, y])) fun σ2 H2 => tb { D with nx := Pv (i + 1), ct := Pv (i + 1), bk := D.nx } σ2 H2) (hd : ∀ σ H, Pv xs.length σ H → D.nx σ H) :
    ∃ W : Nat → Nat → L2.St → Hp → Prop, (∃ m, W 0 m σ H) ∧ ∀ i m σ H, W i m σ H →
      ((Itz K t1 t2).stop i H ∧ D.nx σ H) ∨ ((Itz K t1 t2).go i H ∧ ∃ N : L2.St → Hp → Prop, (∀ σ' H', N σ' H' → ∃ m', m' < m ∧ W (i + 1) m' σ' H') ∧ ∀ x H', (Itz K t1 t2).yld i H x H' → g x σ H' fun σ2 H2 => tb { D with nx := N, ct := N, bk := D.nx } σ2 H2) := by
  refine ⟨fun i m σ H => m = xs.length - i ∧ i ≤ xs.length ∧ Pv i σ H, ⟨xs.length, by simp, Nat.zero_le _, h0⟩, ?_⟩
  rintro i m σ H ⟨rfl, hi, p⟩
  obtain ⟨q1, q2⟩ := hl i σ H p
  by_cases hlt : i < xs.length
  · have hlt2 : i < ys.length := by omega
    refine .inr ⟨⟨xs, ys, xs[i], ys[i], q1, q2, by simp [hlt], by simp [hlt2]⟩, Pv (i + 1), fun σ' H' p' => ⟨xs.length - (i + 1), by omega, rfl, hlt, p'⟩, fun v H' y => ?_⟩
    obtain ⟨a, x, y, rfl, ha, rfl, e1, e2⟩ := y
    exact hs i x y a σ H (e1 xs q1) (e2 ys q2) ha p
  · have e : i = xs.length := by omega
    subst e
    exact .inl ⟨⟨xs, q1, Nat.le_refl _⟩, hd σ H p⟩
end Sh

end
section
set_option Elab.async false
set_option linter.all false
set_option maxRecDepth 100000
set_option maxHeartbeats 4000000
namespace Sh
open PySem PySem.Spec PyProof.Rows L2

/-! ### the head, where defs of the text make inner defs -/
def TabK (K : PySem.W.Frag) (x : Str) (c T : Addr) : Prop := ∃ f oc od osl fd occ odc vs slc, PySem.W.nsIn K mainGlobals x = some (some (.ref f)) ∧ K.lookup f = some ⟨oc, od, .func fd, osl⟩ ∧ fd.code = .ref c ∧ K.lookup c = some ⟨occ, odc, .fields vs, slc⟩ ∧ vs[11]? = some (.ref T)
theorem TabK.tabIn {K : PySem.W.Frag} {x : Str} {c T : Addr} (h : TabK K x c T) : PySem.W.tabIn K x = some (c, T) := by
  obtain ⟨f, oc, od, osl, fd, occ, odc, vs, slc, h1, h2, h3, h4, h5⟩ := h
  unfold PySem.W.tabIn
  simp only [h1, h2, h3, h4, h5]
theorem law_callT {P : Program} {w : World} {K : PySem.W.Frag} {mg mb : Str → Option Value} {k : Nat} {fa a : Addr} {fd : FuncData} {x : Str} {sp : Sp} {s₁ : Shared} {vs : List Value} {ns : List Int} {tabs : List (Addr × Addr)}
    (KX : K.In s₁.heap) (hns : s₁.heap.Ns mainGlobals mg) (hb : s₁.heap.Ns builtinsNs mb) (hbb : ∀ x : Str, x ≠ "__name__" → mb x = bootBuiltins x) (hlim : s₁.heap.NoLimit) (hg : s₁.gens = #[])
    (hbm : ∃ bm ob, mg "__builtins__" = some (.ref bm) ∧ bm ≠ builtinsNs ∧ s₁.heap.get? bm = some ob ∧ ob.cls = .type "module" ∧ ob.dict = some builtinsNs ∧ ob.data = .plain)
    (hT : ∀ q ∈ tabs, PySem.W.CodeHd s₁.heap q.1 q.2 ∧ s₁.heap.get? q.2 = some (PySem.W.tabObj #[])) (hKt : PySem.W.noTabs K = true)
    (ha : s₁.heap.get? a = some { cls := .type "list", data := .seq vs.toArray }) (hi : IntsAre vs ns) (hl : ns.length ≤ sizeLine) (hr : Room k callerA)
    (F : ∀ base : Heap, K.In base → base.Ns mainGlobals mg → (∀ q ∈ tabs, Tab base mg q.1 q.2) → FnOk P w K mg base CX0 k fa fd [x] sp) (hbind : ∀ (s : Shared) (u : Value), BindsTo s fd ⟨[u], []⟩ [(x, u)])
    (hsp : ∀ H : Hp, SqL K H a (ns.map V.int) → (∀ q ∈ tabs, H q.2 = some (.tbl #[])) → sp [.ref a] H (fun v _ => v = .bl true) fun _ _ _ => False) :
    codeAny (model P w) callerA (.call (.ref fa) ⟨[.ref a], []⟩) (fun r s' => r = .ok (.ret (.bool true)) ∧ OldK s₁.heap s'.heap ∧ s'.os = s₁.os ∧ AllBare s'.gens) s₁ := by
  have rv := vals_ints hi
  have lenV := hi.length
  have tget : ∀ b, b ∈ tabs.map (·.2) → s₁.heap.get? b = some (PySem.W.tabObj #[]) := fun b hb => by
    obtain ⟨q, hq, rfl⟩ := List.mem_map.mp hb
    exact (hT q hq).2
  have aT : a ∉ tabs.map (·.2) := fun hb => by
    have e := tget a hb
    rw [ha] at e; cases e
  have core : ∀ G : Hp, (∀ b, b ≠ a → G b = none) → (G a = none ∨ G a = some (.frz { cls := .type "list", data := .seq vs.toArray } (.lst (ns.map V.int))) ∧ K.lookup a = none) → (∀ H : Hp, (∀ b, b ∉ tabs.map (·.2) → H b = G b) → SqL K H a (ns.map V.int)) →
      codeAny (model P w) callerA (.call (.ref fa) ⟨[.ref a], []⟩) (fun r s' => r = .ok (.ret (.bool true)) ∧ OldK s₁.heap s'.heap ∧ s'.os = s₁.os ∧ AllBare s'.gens) s₁ := by
    intro G hG hGa hS
    generalize hH : (fun b => if b ∈ tabs.map (·.2) then some (HO.tbl #[]) else G b : Hp) = H
    have Hin : ∀ b, b ∈ tabs.map (·.2) → H b = some (.tbl #[]) := fun b hb => by rw [← hH]; exact if_pos hb
    have Hout : ∀ b, b ∉ tabs.map (·.2) → H b = G b := fun b hb => by rw [← hH]; exact if_neg hb
    have none_of : ∀ {b : Addr} {o : Obj}, s₁.heap.get? b = some o → b ≠ a → o ≠ PySem.W.tabObj #[] → H b = none := fun {b o} e h1 h2 => by
      rw [Hout b (fun hb => by rw [tget b hb] at e; exact h2 (Option.some.inj e).symm)]
      exact hG b h1
    have neA : ∀ {b : Addr} {o : Obj}, s₁.heap.get? b = some o → o.cls ≠ .type "list" → b ≠ a := fun e h1 z => by
      rw [z, ha] at e; cases e; exact h1 rfl
    have dictA : ∀ {b : Addr} {o : Obj} {es : Array DictEntry} {ep : Nat}, s₁.heap.get? b = some o → o.data = .dict es ep → H b = none := fun {b o es ep} e d => by
      refine none_of e (fun z => ?_) fun z => ?_
      · rw [z, ha] at e; cases e
        have d' : Data.seq vs.toArray _ = Data.dict es ep := d
        cases d'
      · rw [z] at d; cases d
    have hok : HOk P w H s₁.heap := fun b u e => by
      by_cases hb' : b ∈ tabs.map (·.2)
      · rw [Hin b hb'] at e; cases e
        exact tget b hb'
      · rw [Hout b hb'] at e
        by_cases hba : b = a
        · subst hba
          rcases hGa with z | ⟨z, _⟩
          · rw [z] at e; cases e
          · rw [z] at e; cases e
            exact ⟨ha, by rw [List.length_map]; exact hl, vs, _, rv, ha⟩
        · rw [hG b hba] at e; cases e
    have base_of : ∀ {b : Addr} {o : Obj}, s₁.heap.get? b = some o → H b = none → (hidT s₁.heap H).get? b = some o := fun e n => hidT_get e n
    have nsK : ∀ {b : Addr} {m : Str → Option Value}, s₁.heap.Ns b m → (hidT s₁.heap H).Ns b m := fun {b m} ⟨o, es, ep, e, d, r⟩ => ⟨o, es, ep, base_of e (dictA e d), d, r⟩
    have hKb : K.In (hidT s₁.heap H) := fun b o e => base_of (KX b o e) (by
      have e' := KX b o e
      by_cases hba : b = a
      · subst hba
        rw [Hout b aT]
        rcases hGa with z | ⟨_, z⟩
        · exact z
        · have e2 : K.lookup b = some o := e
          rw [z] at e2; cases e2
      · refine none_of e' hba fun z => ?_
        subst z
        have h2 := List.all_eq_true.mp hKt (b, _) (PySem.W.mem_of_lookupK e)
        exact absurd (show false = true from h2) Bool.false_ne_true)
    have hM : Mod K mg (hidT s₁.heap H) := ⟨hKb, nsK hns, ⟨mb, nsK hb, hbb⟩, let ⟨mc, h1, h2⟩ := hlim; ⟨mc, nsK h1, h2⟩⟩
    have e0 : Env0 P w K mg (hidT s₁.heap H) callerA [] s₁ H := ⟨rfl, hM, fun b o e => of_hidT e, Nat.le_of_eq (hidT_size _ _), trivial, fun b hb => absurd (show b ∈ ([] : List Addr) from hb) (by simp), hok, .of_eq hg⟩
    have hTab : ∀ q ∈ tabs, Tab (hidT s₁.heap H) mg q.1 q.2 := fun q hq => by
      obtain ⟨⟨o, vs', file, tf, flags, tg, inF, text, tt, e1, e2, r⟩, e3⟩ := hT q hq
      obtain ⟨bm, ob, b1, b2, b3, b4, b5, b6⟩ := hbm
      have gT : mainGlobals ≠ q.2 := fun z => by
        obtain ⟨o', es, ep, e', d', _⟩ := hns
        rw [z, e3] at e'; cases e'; cases d'
      have mT : bm ≠ q.2 := fun z => by rw [z, e3] at b3; cases b3; cases b4
      have mG : bm ≠ mainGlobals := fun z => by
        obtain ⟨o', es, ep, e', d', _⟩ := hns
        rw [z, e'] at b3; cases b3; rw [d'] at b6; cases b6
      exact ⟨⟨o, vs', file, tf, flags, tg, inF, text, tt, base_of e1 (none_of e1 (neA e1 (by rw [e2]; intro z; injection z with z; exact absurd z (by decide))) (fun z => by rw [z] at e2; cases e2)), e2, r⟩,
        ⟨bm, ob, b1, b2, mG, mT, base_of b3 (none_of b3 (neA b3 (by rw [b4]; intro z; injection z with z; exact absurd z (by decide))) (fun z => by rw [z] at b4; cases b4)), b4, b5, b6⟩, gT⟩
    refine codeAny_mono ((F _ hKb (nsK hns) hTab).run callerA [] s₁ H ⟨[.ref a], []⟩ [.ref a] [.ref a] _ _ hr e0 (hbind s₁ (.ref a)) (.cons rfl .nil) (hsp H (hS H Hout) fun q hq => Hin _ (List.mem_map_of_mem hq))) fun r s' h => ?_
    cases r with
    | error e => exact False.elim h
    | ok fl =>
      cases fl with
      | next => exact False.elim h
      | brk => exact False.elim h
      | cont => exact False.elim h
      | ret u =>
        obtain ⟨v, H', os, bare, un, hok', r', q⟩ := h
        have q' : v = .bl true := q
        subst q'
        obtain rfl : u = Value.bool true := r'
        have nof : ∀ b : Addr, b ∉ frs [] := fun b z => absurd (show b ∈ ([] : List Addr) from z) (by simp)
        have kp : ∀ b o, b ∉ tabs.map (·.2) → s₁.heap.get? b = some o → s'.heap.get? b = some o := fun b o hb' e => by
          cases q : H b with
          | none => exact un.keep b o e q (nof b) (by simp)
          | some u =>
            rw [Hout b hb'] at q
            by_cases hba : b = a
            · subst hba
              rcases hGa with z | ⟨z, _⟩
              · rw [z] at q; cases q
              · rw [z] at q; cases q
                have z2 := un.frzs b _ _ ((Hout b hb').trans z)
                obtain ⟨e1, _⟩ := hok' b _ z2
                rw [ha] at e; cases e
                exact e1
            · rw [hG b hba] at q; cases q
        have gr : ∀ q ∈ tabs, ∃ more, s'.heap.get? q.2 = some (PySem.W.tabObj (#[] ++ more)) := fun q hq => by
          obtain ⟨more, e⟩ := un.tbls q.2 #[] (Hin _ (List.mem_map_of_mem hq))
          exact ⟨more, hok' q.2 _ e⟩
        refine ⟨rfl, ⟨fun b o e => ?_, fun b o e => ?_⟩, os, bare⟩
        · by_cases hb' : b ∈ tabs.map (·.2)
          · obtain ⟨q, hq, rfl⟩ := List.mem_map.mp hb'
            obtain ⟨more, e2⟩ := gr q hq
            have e3 := (hT q hq).2
            rw [e] at e3; cases e3
            exact .inr (.inl ⟨((hT q hq).1.tab (hT q hq).2).isCodeTable, rfl, #[], more, rfl, e2⟩)
          · exact .inl (kp b o hb' e)
        · by_cases hb' : b ∈ tabs.map (·.2)
          · obtain ⟨q, hq, rfl⟩ := List.mem_map.mp hb'
            obtain ⟨more, e2⟩ := gr q hq
            exact ⟨_, e2⟩
          · exact ⟨o, kp b o hb' e⟩
  cases hk : K.lookup a with
  | some o =>
    have e := KX a o hk
    rw [ha] at e
    cases e
    exact core (fun _ => none) (fun _ _ => rfl) (.inl rfl) fun H _ => .inr ⟨_, vs.toArray, _, hk, rfl, rfl, rfl, by rw [List.size_toArray, lenV]; exact hl, by simpa using rv⟩
  | none =>
    exact core (fun b => if b = a then some (.frz { cls := .type "list", data := .seq vs.toArray } (.lst (ns.map V.int))) else none) (fun b hb' => if_neg hb') (.inr ⟨if_pos rfl, hk⟩) fun H hH => .inl (.inr ⟨{ cls := .type "list", data := .seq vs.toArray }, by rw [hH a aT]; exact if_pos rfl⟩)
theorem walk_T {l : PySem.W.OpenLaw} {k : Nat} {q : Program} {loose : List Str} {XP : (Str → Option Value) → Heap → Prop} {YP : World → Heap → Prop} {d : DefRec} {K : Params → PySem.W.Frag} {x : Str}
    (hn : l.most = some 63) (hdf : d.params.defaults = []) (hr : Room k callerA) (hY : ∀ (w : World) (h : Heap), YP w h → (K w.params).In h) (hKt : ∀ w : World, PySem.W.noTabs (K w.params) = true)
    (F : ∀ (w : World) (mg : Str → Option Value) (fa : Addr) (h : Heap), (K w.params).In h → h.Ns mainGlobals mg → mg d.name = some (.ref fa) →
      ∃ (fd : FuncData) (tabs : List (Addr × Addr)) (sp : Sp), (∀ (s : Shared) (u : Value), BindsTo s fd ⟨[u], []⟩ [(x, u)]) ∧ (∀ t ∈ tabs, ∃ y r, TabK (K w.params) y t.1 t.2 ∧ (recsOf q).find? (fun e => e.name == y) = some r) ∧
        (∀ base : Heap, (K w.params).In base → base.Ns mainGlobals mg → (∀ t ∈ tabs, Tab base mg t.1 t.2) → FnOk l.prog w (K w.params) mg base CX0 k fa fd [x] sp) ∧
        ∀ (H : Hp) (a : Addr) (ns : List Int), ns.length ≤ 63 → SqL (K w.params) H a (ns.map V.int) → (∀ t ∈ tabs, H t.2 = some (.tbl #[])) → sp [.ref a] H (fun v _ => v = .bl true) fun _ _ _ => False) :
    PySem.W.WalkO q loose XP YP l.row.toRowW d [] (fun f vs => PySem.call f vs) := by
  refine Att.attach_call hn hdf fun w s₀ s₁ mg mb fa o pm cd doc a vs ns G Y ho hd hcd hmg hobj hints hlen hg => ?_
  have KX := hY w _ Y
  obtain ⟨fd, tabs, sp, hb, hT, hF, hS⟩ := F w mg fa _ KX G.T.g hmg
  refine law_callT (tabs := tabs) KX G.T.g G.T.b G.T.builtins G.T.nolimit hg G.T.bmain (fun t ht => ?_) (hKt w) hobj hints (Nat.le_trans hlen (by decide)) hr hF hb fun H h1 h2 => hS H a ns hlen h1 h2
  obtain ⟨y, r, h1, h2⟩ := hT t ht
  exact PySem.W.tab_of G.T KX h2 h1.tabIn
end Sh

end
section
set_option Elab.async false
set_option linter.all false
set_option maxRecDepth 100000
set_option maxHeartbeats 4000000
namespace Sh
open PySem PySem.Spec PyProof.Rows L2

/-! ### a def whose code is known -/
def DefC (K : PySem.W.Frag) (mg : Str → Option Value) (x : Str) (st : Stmt) (ps : List Str) (c : Addr) : Prop :=
  ∃ f fd, Fun K x x st f fd ∧ Binds K fd ps [] ∧ mg x = some (.ref f) ∧ fd.code = .ref c
section
variable {P : Program} {w : World} {K : PySem.W.Frag} {mg : Str → Option Value} {base : Heap} {x : Str} {st : Stmt} {N ps : List Str} {k : Nat} {sp : Sp} {c : Addr}
theorem DefC.ok (D : DefC K mg x st ps c) (S : FnScope N ps (defScope st)) (len : ∀ vs H Q E, sp vs H Q E → vs.length = ps.length)
    (hbody : ∀ (f : Addr) (A : Around) (outer : List Env) (s : Shared) (H : Hp) (vs : List V) (Q : VK) (E : XK), Room k (A.deeper (envOfC x (defScope st) s.heap.objs.size f (.ref c))) → sp vs H Q E →
      ∃ t, PSs (cxOf CX0 P w K mg base N x (defScope st) f (.ref c) A outer s H E).nox (defBody st) t ∧ t { nx := fun _ H' => Q .non H', rt := Q } (start N vs) H) : Ok P w K mg base x ps (k + 1) sp := by
  obtain ⟨f, fd, F, b, m, hc⟩ := D
  refine ⟨f, fd, ?_, b, m, F.kp⟩
  obtain ⟨oc, od, kV, doc, pm, an, cdv, ct, osl, rfl, lk, hcd⟩ := F.ex
  have e : cdv = .ref c := hc
  subst e
  refine fn_of lk hcd S len fun A outer s H vs Q E hr hsp => ?_
  obtain ⟨t, h, q⟩ := hbody f A outer s H vs Q E hr hsp
  exact ⟨t, h.nox, q⟩
theorem DefC.def (D : DefC K mg x st ps c) : Def K mg x st ps := by
  obtain ⟨f, fd, F, b, m, _⟩ := D
  exact ⟨f, fd, F, b, m⟩
theorem Def.has (D : Def K mg x st ps) : ∃ f, mg x = some (.ref f) ∧ PySem.W.keepIn K (.ref f) = true := by
  obtain ⟨f, fd, F, b, m⟩ := D
  exact ⟨f, m, F.kp⟩
end
/-! ### parts of the text -/
def dumE : Expr := .Constant .none 0 ⟨0, 0, 0, 0⟩
def dumS : Scope := { kind := .function, names := [], isGenerator := false, isCoroutine := false }
def stE (st : Stmt) : Expr := match st with
  | .Return (some e) _ => e
  | .Assign _ e _ => e
  | .Expr e _ => e
  | .If e _ _ _ => e
  | _ => dumE
def stB (st : Stmt) (i : Nat) : Stmt := match st with
  | .FunctionDef _ _ b _ _ _ _ _ _ _ => b.getD i (.Pass ⟨0, 0, 0, 0⟩)
  | .If _ b _ _ => b.getD i (.Pass ⟨0, 0, 0, 0⟩)
  | .For _ _ b _ _ => b.getD i (.Pass ⟨0, 0, 0, 0⟩)
  | _ => .Pass ⟨0, 0, 0, 0⟩
def exA (e : Expr) (i : Nat) : Expr := match e with
  | .Call _ a _ _ => a.getD i dumE
  | .Tuple a _ _ => a.getD i dumE
  | .List a _ => a.getD i dumE
  | _ => dumE
def exL (e : Expr) : Expr := match e with
  | .BinOp a _ _ _ => a
  | _ => dumE
def exR (e : Expr) : Expr := match e with
  | .BinOp _ _ b _ => b
  | _ => dumE
def lcS (e : Expr) : Scope := match e with
  | .ListComp _ _ sc _ => sc
  | _ => dumS
def lamA (e : Expr) : Arguments := match e with
  | .Lambda a _ _ _ => a
  | _ => { posonlyargs := [], args := [], vararg := none, kwonlyargs := [], kw_defaults := [], kwarg := none, defaults := [] }
def lamB (e : Expr) : Expr := match e with
  | .Lambda _ b _ _ => b
  | _ => dumE
def lamS (e : Expr) : Scope := match e with
  | .Lambda _ _ sc _ => sc
  | _ => dumS
/-! ### one cell -/
theorem inj1 {x0 : Str} {c0 : Addr} (x y : Str) (c : Addr) (h1 : ([(x0, c0)] : List (Str × Addr)).lookup x = some c) (h2 : ([(x0, c0)] : List (Str × Addr)).lookup y = some c) : x = y := by
  have k : ∀ z, ([(x0, c0)] : List (Str × Addr)).lookup z = some c → z = x0 := fun z h => by
    rw [List.lookup_cons] at h
    by_cases e : z = x0
    · exact e
    · rw [beq_eq_false_iff_ne.mpr e] at h; cases h
  rw [k x h1, k y h2]
theorem caps1 {x0 : Str} {c0 : Addr} {cs : List (Addr × Obj)} {o : Obj} {u : Value} {v : V} (h1 : cs.lookup c0 = some o) (h2 : o.data = .cell (some u)) (r : RelV v u) (h3 : ∀ c o, cs.lookup c = some o → ∃ v, o.data = .cell v) : Caps [(x0, c0)] [x0] [v] cs := by
  refine ⟨fun i x w e1 e2 => ?_, fun x c h => ?_, h3⟩
  · cases i with
    | zero =>
      have e1' : x0 = x := Option.some.inj e1
      have e2' : v = w := Option.some.inj e2
      subst e1'; subst e2'
      exact ⟨c0, o, u, by rw [List.lookup_cons, beq_self_eq_true], h1, h2, r⟩
    | succ i => simp at e1
  · rw [List.lookup_cons] at h
    by_cases e : x = x0
    · rw [e, beq_self_eq_true] at h; cases h
      exact ⟨o, _, h1, h2⟩
    · rw [beq_eq_false_iff_ne.mpr e] at h; cases h
theorem tk_ups {H : Hp} {cs : List (Addr × Obj)} (hn : ∀ b o, cs.lookup b = some o → H b = none) : Tk H (ups H cs) := fun b xs e => by
  cases q : cs.lookup b with
  | some o => rw [hn b o q] at e; cases e
  | none => rw [ups_out q]; exact e
theorem tk_dels {H : Hp} {cs : List (Addr × Obj)} (hx : ∀ b o, cs.lookup b = some o → H b = some (.ext (Is b o))) : Tk H (dels H cs) := fun b xs e => by
  cases q : cs.lookup b with
  | some o => rw [hx b o q] at e; cases e
  | none => rw [dels_out q]; exact e
/-! ### words with their vars changed -/
def dw : Wd → Int → Int
  | .var _, d => d
  | .node t _ _, d => if t = .all then d + 1 else d
mutual
def chg (g : Int → Int → Wd) : Wd → Int → Wd
  | .var n, d => g n d
  | .node t nm ps, d => .node t nm (chgL g ps (if t = .all then d + 1 else d))
def chgL (g : Int → Int → Wd) : List Wd → Int → List Wd
  | [], _ => []
  | w :: ws, d => chg g w d :: chgL g ws d
end
theorem chgL_map {g : Int → Int → Wd} : ∀ (ws : List Wd) (d : Int), chgL g ws d = ws.map fun w => chg g w d
  | [], d => by rw [chgL]; rfl
  | w :: ws, d => by rw [chgL, chgL_map ws d]; rfl
theorem chg_node {g : Int → Int → Wd} {t : Tag} {nm : Str} {ps : List Wd} {d : Int} : chg g (.node t nm ps) d = .node t nm (ps.map fun w => chg g w (dw (.node t nm ps) d)) := by
  rw [chg, chgL_map]; rfl
mutual
theorem chg_const {h : Int → Wd} : ∀ (w : Wd) (d d' : Int), chg (fun k _ => h k) w d = chg (fun k _ => h k) w d'
  | .var n, d, d' => by rw [chg, chg]
  | .node t nm ps, d, d' => by rw [chg, chg, chgL_const ps _ _]
theorem chgL_const {h : Int → Wd} : ∀ (ws : List Wd) (d d' : Int), chgL (fun k _ => h k) ws d = chgL (fun k _ => h k) ws d'
  | [], d, d' => by rw [chgL, chgL]
  | w :: ws, d, d' => by rw [chgL, chgL, chg_const w d d', chgL_const ws d d']
end
/-! ### data: ints, texts, tuples -/
inductive Dt where
  | int (i : Int)
  | str (x : Str)
  | tup (ds : List Dt)
mutual
def Rd (H : Hp) : Dt → V → Prop
  | .int i, v => v = .int i
  | .str x, v => v = .str x
  | .tup ds, v => ∃ a vs, v = .ref a ∧ H a = some (.tup vs) ∧ Rds H ds vs
def Rds (H : Hp) : List Dt → List V → Prop
  | [], vs => vs = []
  | d :: ds, vs => ∃ v r, vs = v :: r ∧ Rd H d v ∧ Rds H ds r
end
mutual
def ddep : Dt → Nat
  | .int _ => 1
  | .str _ => 1
  | .tup ds => 1 + ddepL ds
def ddepL : List Dt → Nat
  | [] => 0
  | d :: ds => max (ddep d) (ddepL ds)
end
theorem ddep_pos : ∀ d : Dt, 1 ≤ ddep d
  | .int _ => by rw [ddep]; exact Nat.le_refl _
  | .str _ => by rw [ddep]; exact Nat.le_refl _
  | .tup ds => by rw [ddep]; omega
theorem ddepL_mem : ∀ {ds : List Dt} {d : Dt}, d ∈ ds → ddep d ≤ ddepL ds
  | [], d, h => by cases h
  | e :: r, d, h => by
    rw [ddepL]
    rcases List.mem_cons.mp h with rfl | h
    · omega
    · have := ddepL_mem h; omega
mutual
theorem Rd.mono {H H' : Hp} (k : Tk H H') : ∀ {d : Dt} {v : V}, Rd H d v → Rd H' d v
  | .int i, v, h => by rw [Rd] at h ⊢; exact h
  | .str x, v, h => by rw [Rd] at h ⊢; exact h
  | .tup ds, v, h => by
    rw [Rd] at h ⊢
    obtain ⟨a, vs, e, q, r⟩ := h
    exact ⟨a, vs, e, k _ _ q, Rds.mono k r⟩
theorem Rds.mono {H H' : Hp} (k : Tk H H') : ∀ {ds : List Dt} {vs : List V}, Rds H ds vs → Rds H' ds vs
  | [], vs, h => by rw [Rds] at h ⊢; exact h
  | d :: ds, vs, h => by
    rw [Rds] at h ⊢
    obtain ⟨v, r, e, q, z⟩ := h
    exact ⟨v, r, e, Rd.mono k q, Rds.mono k z⟩
end
theorem Rds.length {H : Hp} : ∀ {ds : List Dt} {vs : List V}, Rds H ds vs → vs.length = ds.length
  | [], vs, h => by rw [Rds] at h; rw [h]; rfl
  | d :: ds, vs, h => by
    rw [Rds] at h
    obtain ⟨v, r, rfl, _, z⟩ := h
    rw [List.length_cons, List.length_cons, Rds.length z]
theorem Rds.get {H : Hp} : ∀ {ds : List Dt} {vs : List V} {i : Nat} {v : V}, Rds H ds vs → vs[i]? = some v → ∃ d, ds[i]? = some d ∧ Rd H d v
  | [], vs, i, v, h, e => by rw [Rds] at h; subst h; cases e
  | d :: ds, vs, i, v, h, e => by
    rw [Rds] at h
    obtain ⟨u, r, rfl, q, z⟩ := h
    cases i with
    | zero =>
      have e' : u = v := Option.some.inj (by simpa using e)
      subst e'
      exact ⟨d, rfl, q⟩
    | succ i => exact Rds.get (i := i) z (by simpa using e)
mutual
def Wd.toD : Wd → Dt
  | .var n => .tup [.str "var", .int n]
  | .node t nm ps => if t.named then .tup [.str t.s, .str nm, .tup (toDL ps)] else .tup (.str t.s :: toDL ps)
def toDL : List Wd → List Dt
  | [] => []
  | w :: ws => w.toD :: toDL ws
end
mutual
theorem Rw.data {H : Hp} : ∀ {w : Wd} {v : V}, Rw H w v → Rd H w.toD v
  | .var n, v, h => by
    rw [Rw] at h
    obtain ⟨a, rfl, e⟩ := h
    rw [Wd.toD]
    simp only [Rd, Rds]
    exact ⟨a, _, rfl, e, _, _, rfl, rfl, _, _, rfl, rfl, rfl⟩
  | .node t nm ps, v, h => by
    rw [Rw] at h
    obtain ⟨a, vs, rfl, r, s⟩ := h
    have rd := Rws.data r
    rw [Wd.toD]
    cases s with
    | named b hn ha hb =>
      rw [if_pos hn]
      simp only [Rd, Rds]
      exact ⟨a, _, rfl, ha, _, _, rfl, rfl, _, _, rfl, rfl, _, _, rfl, ⟨b, vs, rfl, hb, rd⟩, rfl⟩
    | plain hn ha hm =>
      rw [if_neg (by rw [hn]; exact Bool.false_ne_true)]
      simp only [Rd, Rds]
      exact ⟨a, _, rfl, ha, _, _, rfl, rfl, rd⟩
theorem Rws.data {H : Hp} : ∀ {ws : List Wd} {vs : List V}, Rws H ws vs → Rds H (toDL ws) vs
  | [], vs, h => by rw [Rws] at h; rw [toDL, Rds]; exact h
  | w :: ws, vs, h => by
    rw [Rws] at h
    obtain ⟨v, r, e, q, z⟩ := h
    rw [toDL, Rds]
    exact ⟨v, r, e, Rw.data q, Rws.data z⟩
end
mutual
theorem ddep_toD : ∀ w : Wd, ddep w.toD ≤ 2 * dep w
  | .var n => by rw [Wd.toD, dep]; simp only [ddep, ddepL]; omega
  | .node t nm ps => by
    have := ddep_toDL ps
    rw [Wd.toD, dep]
    split
    · simp only [ddep, ddepL]; omega
    · simp only [ddep, ddepL]; omega
theorem ddep_toDL : ∀ ws : List Wd, ddepL (toDL ws) ≤ 2 * depL ws
  | [] => by rw [toDL, ddepL]; omega
  | w :: ws => by
    have h1 := ddep_toD w
    have h2 := ddep_toDL ws
    rw [toDL, ddepL, depL]; omega
end
theorem kit_tup_tup {K : PySem.W.Frag} : PySem.W.kitOne K (.type "tuple") (.type "tuple") = some true := by with_unfolding_all rfl
theorem kit_int_tup {K : PySem.W.Frag} : PySem.W.kitOne K (.type "int") (.type "tuple") = some false := by with_unfolding_all rfl
theorem kit_str_tup {K : PySem.W.Frag} : PySem.W.kitOne K (.type "str") (.type "tuple") = some false := by with_unfolding_all rfl
theorem kit_str_str {K : PySem.W.Frag} : PySem.W.kitOne K (.type "str") (.type "str") = some true := by with_unfolding_all rfl
theorem kit_int_str {K : PySem.W.Frag} : PySem.W.kitOne K (.type "int") (.type "str") = some false := by with_unfolding_all rfl
theorem kit_bool_bool {K : PySem.W.Frag} : PySem.W.kitOne K (.type "bool") (.type "bool") = some true := by with_unfolding_all rfl
theorem tag_all_var : decide (V.str "var" = V.str "all") = false := by decide +kernel
theorem var_fun : decide (V.str "var" = V.str "fun") = false := by decide +kernel
theorem var_rel : decide (V.str "var" = V.str "rel") = false := by decide +kernel
theorem var_no : decide (V.str "var" = V.str "no") = false := by decide +kernel
theorem Rw.head {H : Hp} {t : Tag} {nm : Str} {ps : List Wd} {v : V} (h : Rw H (.node t nm ps) v) : ∃ a ys, v = .ref a ∧ H a = some (.tup (.str t.s :: ys)) := by
  rw [Rw] at h
  obtain ⟨a, vs, rfl, _, s⟩ := h
  cases s with
  | named b hn ha hb => exact ⟨a, _, rfl, ha⟩
  | plain hn ha hm => exact ⟨a, _, rfl, ha⟩
theorem Rw.named {H : Hp} {t : Tag} {nm : Str} {ps : List Wd} {v : V} (h : Rw H (.node t nm ps) v) (hn : t.named = true) : ∃ a b xs, v = .ref a ∧ H a = some (.tup [.str t.s, .str nm, .ref b]) ∧ H b = some (.tup xs) ∧ Rws H ps xs := by
  rw [Rw] at h
  obtain ⟨a, vs, rfl, r, s⟩ := h
  cases s with
  | named b _ ha hb => exact ⟨a, b, vs, rfl, ha, hb, r⟩
  | plain hn' ha hm => rw [hn] at hn'; cases hn'
theorem Rw.plain {H : Hp} {t : Tag} {nm : Str} {ps : List Wd} {v : V} (h : Rw H (.node t nm ps) v) (hn : t.named = false) : ∃ a xs, v = .ref a ∧ H a = some (.tup (.str t.s :: xs)) ∧ Rws H ps xs ∧ nm = "" := by
  rw [Rw] at h
  obtain ⟨a, vs, rfl, r, s⟩ := h
  cases s with
  | named b hn' ha hb => rw [hn] at hn'; cases hn'
  | plain _ ha hm => exact ⟨a, vs, rfl, ha, r, hm⟩
theorem named_or {t : Tag} : decide (t = .fn) = true ∨ decide (t = .rel) = true ↔ t.named = true := by cases t <;> decide
end Sh
namespace Sh
open PySem PySem.Spec PyProof.Rows L2
theorem knotsL_mem : ∀ {ws : List Wd} {w : Wd}, w ∈ ws → knots w ≤ knotsL ws
  | [], w, h => by cases h
  | u :: r, w, h => by
    rw [knotsL]
    rcases List.mem_cons.mp h with rfl | h
    · omega
    · have := knotsL_mem h; omega
theorem lcN {N : List Str} {ix : List Nat} {fr : List Str} (h : ∀ p ∈ ix.zip fr, N[p.1]? = some p.2) : ∀ (j : Nat) (i : Nat) (y : Str), ix[j]? = some i → fr[j]? = some y → N[i]? = some y := fun j i y h1 h2 =>
  h (i, y) (List.mem_of_getElem? (i := j) (by rw [List.getElem?_zip_eq_some]; exact ⟨h1, h2⟩))
end Sh

end
section
set_option Elab.async false
set_option linter.all false
set_option maxRecDepth 100000
set_option maxHeartbeats 4000000
namespace Sh
open PySem PySem.Spec PyProof.Rows L2
variable [Inn]

/-! ### promises that several defs share -/
/-- a word of the same head with other parts -/
def spWith : Sp := fun vs H Q _ => ∃ v l t nm ps qs xs, vs = [v, .ref l] ∧ Rw H (.node t nm ps) v ∧ H l = some (.lst xs) ∧ Rws H qs xs ∧ xs.length ≤ 1000 ∧ ∀ r H', Same H H' → Rw H' (.node t nm qs) r → Q r H'
/-- two data that are alike -/
def spLike (n : Nat) : Sp := fun vs H Q _ => ∃ v u d, vs = [v, u] ∧ Rd H d v ∧ Rd H d u ∧ ddep d ≤ n ∧ ∀ H', Same H H' → Q (.bl true) H'
theorem Rw.like {H : Hp} {w : Wd} {v u : V} {n : Nat} (h1 : Rw H w v) (h2 : Rw H w u) (hd : 2 * dep w ≤ n) : ∃ d, Rd H d v ∧ Rd H d u ∧ ddep d ≤ n :=
  ⟨w.toD, h1.data, h2.data, Nat.le_trans (ddep_toD w) hd⟩
theorem fnrel {t : Tag} (hn : t.named = true) (h : t ≠ .fn) : t = .rel := by cases t <;> first | rfl | exact absurd rfl h | cases hn
theorem nfn {t : Tag} (hn : t.named = false) : t ≠ .fn := fun e => by rw [e] at hn; cases hn
theorem nrel {t : Tag} (hn : t.named = false) : t ≠ .rel := fun e => by rw [e] at hn; cases hn
/-- a comprehension over a tuple that its block leaves as it is -/
theorem lc_tup2 {K : PySem.W.Frag} {a : Addr} {xs : List V} {te : V → Hp → VK → Prop} {H : Hp} {R : Addr → Hp → Prop} (Pv : Nat → Addr → Hp → Prop) (h0 : ∀ D, H D = none → Pv 0 D (upd H D (.lst []))) (hl : ∀ i D H, i ≤ xs.length → Pv i D H → SqT K H a xs)
    (hs : ∀ i D x H, xs[i]? = some x → Pv i D H → te x H fun y H2 => rAppend (.ref D) [y] H2 fun _ H3 => Pv (i + 1) D H3) (hd : ∀ D H, Pv xs.length D H → R D H) :
    ∀ D, H D = none → ∃ W : Nat → Nat → Hp → Prop, (∃ m, W 0 m (upd H D (.lst []))) ∧ ∀ i m H, W i m H →
      ((Itt K a).stop i H ∧ R D H) ∨ ((Itt K a).go i H ∧ ∃ N : Hp → Prop, (∀ H', N H' → ∃ m', m' < m ∧ W (i + 1) m' H') ∧ ∀ x H', (Itt K a).yld i H x H' → te x H' fun y H2 => rAppend (.ref D) [y] H2 fun _ H3 => N H3) := by
  intro D hD
  refine ⟨fun i m H => i + m = xs.length ∧ Pv i D H, ⟨xs.length, by omega, h0 D hD⟩, fun i m H ⟨hm, hP⟩ => ?_⟩
  have hq := hl i D H (by omega) hP
  cases e : xs[i]? with
  | none =>
    have hi : xs.length ≤ i := by rw [List.getElem?_eq_none_iff] at e; exact e
    have hi2 : i = xs.length := by omega
    subst hi2
    exact .inl ⟨⟨xs, hq, Nat.le_refl _⟩, hd D H hP⟩
  | some x =>
    have hi : i < xs.length := (List.getElem?_eq_some_iff.mp e).1
    refine .inr ⟨⟨xs, x, hq, e⟩, Pv (i + 1) D, fun H' hP' => ⟨m - 1, by omega, by omega, hP'⟩, fun y H' ⟨e1, e2⟩ => ?_⟩
    subst e1
    have e3 := e2 xs hq
    rw [e] at e3; cases e3
    exact hs i D x H' e hP
/-- over a list that its block leaves as it is -/
theorem lc_list2 {K : PySem.W.Frag} {a : Addr} {xs : List V} {te : V → Hp → VK → Prop} {H : Hp} {R : Addr → Hp → Prop} (Pv : Nat → Addr → Hp → Prop) (h0 : ∀ D, H D = none → Pv 0 D (upd H D (.lst []))) (hl : ∀ i D H, i ≤ xs.length → Pv i D H → SqL K H a xs)
    (hs : ∀ i D x H, xs[i]? = some x → Pv i D H → te x H fun y H2 => rAppend (.ref D) [y] H2 fun _ H3 => Pv (i + 1) D H3) (hd : ∀ D H, Pv xs.length D H → R D H) :
    ∀ D, H D = none → ∃ W : Nat → Nat → Hp → Prop, (∃ m, W 0 m (upd H D (.lst []))) ∧ ∀ i m H, W i m H →
      ((Itl K a).stop i H ∧ R D H) ∨ ((Itl K a).go i H ∧ ∃ N : Hp → Prop, (∀ H', N H' → ∃ m', m' < m ∧ W (i + 1) m' H') ∧ ∀ x H', (Itl K a).yld i H x H' → te x H' fun y H2 => rAppend (.ref D) [y] H2 fun _ H3 => N H3) := by
  intro D hD
  refine ⟨fun i m H => i + m = xs.length ∧ Pv i D H, ⟨xs.length, by omega, h0 D hD⟩, fun i m H ⟨hm, hP⟩ => ?_⟩
  have hq := hl i D H (by omega) hP
  cases e : xs[i]? with
  | none =>
    have hi : xs.length ≤ i := by rw [List.getElem?_eq_none_iff] at e; exact e
    have hi2 : i = xs.length := by omega
    subst hi2
    exact .inl ⟨⟨xs, hq, Nat.le_refl _⟩, hd D H hP⟩
  | some x =>
    have hi : i < xs.length := (List.getElem?_eq_some_iff.mp e).1
    refine .inr ⟨⟨xs, x, hq, e⟩, Pv (i + 1) D, fun H' hP' => ⟨m - 1, by omega, by omega, hP'⟩, fun y H' ⟨e1, e2⟩ => ?_⟩
    subst e1
    have e3 := e2 xs hq
    rw [e] at e3; cases e3
    exact hs i D x H' e hP
/-- over range(lo, lo + n) -/
theorem lc_range2 {lo : Int} {n : Nat} {te : V → Hp → VK → Prop} {H : Hp} {R : Addr → Hp → Prop} (Pv : Nat → Addr → Hp → Prop) (h0 : ∀ D, H D = none → Pv 0 D (upd H D (.lst [])))
    (hs : ∀ i D H, i < n → Pv i D H → te (.int (lo + i)) H fun y H2 => rAppend (.ref D) [y] H2 fun _ H3 => Pv (i + 1) D H3) (hd : ∀ D H, Pv n D H → R D H) :
    ∀ D, H D = none → ∃ W : Nat → Nat → Hp → Prop, (∃ m, W 0 m (upd H D (.lst []))) ∧ ∀ i m H, W i m H →
      ((Itr lo n).stop i H ∧ R D H) ∨ ((Itr lo n).go i H ∧ ∃ N : Hp → Prop, (∀ H', N H' → ∃ m', m' < m ∧ W (i + 1) m' H') ∧ ∀ x H', (Itr lo n).yld i H x H' → te x H' fun y H2 => rAppend (.ref D) [y] H2 fun _ H3 => N H3) := by
  intro D hD
  refine ⟨fun i m H => i + m = n ∧ Pv i D H, ⟨n, by omega, h0 D hD⟩, fun i m H ⟨hm, hP⟩ => ?_⟩
  by_cases hi : i < n
  · refine .inr ⟨hi, Pv (i + 1) D, fun H' hP' => ⟨m - 1, by omega, by omega, hP'⟩, fun y H' ⟨e1, e2⟩ => ?_⟩
    subst e1; subst e2
    exact hs i D H' hi hP
  · have hi2 : i = n := by omega
    subst hi2
    exact .inl ⟨Nat.le_refl _, hd D H hP⟩
/-- a list that a comprehension over a word's parts makes: g of each part -/
def LcW (H1 : Hp) (ps : List Wd) (g : Wd → Wd) (i : Nat) (L : Addr) (H2 : Hp) : Prop := H1 L = none ∧ Same H1 H2 ∧ ∃ zs : List V, H2 L = some (.lst zs) ∧ zs.length = i ∧ Rws H2 ((ps.take i).map g) zs
theorem lcw_0 {H1 : Hp} {ps : List Wd} {g : Wd → Wd} (L : Addr) (hL : H1 L = none) : LcW H1 ps g 0 L (upd H1 L (.lst [])) := ⟨hL, same_new hL _, [], upd_same, rfl, by rw [List.take_zero]; exact .nil⟩
theorem lcw_s {H1 H2 H3 : Hp} {ps : List Wd} {g : Wd → Wd} {i : Nat} {L : Addr} {u : Wd} {r : V} (hP : LcW H1 ps g i L H2) (hu : ps[i]? = some u) (hk : ps.length ≤ 1000) (s3 : Same H2 H3) (hr : Rw H3 (g u) r) : rAppend (.ref L) [r] H3 fun _ H4 => LcW H1 ps g (i + 1) L H4 := by
  obtain ⟨hL, s2, zs, hz, hzl, hzs⟩ := hP
  have hz3 := s3.at hz
  refine ⟨L, zs, r, rfl, rfl, hz3, ?_, hL, same_own (s2.trans s3) hL hz3 _, zs ++ [r], upd_same, by rw [List.length_append, hzl]; rfl, ?_⟩
  · have := (List.getElem?_eq_some_iff.mp hu).1
    rw [sizeLine_eq]; omega
  · have k3 := tk_lst hz3 (.lst (zs ++ [r]))
    rw [List.take_succ, hu, List.map_append]
    exact ((hzs.mono (tk_of s3)).snoc hr).mono k3
theorem lcw_e {H1 H2 : Hp} {ps : List Wd} {g : Wd → Wd} {n : Nat} {L : Addr} (hP : LcW H1 ps g n L H2) (hn : n = ps.length) : Same H1 H2 ∧ ∃ zs : List V, H2 L = some (.lst zs) ∧ zs.length = ps.length ∧ Rws H2 (ps.map g) zs := by
  obtain ⟨hL, s2, zs, hz, hzl, hzs⟩ := hP
  subst hn
  rw [List.take_length] at hzs
  exact ⟨s2, zs, hz, hzl, hzs⟩
theorem node_len {t : Tag} {nm : Str} {ps : List Wd} {m : Nat} (hk : knots (.node t nm ps) ≤ m) : ps.length ≤ m := by
  have h1 := len_le_knotsL ps
  rw [knots] at hk
  omega
theorem node_mem {t : Tag} {nm : Str} {ps : List Wd} {u : Wd} {m n : Nat} (hu : u ∈ ps) (hd : dep (.node t nm ps) ≤ n + 1) (hk : knots (.node t nm ps) ≤ m) : dep u ≤ n ∧ knots u ≤ m := by
  have h1 := dep_parts (w := .node t nm ps) (p := u) hu
  have h2 : knots u ≤ knotsL ps := knotsL_mem hu
  rw [knots] at hk
  omega
end Sh
namespace Sh
open PySem PySem.Spec PyProof.Rows L2
/-! ### words that are changed only in their vars -/
mutual
theorem chg_dep {h : Int → Int → Int} : ∀ (w : Wd) (d : Int), dep (chg (fun k d => .var (h k d)) w d) = dep w
  | .var n, d => by rw [chg, dep, dep]
  | .node t nm ps, d => by rw [chg, dep, dep, chgL_dep ps _]
theorem chgL_dep {h : Int → Int → Int} : ∀ (ws : List Wd) (d : Int), depL (chgL (fun k d => .var (h k d)) ws d) = depL ws
  | [], d => by rw [chgL]
  | w :: ws, d => by rw [chgL, depL, depL, chg_dep w d, chgL_dep ws d]
end
mutual
theorem chg_id {g : Int → Int → Wd} (hg : ∀ k d, g k d = .var k) : ∀ (w : Wd) (d : Int), chg g w d = w
  | .var n, d => by rw [chg, hg]
  | .node t nm ps, d => by rw [chg, chgL_id hg ps _]
theorem chgL_id {g : Int → Int → Wd} (hg : ∀ k d, g k d = .var k) : ∀ (ws : List Wd) (d : Int), chgL g ws d = ws
  | [], d => by rw [chgL]
  | w :: ws, d => by rw [chgL, chg_id hg w d, chgL_id hg ws d]
end
/-! ### the head of a law -/
def tabAt (l : List (Addr × (Pos × Str))) (a : Addr) : Option (Pos × Str) := l.lookup a
variable [Inn]
def spLawT (K : PySem.W.Frag) (Ts : List Addr) : Sp := fun vs H Q _ => ∃ (a : Addr) (ns : List Int), vs = [.ref a] ∧ SqL K H a (ns.map V.int) ∧ ns.length ≤ 63 ∧ (∀ T ∈ Ts, TabI H T) ∧ ∀ H', Q (.bl true) H'
theorem tabI_0 {H : Hp} {T : Addr} {x : Pos × Str} (hi : Inn.at_ T = some x) (h : H T = some (.tbl #[])) : TabI H T := ⟨x.1, x.2, hi, #[], h, .inl rfl⟩
end Sh
namespace Sh
open PySem
theorem lk_hit {β : Type} {a : Addr} {b : β} {l : List (Addr × β)} : List.lookup a ((a, b) :: l) = some b := by rw [List.lookup_cons, beq_self_eq_true]
theorem lk_miss {β : Type} {a c : Addr} {b : β} {l : List (Addr × β)} (h : (a == c) = false) : List.lookup a ((c, b) :: l) = List.lookup a l := by rw [List.lookup_cons, h]
end Sh
namespace Sh
open PySem PySem.Spec PyProof.Rows L2
/-! ### free numbers -/
mutual
def frees : Wd → Int → List Int
  | .var n, d => if d ≤ n then [n - d] else []
  | .node t _ ps, d => freesL ps (if t = .all then d + 1 else d)
def freesL : List Wd → Int → List Int
  | [], _ => []
  | w :: ws, d => frees w d ++ freesL ws d
end
theorem frees_node {t : Tag} {nm : Str} {ps : List Wd} {d : Int} : frees (.node t nm ps) d = freesL ps (dw (.node t nm ps) d) := by rw [frees]; rfl
theorem freesL_append : ∀ (a b : List Wd) (d : Int), freesL (a ++ b) d = freesL a d ++ freesL b d
  | [], b, d => by rw [freesL]; rfl
  | w :: r, b, d => by rw [List.cons_append, freesL, freesL, freesL_append r b d, List.append_assoc]
theorem freesL_snoc (a : List Wd) (w : Wd) (d : Int) : freesL (a ++ [w]) d = freesL a d ++ frees w d := by
  rw [freesL_append, freesL, freesL, List.append_nil]
mutual
theorem frees_len : ∀ (w : Wd) (d : Int), (frees w d).length ≤ knots w
  | .var n, d => by
    rw [frees, knots]
    split
    · exact Nat.le_refl _
    · exact Nat.zero_le _
  | .node t nm ps, d => by
    have := freesL_len ps (if t = .all then d + 1 else d)
    rw [frees, knots]; omega
theorem freesL_len : ∀ (ws : List Wd) (d : Int), (freesL ws d).length ≤ knotsL ws
  | [], d => by rw [freesL, knotsL]; exact Nat.le_refl _
  | w :: ws, d => by
    have h1 := frees_len w d
    have h2 := freesL_len ws d
    rw [freesL, knotsL, List.length_append]; omega
end
theorem mem_cutV {xs : List V} {lo hi : Option Int} {x : V} (h : x ∈ cutV xs lo hi) : x ∈ xs := by
  unfold cutV at h
  exact List.mem_of_mem_drop (List.mem_of_mem_take h)
theorem len_cutV {xs : List V} {lo hi : Option Int} : (cutV xs lo hi).length ≤ xs.length := by
  unfold cutV
  rw [List.length_take, List.length_drop]
  omega
theorem flat_ints (xs : List Int) : (xs.map V.int).all flatV = true := by
  rw [List.all_eq_true]
  intro x hx
  obtain ⟨i, _, rfl⟩ := List.mem_map.mp hx
  rfl
/-- the depth within a word, as the laws reckon it -/
theorem dw_int (t : Tag) (nm : Str) (ps : List Wd) (d : Int) : d + (if decide (t = .all) = true then 1 else 0) = dw (.node t nm ps) d := by
  rw [dw]
  by_cases h : t = .all
  · rw [if_pos h, if_pos (decide_eq_true h)]
  · rw [if_neg h, if_neg (by rw [decide_eq_false h]; exact Bool.false_ne_true), Int.add_zero]
variable [Inn]
/-- a list of ints that is told -/
def spFrees (n : Nat) : Sp := fun vs H Q _ => ∃ v w d, vs = [v, .int d] ∧ Rw H w v ∧ Her noOk w ∧ dep w ≤ n ∧ knots w ≤ 1000 ∧ ∀ l H', Same H H' → H' l = some (.lst ((frees w d).map V.int)) → Q (.ref l) H'
def mvd (b : Int) (n d : Int) : Int := if d ≤ n then n + b else n
def spShift (n : Nat) : Sp := fun vs H Q _ => ∃ v w d b, vs = [v, .int d, .int b] ∧ Rw H w v ∧ Her noOk w ∧ dep w ≤ n ∧ knots w ≤ 1000 ∧ ∀ r H', Same H H' → Rw H' (chg (fun n d => .var (mvd b n d)) w d) r → Q r H'
theorem mvd_mul (b n d : Int) : n + b * (if decide (d ≤ n) = true then 1 else 0) = mvd b n d := by
  unfold mvd
  by_cases h : d ≤ n
  · rw [if_pos h, if_pos (decide_eq_true h), Int.mul_one]
  · rw [if_neg h, if_neg (by rw [decide_eq_false h]; exact Bool.false_ne_true), Int.mul_zero, Int.add_zero]
theorem b01 (b : Bool) : CMul x (if b = true then 1 else 0) := by
  refine .inr ?_
  cases b
  · exact ⟨by decide, by decide⟩
  · exact ⟨by decide, by decide⟩
end Sh
namespace Sh
open PySem PySem.Spec PyProof.Rows L2
/-! ### a statement whose ways join behind it -/
def tCut (t u : TS) : TS := fun D σ H => ∃ J : L2.St → Hp → Prop, t { D with nx := J } σ H ∧ ∀ σ' H', J σ' H' → u D σ' H'
theorem pss_cut {X : Cx} {st : Stmt} {rest : List Stmt} {t u : TS} (h1 : PS X st t) (h2 : PSs X rest u) : PSs X (st :: rest) (tCut t u) := by
  intro pins s σ H D I ⟨J, h, k⟩
  refine wpAny_execs_cons (thn (h1 pins s σ H { D with nx := J } I h) fun f s1 q => ?_)
  cases f with
  | next =>
    obtain ⟨σ', H', I', q⟩ := q
    exact h2 pins s1 σ' H' D I' (k σ' H' q)
  | ret v => exact q
  | brk => exact q
  | cont => exact q
/-- an expression whose ways join behind it -/
def tCutE (t : TE) : TE := fun σ H Q => ∃ R : VK, t σ H R ∧ ∀ v H', R v H' → Q v H'
theorem pe_cut {X : Cx} {e : Expr} {t : TE} (h : PE X e t) : PE X e (tCutE t) := by
  intro pins s σ H Q I ⟨R, h1, k⟩
  refine thn (h pins s σ H R I h1) fun u s1 ⟨v, H', I', r, q⟩ => ⟨v, H', I', r, k v H' q⟩
end Sh
namespace Sh
open PySem PySem.Spec PyProof.Rows L2
/-! ### a term put into a form -/
def gput (tw : Wd) (n d : Int) : Wd := if n = d then chg (fun k _ => .var (k + d)) tw 0 else .var (if d < n then n - 1 else n)
mutual
theorem chg_dep_le {g : Int → Int → Wd} {m : Nat} (hg : ∀ n d, dep (g n d) ≤ m + 1) : ∀ (w : Wd) (d : Int), dep (chg g w d) ≤ dep w + m
  | .var n, d => by
    have := hg n d
    rw [chg, dep]; omega
  | .node t nm ps, d => by
    have := chgL_dep_le hg ps (if t = .all then d + 1 else d)
    rw [chg, dep, dep]; omega
theorem chgL_dep_le {g : Int → Int → Wd} {m : Nat} (hg : ∀ n d, dep (g n d) ≤ m + 1) : ∀ (ws : List Wd) (d : Int), depL (chgL g ws d) ≤ depL ws + m
  | [], d => by rw [chgL, depL]; omega
  | w :: ws, d => by
    have h1 := chg_dep_le hg w d
    have h2 := chgL_dep_le hg ws d
    rw [chgL, depL, depL]; omega
end
theorem gput_dep {tw : Wd} {m : Nat} (h : dep tw ≤ m + 1) (n d : Int) : dep (gput tw n d) ≤ m + 1 := by
  unfold gput
  split
  · rw [chg_dep (h := fun k _ => k + d)]; exact h
  · rw [dep]; omega
theorem term_shift (b : Int) : ∀ {m : Nat} {w : Wd}, IsTerm m w → chg (fun n d => .var (mvd b n d)) w 0 = chg (fun k _ => .var (k + b)) w 0
  | m, .var n, h => by
    have h' : 0 ≤ n := by cases m <;> (simp only [IsTerm] at h; exact h.1)
    rw [chg, chg, mvd, if_pos h']
  | 0, .node t nm ps, h => by simp only [IsTerm] at h
  | m + 1, .node t nm ps, h => by
    simp only [IsTerm] at h
    obtain ⟨rfl, _, _, hp⟩ := h
    rw [chg_node, chg_node]
    congr 1
    refine List.map_congr_left fun u hu => ?_
    show chg _ u 0 = chg _ u 0
    exact term_shift b (hp u hu)
variable [Inn]
theorem tabI_dels {H : Hp} {cs : List (Addr × Obj)} {T : Addr} (nc : NC H cs) (hx : ∀ b o, cs.lookup b = some o → H b = some (.ext (Is b o))) (h : TabI H T) : TabI (dels H cs) T := by
  obtain ⟨pos, q, hi, ps, e, r⟩ := h
  have hT : cs.lookup T = none := by
    cases q2 : cs.lookup T with
    | none => rfl
    | some o => rw [hx T o q2] at e; cases e
  refine ⟨pos, q, hi, ps, by rw [dels_out hT]; exact e, ?_⟩
  rcases r with r | ⟨c, r, co, vs, t, e1, e2, e3⟩
  · exact .inl r
  · exact .inr ⟨c, r, co, vs, t, by rw [dels_out (nc c co vs e1 e2)]; exact e1, e2, e3⟩
end Sh

end
section
set_option Elab.async false
set_option linter.all false
set_option maxRecDepth 100000
set_option maxHeartbeats 4000000
namespace Sh
open PySem PySem.Spec PyProof.Rows L2
/-! ### worlds that a number makes: what a term means, whether a form is true -/
def nxt (s : Int) : Int := (s * 48271 + 12345) % 2147483647
def mixN (sd : Int) (cs : List Nat) : Int := cs.foldl (fun s c => nxt (s + (c : Nat))) sd
def mixR (sd : Int) (row : List Int) : Int := row.foldl (fun s t => nxt (s + 31 + t)) sd
def mixF (sd : Int) (nm : Str) (row : List Int) : Int := mixR (mixN sd nm.cps.toList) row / 8
mutual
def val (sz sd : Int) (th : List Int) : Wd → Int
  | .var n => th.getD n.toNat 0
  | .node _ nm ps => mixF sd nm (valL sz sd th ps) % sz
def valL (sz sd : Int) (th : List Int) : List Wd → List Int
  | [] => []
  | w :: ws => val sz sd th w :: valL sz sd th ws
end
theorem valL_map {sz sd : Int} {th : List Int} : ∀ ws : List Wd, valL sz sd th ws = ws.map (val sz sd th)
  | [] => by rw [valL]; rfl
  | w :: ws => by rw [valL, valL_map ws]; rfl
mutual
def tru (sz sd : Int) : Wd → List Int → Bool
  | .var _, _ => false
  | .node t nm ps, th => match t with
    | .no => false
    | .fn => false
    | .rel => decide (mixF (sd + 1) nm (valL sz sd th ps) % 2 = 1)
    | .same => match valL sz sd th ps with
      | [x, y] => decide (x = y)
      | _ => false
    | .cond => !truH sz sd ps th || truT sz sd ps th
    | .all => (List.range sz.toNat).all fun i => truH sz sd ps ((i : Int) :: th)
def truH (sz sd : Int) : List Wd → List Int → Bool
  | [], _ => false
  | w :: _, th => tru sz sd w th
def truT (sz sd : Int) : List Wd → List Int → Bool
  | [], _ => false
  | _ :: ws, th => truH sz sd ws th
end
/-! ### terms and forms as the worlds take them -/
mutual
def TmW : Wd → Prop
  | .var n => 0 ≤ n
  | .node t _ ps => t = .fn ∧ ps.length ≤ 3 ∧ TmWL ps
def TmWL : List Wd → Prop
  | [] => True
  | w :: ws => TmW w ∧ TmWL ws
end
mutual
def FmW : Wd → Prop
  | .var _ => False
  | .node t _ ps => match t with
    | .no => ps = []
    | .fn => False
    | .rel => ps.length ≤ 3 ∧ TmWL ps
    | .same => ps.length = 2 ∧ TmWL ps
    | .cond => ps.length = 2 ∧ FmWL ps
    | .all => ps.length = 1 ∧ FmWL ps
def FmWL : List Wd → Prop
  | [] => True
  | w :: ws => FmW w ∧ FmWL ws
end
theorem TmWL.mem : ∀ {ws : List Wd} {w : Wd}, TmWL ws → w ∈ ws → TmW w
  | [], w, _, h => by cases h
  | u :: r, w, h, m => by
    rw [TmWL] at h
    rcases List.mem_cons.mp m with rfl | m
    · exact h.1
    · exact TmWL.mem h.2 m
theorem TmWL.of : ∀ {ws : List Wd}, (∀ w ∈ ws, TmW w) → TmWL ws
  | [], _ => by rw [TmWL]; exact True.intro
  | w :: r, h => by rw [TmWL]; exact ⟨h w (List.mem_cons_self ..), TmWL.of fun u hu => h u (List.mem_cons_of_mem _ hu)⟩
theorem TmW.of : ∀ {m : Nat} {w : Wd}, IsTerm m w → TmW w
  | m, .var n, h => by
    rw [TmW]
    cases m <;> (simp only [IsTerm] at h; exact h.1)
  | 0, .node t nm ps, h => by simp only [IsTerm] at h
  | m + 1, .node t nm ps, h => by
    simp only [IsTerm] at h
    rw [TmW]
    exact ⟨h.1, h.2.2.1, TmWL.of fun p hp => TmW.of (h.2.2.2 p hp)⟩
theorem FmW.of : ∀ {m : Nat} {w : Wd}, IsForm m w → FmW w
  | m, .var n, h => by simp only [IsForm] at h
  | m, .node t nm ps, h => by
    cases t with
    | fn => simp only [IsForm] at h
    | no => simp only [IsForm] at h; simp only [FmW]; exact h.2
    | same =>
      simp only [IsForm] at h
      obtain ⟨_, a, b, rfl, ha, hb⟩ := h
      simp only [FmW, TmWL]
      exact ⟨rfl, TmW.of ha, TmW.of hb, True.intro⟩
    | rel =>
      simp only [IsForm] at h
      simp only [FmW]
      exact ⟨h.2.1, TmWL.of fun p hp => TmW.of (h.2.2 p hp)⟩
    | cond =>
      cases m with
      | zero => simp only [IsForm] at h
      | succ m =>
        simp only [IsForm] at h
        obtain ⟨h0, a, b, rfl, ha, hb⟩ := h
        simp only [FmW, FmWL]
        exact ⟨rfl, FmW.of ha, FmW.of hb, True.intro⟩
    | all =>
      cases m with
      | zero => simp only [IsForm] at h
      | succ m =>
        simp only [IsForm] at h
        obtain ⟨h0, a, rfl, ha⟩ := h
        simp only [FmW, FmWL]
        exact ⟨rfl, FmW.of ha, True.intro⟩
theorem FmW.all {w : Wd} (h : FmW w) : FmW (.node .all "" [w]) := by
  simp only [FmW, FmWL]; exact ⟨rfl, h, True.intro⟩
/-! ### putting keeps what is meant -/
theorem getD_app_r {pre th : List Int} {n : Nat} (h : pre.length ≤ n) : (pre ++ th).getD n 0 = th.getD (n - pre.length) 0 := by
  rw [List.getD_eq_getElem?_getD, List.getD_eq_getElem?_getD, List.getElem?_append_right h]
theorem getD_app_l {pre th : List Int} {n : Nat} (h : n < pre.length) : (pre ++ th).getD n 0 = pre.getD n 0 := by
  rw [List.getD_eq_getElem?_getD, List.getD_eq_getElem?_getD, List.getElem?_append_left h]
mutual
theorem val_raise {sz sd : Int} {pre th : List Int} : ∀ (tw : Wd) (c : Int), TmW tw → val sz sd (pre ++ th) (chg (fun k _ => .var (k + (pre.length : Nat))) tw c) = val sz sd th tw
  | .var n, c, h => by
    rw [TmW] at h
    rw [chg, val, val, getD_app_r (by omega)]
    congr 1; omega
  | .node t nm ps, c, h => by
    rw [TmW] at h
    rw [chg, val, val, valL_raise ps _ h.2.2]
theorem valL_raise {sz sd : Int} {pre th : List Int} : ∀ (ws : List Wd) (c : Int), TmWL ws → valL sz sd (pre ++ th) (chgL (fun k _ => .var (k + (pre.length : Nat))) ws c) = valL sz sd th ws
  | [], c, h => by rw [chgL, valL, valL]
  | w :: ws, c, h => by
    rw [TmWL] at h
    rw [chgL, valL, valL, val_raise w c h.1, valL_raise ws c h.2]
end
mutual
theorem val_put {sz sd : Int} {pre th : List Int} {tw : Wd} (ht : TmW tw) : ∀ (w : Wd), TmW w → val sz sd (pre ++ th) (chg (gput tw) w (pre.length : Nat)) = val sz sd (pre ++ val sz sd th tw :: th) w
  | .var n, h => by
    rw [TmW] at h
    rw [chg, gput]
    by_cases e : n = (pre.length : Nat)
    · rw [if_pos e, val_raise tw 0 ht, val, getD_app_r (by omega)]
      have : n.toNat - pre.length = 0 := by omega
      rw [this]; rfl
    · rw [if_neg e, val, val]
      by_cases l : (pre.length : Nat) < n
      · rw [if_pos l, getD_app_r (by omega), getD_app_r (by omega)]
        obtain ⟨m, hm⟩ : ∃ m, n.toNat - pre.length = m + 1 := ⟨n.toNat - pre.length - 1, by omega⟩
        have e2 : (n - 1).toNat - pre.length = m := by omega
        rw [hm, e2]; rfl
      · rw [if_neg l, getD_app_l (by omega), getD_app_l (by omega)]
  | .node t nm ps, h => by
    rw [TmW] at h
    obtain ⟨rfl, _, h⟩ := h
    rw [chg, val, val, if_neg (by decide), valL_put ht ps h]
theorem valL_put {sz sd : Int} {pre th : List Int} {tw : Wd} (ht : TmW tw) : ∀ (ws : List Wd), TmWL ws → valL sz sd (pre ++ th) (chgL (gput tw) ws (pre.length : Nat)) = valL sz sd (pre ++ val sz sd th tw :: th) ws
  | [], h => by rw [chgL, valL, valL]
  | w :: ws, h => by
    rw [TmWL] at h
    rw [chgL, valL, valL, val_put ht w h.1, valL_put ht ws h.2]
end
mutual
theorem tru_put {sz sd : Int} {th : List Int} {tw : Wd} (ht : TmW tw) : ∀ (w : Wd) (pre : List Int), FmW w → tru sz sd (chg (gput tw) w (pre.length : Nat)) (pre ++ th) = tru sz sd w (pre ++ val sz sd th tw :: th)
  | .var n, pre, h => by simp only [FmW] at h
  | .node t nm ps, pre, h => by
    rw [chg]
    cases t with
    | fn => simp only [FmW] at h
    | no => simp only [tru]
    | rel =>
      simp only [FmW] at h
      rw [if_neg (by decide)]
      simp only [tru]
      rw [valL_put ht ps h.2]
    | same =>
      simp only [FmW] at h
      rw [if_neg (by decide)]
      simp only [tru]
      rw [valL_put ht ps h.2]
    | cond =>
      simp only [FmW] at h
      rw [if_neg (by decide)]
      simp only [tru]
      rw [truH_put ht ps pre h.2, truT_put ht ps pre h.2]
    | all =>
      simp only [FmW] at h
      rw [if_pos rfl]
      simp only [tru]
      congr 1
      funext i
      have := truH_put (sz := sz) (sd := sd) (th := th) ht ps ((i : Int) :: pre) h.2
      rw [List.length_cons] at this
      have e : ((pre.length : Nat) : Int) + 1 = ((pre.length + 1 : Nat) : Int) := by omega
      rw [e]
      exact this
theorem truH_put {sz sd : Int} {th : List Int} {tw : Wd} (ht : TmW tw) : ∀ (ws : List Wd) (pre : List Int), FmWL ws → truH sz sd (chgL (gput tw) ws (pre.length : Nat)) (pre ++ th) = truH sz sd ws (pre ++ val sz sd th tw :: th)
  | [], pre, h => by rw [chgL, truH, truH]
  | w :: ws, pre, h => by
    rw [FmWL] at h
    rw [chgL, truH, truH, tru_put ht w pre h.1]
theorem truT_put {sz sd : Int} {th : List Int} {tw : Wd} (ht : TmW tw) : ∀ (ws : List Wd) (pre : List Int), FmWL ws → truT sz sd (chgL (gput tw) ws (pre.length : Nat)) (pre ++ th) = truT sz sd ws (pre ++ val sz sd th tw :: th)
  | [], pre, h => by rw [chgL, truT, truT]
  | w :: ws, pre, h => by
    rw [FmWL] at h
    rw [chgL, truT, truT, truH_put ht ws pre h.2]
end
theorem chgL_len {g : Int → Int → Wd} (ws : List Wd) (d : Int) : (chgL g ws d).length = ws.length := by rw [chgL_map, List.length_map]
mutual
theorem TmW.raise {b : Int} (hb : 0 ≤ b) : ∀ (w : Wd) (d : Int), TmW w → TmW (chg (fun k _ => .var (k + b)) w d)
  | .var n, d, h => by rw [TmW] at h; rw [chg, TmW]; omega
  | .node t nm ps, d, h => by
    rw [TmW] at h
    rw [chg, TmW, chgL_len]
    exact ⟨h.1, h.2.1, TmWL.raise hb ps _ h.2.2⟩
theorem TmWL.raise {b : Int} (hb : 0 ≤ b) : ∀ (ws : List Wd) (d : Int), TmWL ws → TmWL (chgL (fun k _ => .var (k + b)) ws d)
  | [], d, h => by rw [chgL]; exact h
  | w :: ws, d, h => by
    rw [TmWL] at h
    rw [chgL, TmWL]
    exact ⟨TmW.raise hb w d h.1, TmWL.raise hb ws d h.2⟩
end
mutual
theorem TmW.put {tw : Wd} (ht : TmW tw) : ∀ (w : Wd) (d : Int), 0 ≤ d → TmW w → TmW (chg (gput tw) w d)
  | .var n, d, hd, h => by
    rw [TmW] at h
    rw [chg, gput]
    split
    · exact TmW.raise hd tw 0 ht
    · rw [TmW]; split <;> omega
  | .node t nm ps, d, hd, h => by
    rw [TmW] at h
    rw [chg, TmW, chgL_len]
    exact ⟨h.1, h.2.1, TmWL.put ht ps _ (by split <;> omega) h.2.2⟩
theorem TmWL.put {tw : Wd} (ht : TmW tw) : ∀ (ws : List Wd) (d : Int), 0 ≤ d → TmWL ws → TmWL (chgL (gput tw) ws d)
  | [], d, hd, h => by rw [chgL]; exact h
  | w :: ws, d, hd, h => by
    rw [TmWL] at h
    rw [chgL, TmWL]
    exact ⟨TmW.put ht w d hd h.1, TmWL.put ht ws d hd h.2⟩
end
mutual
theorem FmW.put {tw : Wd} (ht : TmW tw) : ∀ (w : Wd) (d : Int), 0 ≤ d → FmW w → FmW (chg (gput tw) w d)
  | .var n, d, hd, h => by simp only [FmW] at h
  | .node t nm ps, d, hd, h => by
    rw [chg]
    have hd' : 0 ≤ (if t = .all then d + 1 else d) := by split <;> omega
    cases t with
    | fn => simp only [FmW] at h
    | no => simp only [FmW] at h ⊢; rw [h, chgL]
    | rel => simp only [FmW] at h ⊢; rw [chgL_len]; exact ⟨h.1, TmWL.put ht ps _ hd' h.2⟩
    | same => simp only [FmW] at h ⊢; rw [chgL_len]; exact ⟨h.1, TmWL.put ht ps _ hd' h.2⟩
    | cond => simp only [FmW] at h ⊢; rw [chgL_len]; exact ⟨h.1, FmWL.put ht ps _ hd' h.2⟩
    | all => simp only [FmW] at h ⊢; rw [chgL_len]; exact ⟨h.1, FmWL.put ht ps _ hd' h.2⟩
theorem FmWL.put {tw : Wd} (ht : TmW tw) : ∀ (ws : List Wd) (d : Int), 0 ≤ d → FmWL ws → FmWL (chgL (gput tw) ws d)
  | [], d, hd, h => by rw [chgL]; exact h
  | w :: ws, d, hd, h => by
    rw [FmWL] at h
    rw [chgL, FmWL]
    exact ⟨FmW.put ht w d hd h.1, FmWL.put ht ws d hd h.2⟩
end
end Sh

end
section
set_option Elab.async false
set_option linter.all false
set_option maxRecDepth 100000
set_option maxHeartbeats 4000000
namespace Sh
open PySem PySem.Spec PyProof.Rows L2
/-! ### an exception on its way: B is all that stands, less the frames that run -/
structure Fl (X : Cx) (pins : List (Addr × Obj)) (H : Hp) (B : Heap) : Prop where
  hok : HOk X.prog X.w H B
  lnk : ∀ b o, X.s₀.heap.get? b = some o → b ∉ frs X.stack → ∃ o', B.get? b = some o'
  pin : ∀ p ∈ X.pn ++ pins, ∃ o', B.get? p.1 = some o'
inductive XSt (X : Cx) (B : Heap) (ea : Addr) (cls : Value) (h : Heap) : Prop
  | made (h0 : Heap) (args : List Value) (m : Heap.MadeExcOf h0 h ea cls args) (st : B.StaysIn h0) (ff : h0.FunFrames B X.stack)
  | fly (a0 : Value) (f : Heap.FlyingW B X.stack ea cls a0 h)
  | held (a0 : Value) (f : Heap.HeldW B X.stack ea cls a0 X.env.locals h)
theorem XSt.stays {X : Cx} {B h : Heap} {ea : Addr} {cls : Value} (x : XSt X B ea cls h) : B.StaysIn h := by
  cases x with
  | made h0 args m st ff => exact fun b o e => m.keeps b o (st b o e)
  | fly a0 f => exact f.1
  | held a0 f => exact f.1
/-- what is wanted of an exception in X: it is on its way, and R holds of its class, the locals and the abstract heap -/
def XS (X : Cx) (R : Value → L2.St → Hp → Prop) : Value → Shared → Prop := fun e s => ∃ ea cls σ H B, e = .ref ea ∧ Inv X [] σ H s ∧ Fl X [] H B ∧ XSt X B ea cls s.heap ∧ R cls σ H
section
variable {X : Cx} {pins : List (Addr × Obj)} {σ : L2.St} {H : Hp} {s : Shared} {B h' : Heap} {ea : Addr} {cls a0 : Value}
theorem _root_.L2.Inv.nopins (I : Inv X pins σ H s) : Inv X [] σ H s := I.pins_of fun p hp => nomatch hp
theorem nostk (I : Inv X pins σ H s) {b : Addr} (h1 : b ≠ X.env.locals) (h2 : b ∉ X.fs) : b ∉ frs X.stack := fun z => (List.mem_cons.mp (I.stkSub b z)).elim h1 h2
/-- the exception's own records and the frames' slots may turn: all that X speaks of stays -/
theorem _root_.L2.Inv.flown (I : Inv X pins σ H s) (F : Fl X pins H B) (sb : B.StaysIn s.heap) (st : B.StaysIn h') (up : s.heap.UpToSlots h') : Inv X pins σ H { s with heap := h' } := by
  have neL : ∀ b o, X.s₀.heap.get? b = some o → b ≠ X.env.locals := fun b o e => Nat.ne_of_lt (Nat.lt_of_lt_of_le (Heap.lt_size e) I.ok.above)
  have cellK : ∀ c v, s.heap.IsCell c v → h'.IsCell c v := fun c v ⟨o, ho, hd⟩ => by
    obtain ⟨sl, q⟩ := up c o ho fun vs z => by rw [hd] at z; cases z
    exact ⟨_, q, hd⟩
  have viaB : ∀ b o, (∃ o', B.get? b = some o') → s.heap.get? b = some o → h'.get? b = some o := fun b o ⟨o', e'⟩ e => by
    have e2 := sb b o' e'
    rw [e] at e2; cases e2
    exact st b o e'
  refine ⟨I.ok, I.os, I.bare, ⟨fun b o e n hb hx => ?_, fun b o e n hb hx => ?_, I.base.free, fun b o e hx => ?_, I.base.tups, I.base.frzs, I.base.tbls⟩, ?_, fun x c e => ?_, I.free, I.freeC, fun p hp => ?_, F.hok.kept st, I.len⟩
  · exact viaB b o (F.lnk b o e (nostk I (neL b o e) hb)) (I.base.keep b o e n hb hx)
  · obtain ⟨sl, e1⟩ := I.base.slot b o e n hb hx
    obtain ⟨_, o2, ho2, nf⟩ := I.ok.funs.mem hb
    rw [e] at ho2; cases ho2
    obtain ⟨sl', e2⟩ := up b _ e1 nf
    exact ⟨sl', e2⟩
  · obtain ⟨o', e1⟩ := I.base.there b o e hx
    by_cases hb : b ∈ X.fs
    · obtain ⟨_, o2, ho2, nf⟩ := I.funs.mem hb
      obtain ⟨sl, e2⟩ := up b o2 ho2 nf
      exact ⟨_, e2⟩
    · exact ⟨o', viaB b o' (F.lnk b o e (nostk I (neL b o e) hb)) e1⟩
  · obtain ⟨m, hn, hl⟩ := I.loc
    refine ⟨m, up.ns hn, fun i x v e1 e2 e3 => ?_⟩
    obtain ⟨u, r, l⟩ := hl i x v e1 e2 e3
    refine ⟨u, r, ?_⟩
    rcases l with l | ⟨k, c, e, z⟩
    · exact .inl l
    · exact .inr ⟨k, c, e, cellK c _ z⟩
  · obtain ⟨v, z⟩ := I.cell x c e
    exact ⟨v, cellK c v z⟩
  · obtain ⟨e, n, ne, nf, d⟩ := I.pin p hp
    exact ⟨viaB p.1 p.2 (F.pin p hp) e, n, ne, nf, d⟩
end

/-! ### noting, holding, leaving -/
section
variable {M : Model} {A : Around} {E : Value → Shared → Prop} {s : Shared}
theorem noteFrame_made {base h0 : Heap} {env : Env} {outer : List Env} {L e : Addr} {cls : Value} {args : List Value} {Q : Unit → Shared → Prop}
    (hfr : A.frames = some (env :: outer)) (hf : env.frame = some L) (m : Heap.MadeExcOf h0 s.heap e cls args) (st : base.StaysIn h0) (ff : h0.FunFrames base (env :: outer))
    (hQ : ∀ h' t, Heap.HeldW base (env :: outer) e cls (.ref t) L h' → s.heap.UpToSlots h' → Q () { s with heap := h' }) : wpAny M A (noteFrame (.ref e) env) Q E s := by
  obtain ⟨t, he, htn, ht⟩ := m.there
  have hen : base.get? e = none := by
    cases hq : base.get? e with
    | none => rfl
    | some o' => have := st e o' hq; rw [m.new] at this; cases this
  unfold noteFrame
  simp only [hf]
  refine wpAny_bind (wpAny_field he rfl (x := .none) rfl ?_)
  rw [if_neg (by decide)]
  refine wpAny_entryW (vs := #[.ref t, .none, .none, .none, .bool false, .none]) (a0 := .ref t) hfr (ff.of_keeps fun b o hb _ => ⟨o, m.keeps b o hb, rfl⟩) hf he (fun b o hb => m.keeps b o (st b o hb)) hen rfl (by show 1 < 6; decide) rfl fun h' hN => ?_
  obtain ⟨k1, k2, k3, k4⟩ := hN
  exact hQ h' t ⟨k1, hen, k2, k3⟩ k4
/-- one field of a record is written: every other address reads as before -/
theorem rec_put {h : Heap} {a : Addr} {o : Obj} {fs : Array Value} (at_ : h.get? a = some o) (rec_ : o.data = .fields fs) (f : Array Value → Array Value) :
    (∀ c, c ≠ a → (h.update a (Obj.mapFields f)).get? c = h.get? c) ∧ ∃ o', (h.update a (Obj.mapFields f)).get? a = some o' ∧ o'.data = .fields (f fs) := by
  have d := Obj.data_mapFields rec_ f
  exact ⟨fun c n => Heap.get?_update_other _ _ n.symm, o.mapFields f, Heap.get?_update_self _ at_ (Obj.isFreed_of_fields d), d⟩
theorem setFlight_held {base : Heap} {l : List Env} {e L : Addr} {cls a0 : Value} {Q : Unit → Shared → Prop} (R : Heap.HeldW base l e cls a0 L s.heap)
    (fin : ∀ g, Heap.HeldW base l e cls a0 L g → s.heap.UpToSlots g → Q () { s with heap := g }) : wpAny M A (setFlight (.ref e) (some L)) Q E s := by
  rcases R with ⟨below, new, frames, ox, xs, tb, ot, ys, gx, kx, dx, toTb, newTb, apart, gt, dt, place⟩
  have room : 3 < ys.size := by
    rcases Array.getElem?_eq_some_iff.mp place with ⟨r, _⟩
    exact r
  rcases rec_put gt dt (fun v => v.setIfInBounds 3 (rawInt L)) with ⟨rest, ot', gt', dt'⟩
  have plain : ∀ c o, s.heap.get? c = some o → (∀ v, o.data ≠ .fields v) → c ≠ tb := by
    rintro c o g n rfl
    exact n ys ((Option.some.inj (g.symm.trans gt)) ▸ dt)
  have go := fin (s.heap.update tb (Obj.mapFields fun v => v.setIfInBounds 3 (rawInt L)))
    ⟨fun c o g => (rest c (by rintro rfl; rw [newTb] at g; cases g)).trans (below c o g), new, frames.of_keeps fun c o g n => ⟨o, (rest c (plain c o g n)).trans g, rfl⟩,
      ox, xs, tb, ot', _, (rest e apart.symm).trans gx, kx, dx, toTb, newTb, apart, gt', dt', by simp [room]⟩
    (fun c o g n => ⟨o.slots, (rest c (plain c o g n)).trans g⟩)
  unfold setFlight
  refine wpAny_bind (wpAny_field gx dx toTb ?_)
  have some_ : (Value.ref tb != Value.none) = true := rfl
  rw [some_]
  exact wpAny_setField gt dt room go
/-- a noted exception comes back to its own frame -/
theorem cameBack_held {base : Heap} {env : Env} {l : List Env} {e L : Addr} {cls a0 : Value} (hf : env.frame = some L) (R : Heap.HeldW base l e cls a0 L s.heap) (h : ∀ h', Heap.HeldW base l e cls a0 L h' → s.heap.UpToSlots h' → E (.ref e) { s with heap := h' }) :
    cameBackBy M A env E (.ref e) s := by
  rcases id R with ⟨_, _, _, ox, xs, tb, _, _, gx, _, dx, toTb, _⟩
  unfold cameBackBy
  refine wpAny_bind (wpAny_field gx dx toTb ?_)
  have none_ : (Value.ref tb == Value.none) = false := rfl
  rw [none_, if_neg Bool.false_ne_true, hf]
  first
    | exact wpAny_bind (wpAny_pure (setFlight_held R h))
    | exact setFlight_held R h
end

section
variable {X : Cx} {R : Value → L2.St → Hp → Prop}
/-- X is a def's body: its frame stands on top -/
structure Top1 (X : Cx) : Prop where
  stk : X.stack = X.env :: X.outer
  frm : X.env.frame = some X.env.locals
/-- the exception is held by X's frame -/
theorem XS.note {e : Value} {s : Shared} {M : Model} {E : Value → Shared → Prop} {Q : Unit → Shared → Prop} (T : Top1 X) (x : XS X R e s)
    (h : ∀ h' ea cls a0 σ H B, e = .ref ea → Inv X [] σ H { s with heap := h' } → Fl X [] H B → Heap.HeldW B X.stack ea cls a0 X.env.locals h' → R cls σ H → Q () { s with heap := h' }) : wpAny M X.A (noteFrame e X.env) Q E s := by
  obtain ⟨ea, cls, σ, H, B, rfl, I, F, st, r⟩ := x
  have sb := st.stays
  have hfr : X.A.frames = some (X.env :: X.outer) := by rw [← T.stk]; exact I.ok.frames
  cases st with
  | made h0 args m s0 ff =>
    rw [T.stk] at ff
    exact noteFrame_made hfr T.frm m s0 ff fun h' t hh up => h h' ea cls _ σ H B rfl (I.flown F sb hh.1 up) F (by rw [T.stk]; exact hh) r
  | fly a0 f =>
    rw [T.stk] at f
    exact wpAny_looks_onW hfr T.frm f fun h' hh up => h h' ea cls _ σ H B rfl (I.flown F sb hh.1 up) F (by rw [T.stk]; exact hh) r
  | held a0 f => exact wpAny_noteFrame_againW T.frm f.2.2.2 (h s.heap ea cls a0 σ H B rfl I F f r)
theorem passes_XS {M : Model} (T : Top1 X) : PassesOwn M X.A X.env (XS X R) := fun e s x => by
  refine XS.note T x fun h' ea cls a0 σ H B e1 I F hh r => ?_
  subst e1
  exact cameBack_held T.frm hh fun h2 hh2 up => ⟨ea, cls, σ, H, B, rfl, I.flown F hh.1 hh2.1 up, F, .held a0 hh2, r⟩
end

/-! ### how an exception lies behind a call -/
def CX1 (P : Program) (w : World) : CXT := fun outer H s E e s' => ∃ (ea : Addr) (cls a0 : Value) (H' : Hp) (B : Heap), e = .ref ea ∧ s'.os = s.os ∧ AllBare s'.gens ∧ Heap.FlyingW B outer ea cls a0 s'.heap ∧ Un (frs outer) [] H H' s.heap s'.heap ∧ HOk P w H' B ∧
  (∀ b o, s.heap.get? b = some o → b ∉ frs outer → ∃ o', B.get? b = some o') ∧ E cls none H'
section
variable {X : Cx} {R : Value → L2.St → Hp → Prop} {pins : List (Addr × Obj)} {σ : L2.St} {H : Hp} {s s' : Shared} {e : Value}
/-- a callee's exception reaches X -/
theorem XS.of_call (I : Inv X pins σ H s) (hex : X.ex = []) (x : CX1 X.prog X.w X.stack H s (fun cls _ H' => R cls σ H') e s') : XS X R e s' := by
  obtain ⟨ea, cls, a0, H', B, rfl, os, bare, f, un, hok, lnk, r⟩ := x
  have I' : Inv X [] σ H' s' := I.nopins.call' (ch := []) os un (hok.kept f.1) bare fun b z => nomatch z
  refine ⟨ea, cls, σ, H', B, rfl, I', ⟨hok, fun b o q hb => ?_, fun p hp => ?_⟩, .fly a0 f, r⟩
  · obtain ⟨o', e1⟩ := I.base.there b o q (by rw [hex]; simp)
    exact lnk b o' e1 hb
  · have hp' : p ∈ X.pn ++ [] := hp
    obtain ⟨q, n, ne, nf, _⟩ := I.nopins.pin p hp'
    exact lnk p.1 p.2 q (nostk I ne nf)
/-- an exception leaves X's frame -/
theorem XS.leave {M : Model} {E : Value → Shared → Prop} {E' : XK} (T : Top1 X) (hex : X.ex = []) (x : XS X (fun cls _ H' => E' cls none H') e s) : wpAny M X.A (leaving X.env e) (fun _ s' => CX1 X.prog X.w X.outer X.H₀ X.s₀ E' e s') E s := by
  unfold leaving
  refine wpAny_bind (XS.note T x fun h' ea cls a0 σ H B e1 I F hh r => ?_)
  subst e1
  refine wpAny_landsW hh fun h2 f up => ?_
  have J := I.flown F hh.1 f.1 up
  rw [T.stk] at f
  obtain ⟨k1, k2, ⟨_, _, k3⟩, k4⟩ := f
  refine ⟨ea, cls, a0, H, B, rfl, J.os, J.bare, ⟨k1, k2, k3, k4⟩, ?_, F.hok, fun b o q hb => F.lnk b o q ?_, r⟩
  · have u := J.base
    rw [hex] at u
    exact u
  · exact nostk I (Nat.ne_of_lt (Nat.lt_of_lt_of_le (Heap.lt_size q) I.ok.above)) hb
end
end Sh
namespace Sh
open PySem PySem.Spec PyProof.Rows L2
/-! ### defs that may raise -/
def OkX (P : Program) (w : World) (K : PySem.W.Frag) (mg : Str → Option Value) (base : Heap) (x : Str) (ps : List Str) (k : Nat) (sp : Sp) : Prop :=
  ∃ f fd, FnOk P w K mg base (CX1 P w) k f fd ps sp ∧ Binds K fd ps [] ∧ mg x = some (.ref f) ∧ PySem.W.keepIn K (.ref f) = true
/-- the context of a def's body, an exception wanted as XS says -/
abbrev cxX (P : Program) (w : World) (K : PySem.W.Frag) (mg : Str → Option Value) (base : Heap) (N : List Str) (x : Str) (scope : Scope) (f : Addr) (cd : Value) (A : Around) (outer : List Env) (s : Shared) (H : Hp) (E : XK) : Cx :=
  (cxOf (CX1 P w) P w K mg base N x scope f cd A outer s H E).wish (XS (cxOf (CX1 P w) P w K mg base N x scope f cd A outer s H E) fun cls _ H' => E cls none H')
theorem top_cxOf {CX : CXT} {P : Program} {w : World} {K : PySem.W.Frag} {mg : Str → Option Value} {base : Heap} {N : List Str} {x : Str} {scope : Scope} {f : Addr} {cd : Value} {A : Around} {outer : List Env} {s : Shared} {H : Hp} {E : XK} :
    Top1 (cxOf CX P w K mg base N x scope f cd A outer s H E) := ⟨rfl, rfl⟩
section
variable {P : Program} {w : World} {K : PySem.W.Frag} {mg : Str → Option Value} {base : Heap} {x : Str} {st : Stmt} {N ps : List Str} {k : Nat} {sp : Sp}
theorem Def.okX (D : Def K mg x st ps) (S : FnScope N ps (defScope st)) (len : ∀ vs H Q E, sp vs H Q E → vs.length = ps.length)
    (hbody : ∀ (f : Addr) (cdv : Value) (A : Around) (outer : List Env) (s : Shared) (H : Hp) (vs : List V) (Q : VK) (E : XK), Room k (A.deeper (envOfC x (defScope st) s.heap.objs.size f cdv)) → sp vs H Q E →
      ∃ t, PSs (cxX P w K mg base N x (defScope st) f cdv A outer s H E) (defBody st) t ∧ t { nx := fun _ H' => Q .non H', rt := Q } (start N vs) H) : OkX P w K mg base x ps (k + 1) sp := by
  obtain ⟨f, fd, F, b, m⟩ := D
  refine ⟨f, fd, ?_, b, m, F.kp⟩
  obtain ⟨oc, od, kV, doc, pm, an, cdv, ct, osl, rfl, lk, hcd⟩ := F.ex
  refine fn_of lk hcd S len fun A outer s H vs Q E hr hsp => ?_
  obtain ⟨t, h, q⟩ := hbody f cdv A outer s H vs Q E hr hsp
  refine ⟨t, fun pins s1 σ H1 D1 I hq => ?_, q⟩
  refine wpAny_mono (h pins s1 σ H1 D1 (I.wish _) hq) (fun fl s2 z => z.unwish) fun e s2 z => ?_
  exact XS.leave top_cxOf rfl z
theorem Ok.toX (G : Ok P w K mg base x ps k sp) : OkX P w K mg base x ps k sp := by
  obtain ⟨f, fd, F, r⟩ := G
  refine ⟨f, fd, ⟨F.len, fun A outer s H args us vs Q E hr e0 hb rv hs => codeAny_mono (F.run A outer s H args us vs Q E hr e0 hb rv hs) fun rs s' z => ?_⟩, r⟩
  cases rs with
  | ok fl => cases fl <;> exact z
  | error e => exact False.elim z
end
/-! ### a call that may raise, within X.wish (XS X R) -/
def tCallX (sp : Sp) (R : Value → L2.St → Hp → Prop) (t : TA) : TE := fun σ H Q => t σ H fun vs H1 => sp vs H1 Q fun cls _ H' => R cls σ H'
section
variable {X : Cx} {R : Value → L2.St → Hp → Prop} {x : Str} {ps : List Str} {k j : Nat} {sp : Sp} {p pos : Pos} {e : Expr} {es : List Expr} {t : TA}
theorem pe_okX (G : OkX X.prog X.w X.K X.mg X.base x ps k sp) (hex : X.ex = []) (hr : Room j X.A) (hk : k ≤ j) (hg : Gl X x) (ha : PA (X.wish (XS X R)) (e :: es) t) (hdb : (x == ("__debug__" : Str)) = false := by decide)
    (he : starEach (e :: es) X.env = (false, eval e X.env) :: starEach es X.env := by rfl) (hpl : (backTo pos (starEach es X.env)).any (·.1) = false := by rfl) : PE (X.wish (XS X R)) (.Call (.Name x p) (e :: es) [] pos) (tCallX sp R t) := by
  obtain ⟨f, fd, F, b, m, kp⟩ := G
  intro pins s σ H Q I h
  refine wpAny_Call_Name_kw (ld_glob I hg m ?_ hdb)
  refine PySem.W.callWith_K (h₀ := X.base) I.ok.mod.kin kp (thn (ha pos pins s σ H _ I h) fun us s1 ⟨vs, H1, I1, r, q⟩ => ⟨I1.kIn, ?_⟩) he hpl
  have hl : us.length = ps.length := by rw [← r.length]; exact F.len _ _ _ _ q
  have b' := b s1 us I1.kIn (by rw [List.append_nil]; exact hl)
  rw [List.append_nil] at b'
  refine wpAny_call (codeAny_mono (F.run X.A X.stack s1 H1 ⟨us, []⟩ us vs Q _ (hr.mono hk) I1.unwish.env0 b' r q) fun rs s' hq => ?_)
  cases rs with
  | error e => exact XS.of_call I1.unwish hex hq
  | ok fl =>
    cases fl with
    | ret u =>
      obtain ⟨v, H2, I2, rv, q2⟩ := I1.unwish.after hq
      exact ⟨v, H2, I2.wish _, rv, q2⟩
    | next => exact False.elim hq
    | brk => exact False.elim hq
    | cont => exact False.elim hq
/-! ### raise C(..) -/
/-- C is an error class of the program's own, under ValueError -/
structure Exc (K : PySem.W.Frag) (mg : Str → Option Value) (base : Heap) (x : Str) (C : Addr) : Prop where
  own : OwnCls x C [.type "ValueError", .type "Exception", .type "BaseException", .type "object"] "ValueError.__new__" mg base
def tRaise (C : Addr) (R : Value → L2.St → Hp → Prop) (t : TA) : TS := fun _ σ H => t σ H fun vs H1 => vs.length ≤ sizeLine ∧ R (.ref C) σ H1
theorem ps_raise {C : Addr} (O : Exc X.K X.mg X.base x C) (hex : X.ex = []) (hc : X.calm = true) (hg : Gl X x) (ha : PA (X.wish (XS X R)) (e :: es) t) (hdb : (x == ("__debug__" : Str)) = false := by decide)
    (he : starEach (e :: es) X.env = (false, eval e X.env) :: starEach es X.env := by rfl) (hpl : (backTo pos (starEach es X.env)).any (·.1) = false := by rfl) {rpos : Pos} :
    PS (X.wish (XS X R)) (.Raise (some (.Call (.Name x p) (e :: es) [] pos)) none rpos) (tRaise C R t) := by
  intro pins s σ H D I h
  have O' := O.own
  obtain ⟨tl, N, nm, q, bs, hdct, sn, sub, ab, col, dd, k0, k1, k2, k3, k5, mN, hC, hN, hni, T⟩ := O'.obj
  have base_ := PySem.F.excBase_ValueError
  have plain_ : (backTo pos (starEach (e :: es) X.env)).any (·.1) = false := by
    rw [he]
    exact hpl
  refine @wpAny_Raise_call_subT _ _ _ _ _ _ nm q C N bs tl _ hdct sn sub ab col dd k0 k1 k2 k3 k5 _ _ _ base_ mN _ _ _ _ _ _ (T.hasType base_.hasBase) (I.ok.hd hc) plain_ hni (ld_glob I hg O'.bound ⟨rfl, ?_⟩ hdb)
  have ha' := ha pos pins s σ H _ I h
  have he' : starEach (e :: es) (X.wish (XS X R)).env = (false, eval e (X.wish (XS X R)).env) :: starEach es (X.wish (XS X R)).env := he
  rw [he'] at ha' ⊢
  refine Calls.evalArgs_plain (wpAny_mono ha' (fun us s1 ⟨vs, H1, I1, r, hl, q1⟩ => ?_) fun _ _ y => y)
  have J := I1.unwish
  refine ⟨rfl, by rw [← r.length]; exact hl, J.bk _ _ hC, hN.keeps J.bk, T.keeps J.bk, fun h' ea m => ?_⟩
  have J' : Inv X [] σ H1 { s1 with heap := h' } := J.nopins.kept (t' := s1.toks) m.keeps
  have stk : ∀ b o, s1.heap.get? b = some o → b ∉ frs X.stack → (PySem.W.hideAll s1.heap (frs X.stack)).get? b = some o := fun b o z hb => PySem.W.hideAll_get _ z hb
  refine ⟨ea, _, σ, H1, PySem.W.hideAll s1.heap (frs X.stack), rfl, J', ⟨fun a o z => ?_, fun b o z hb => ?_, fun p hp => ?_⟩, .made s1.heap us m (fun b o z => PySem.W.of_hideAll _ z) (PySem.W.funFrames_hide J.stack fun env henv a hf => List.mem_filterMap.mpr ⟨env, henv, hf⟩), q1⟩
  · have nf : ∀ b u, H1 b = some u → b ∉ frs X.stack := fun b u z hb => by rw [J.stkFree b hb] at z; cases z
    refine (J.hok a o z).stay (fun b u hb y => stk b u y ?_) (fun _ y => y) fun _ _ y => y
    rcases hb with rfl | hb
    · exact nf _ _ z
    · exact nf _ _ hb
  · obtain ⟨o', e1⟩ := J.base.there b o z (by rw [hex]; simp)
    exact ⟨o', stk b o' e1 hb⟩
  · obtain ⟨q, n, ne, nf, _⟩ := J.nopins.pin p hp
    exact ⟨p.2, stk p.1 p.2 q (nostk J ne nf)⟩
end
theorem PS.nox {X : Cx} {st : Stmt} {t : TS} (h : PS X.nox st t) : PS X st t := fun pins s σ H D I hw => by
  refine wpAny_mono (h pins s σ H D (I.wish _) hw) (fun f s' z => z.unwish) fun _ _ z => z.elim
end Sh

end
section
set_option Elab.async false
set_option linter.all false
set_option maxRecDepth 100000
set_option maxHeartbeats 4000000
namespace Sh
open PySem PySem.Spec PySem.Calls PyProof.Rows L2 PySem.W PySem.Builtin PySem.Builtin.ObjectAttr PySem.Builtin.Getset_descriptor
/-! ### isinstance of an exception of an own class: what its class answers, by the written part K -/
def IsEx (ea : Addr) (cls : Value) (h : Heap) : Prop := ∃ o, h.get? ea = some o ∧ o.cls = cls
structure ExK (K : Frag) (C : Addr) : Prop where
  ga : findIn K (.ref C) "__getattribute__" = some (some (.builtin "BaseException.__getattribute__"))
  gn : findIn K (.ref C) "__getattr__" = some none
  ca : findIn K (.ref C) "__class__" = some (some (.builtin "object.__class__"))
  ob : mroIn K C (.type "object") = some true
  be : mroIn K C (.type "BaseException") = some true
  it : (clsIn K C).isSome = true
section
variable {prog : Program} {w : World} {A : Around} {E : Value → Shared → Prop} {s : Shared} {K : Frag} {ea C : Addr}
theorem IsEx.ty {M : Model} {cls : Value} {h : Heap} (x : IsEx ea cls h) : Looks M h (typeOf (.ref ea)) cls := by
  rcases x with ⟨o, g, c⟩
  rw [← c]
  exact (Looks.ld g).andThen .now
/-- e.__class__ by the descriptor of object -/
theorem ex_descr {R : Result → Shared → Prop} {tp : Value} (X : K.In s.heap) (I : IsEx ea (.ref C) s.heap) (k : ExK K C) (fin : R (.ok (.ret (.ref C))) s) :
    codeAny (model prog w) A (.call (.builtin "getset_descriptor.__get__") ⟨[.builtin "object.__class__", .ref ea, tp], []⟩) R s := by
  cases s with
  | mk hp gn dw tk os =>
    have ty := I.ty (M := model prog w)
    have up := looks_mroIn (M := model prog w) X k.ob
    have up' : Looks (model prog w) hp (isSubtype (.ref C) (.type (".".intercalate ("object.__class__".cutAt '.').dropLast))) true := by
      have ow : (".".intercalate ("object.__class__".cutAt '.').dropLast) = "object" := by decide +kernel
      rw [ow]
      exact up
    refine codeAny_call_builtin KF.slot_gs.plain KF.entry_gs ?_
    refine KF.slot_gs.check _ _ _ _ _ _ _ _ KF.type_class (KF.args_gs _ _ _) ?_
    repeat (any_goals (first | assumption | with_reducible refine Looks.at ty ?_ | with_reducible refine Looks.at up' ?_ | wp_step))
    refine ⟨Code.quiet_builtin _ (by decide +kernel), ?_⟩
    refine codeAny_builtin KF.entry_class ?_
    repeat (any_goals (first | exact fin | with_reducible refine Looks.at ty ?_ | wp_step))
/-- the slot takes e -/
theorem ex_checked {M : Model} {v : Value} {Q : Unit → Shared → Prop} (X : K.In s.heap) (I : IsEx ea (.ref C) s.heap) (k : ExK K C) (fin : Q () s) : wpAny M A (checkBuiltinCall "BaseException.__getattribute__" ⟨[.ref ea, v], []⟩) Q E s := by
  cases s with
  | mk hp gn dw tk os =>
    have ty := I.ty (M := M)
    have up := looks_mroIn (M := M) X k.be
    have ar := F.args_bexc_ga (.ref ea) v
    simp only [checkBuiltinCall, show builtinKind "BaseException.__getattribute__" = some .slot from by decide +kernel, show splitId "BaseException.__getattribute__" = some ("BaseException", "__getattribute__") from by decide +kernel, isInstance]
    repeat (any_goals (first | exact fin | assumption | with_reducible refine Looks.at ty ?_ | with_reducible refine Looks.at up ?_ | wp_step))
/-- e.__class__ -/
theorem ex_class {Q : Option Value → Shared → Prop} (X : K.In s.heap) (I : IsEx ea (.ref C) s.heap) (k : ExK K C) (fin : Q (some (.ref C)) { s with toks := s.toks + 1 }) : wpAny (model prog w) A (getAttr? (.ref ea) "__class__") Q E s := by
  cases s with
  | mk hp gn dw tk os =>
    have ty := I.ty (M := model prog w)
    have l1 := looks_findIn (M := model prog w) X k.ga
    have l2 := looks_findIn (M := model prog w) X k.gn
    have l3 := looks_findIn (M := model prog w) X k.ca
    have l4 := looks_mroIn (M := model prog w) X k.be
    have sl := F.excAttr_ValueError.ga
    have bd := sl.bind (.ref ea)
    have t1 := F.typeOf_object_class
    have t2 : (⟨hp, gn, dw, tk + 1, os⟩ : Shared).TypeIs (.builtin "object.__class__") "getset_descriptor" := t1
    have d1 := F.slot_gs_get.lookup
    have d2 := F.slot_gs_set.lookup
    have ne : (Value.builtin "BaseException.__getattribute__" == .builtin "object.__getattribute__") = false := by decide +kernel
    have ne' : (onTheHeap (.ref C) && Value.builtin "BaseException.__getattribute__" == .builtin "object.__getattribute__") = false := by rw [ne, Bool.and_false]
    unfold getAttr? getAttrBy? getAttrBy
    repeat (any_goals (first | exact fin | assumption | with_reducible refine Looks.at ty ?_ | with_reducible refine Looks.at l1 ?_ | with_reducible refine Looks.at l2 ?_ | wp_step))
    refine codeAny_call_builtin sl.plain F.entry_bexc_ga (ex_checked (s := ⟨hp, gn, dw, tk + 1, os⟩) X I k ?_)
    repeat (any_goals (first | exact fin | assumption | with_reducible refine Looks.at ty ?_ | with_reducible refine Looks.at l4 ?_ | with_reducible refine Looks.at l3 ?_ | with_reducible refine ex_descr (s := ⟨hp, gn, dw, tk + 1, os⟩) X I k ?_ | wp_step))
theorem kitx_ex (k : ExK K C) : KitX K (.ref ea) (.ref C) (IsEx ea (.ref C)) := by
  have cls : ∃ o cd, K.lookup C = some o ∧ o.data = .cls cd := by
    have q := k.it
    unfold clsIn at q
    split at q
    · exact ⟨_, _, by assumption, rfl⟩
    · cases q
  obtain ⟨o, cd, lo, dc⟩ := cls
  refine ⟨fun _ _ _ I => I.ty, fun M h X _ => ?_, fun h tp dd its n sl X at_ => ?_, fun X I fin => ex_class X I k fin⟩
  · intro A' Q' E' s' up fin
    obtain ⟨c', d', da', sl'⟩ := o
    cases dc
    exact wpAny_bind (wpAny_loadPart (up _ _ (X _ _ lo)) (wpAny_pure fin))
  · by_cases e : C = tp
    · subst e
      have z := X _ _ lo
      rw [at_] at z
      cases z
      cases dc
    · exact beq_eq_false_iff_ne.mpr fun q => e (Value.ref.inj q)
end
end Sh

end
section
set_option Elab.async false
set_option linter.all false
set_option maxRecDepth 100000
set_option maxHeartbeats 4000000
namespace Sh
open PySem PySem.Spec PyProof.Rows L2
/-- a tracked thing stands in the heap -/
theorem obj_has {P : Program} {w : World} {H : Hp} {h : Heap} {a : Addr} {o : HO} (x : ObjOk P w H h a o) : ∃ ob, h.get? a = some ob := by
  cases o with
  | lst xs => obtain ⟨_, _, _, _, e⟩ := x; exact ⟨_, e⟩
  | tup xs => obtain ⟨_, _, _, ob, e, _⟩ := x; exact ⟨_, e⟩
  | dK kvs => obtain ⟨_, _, _, _, ob, _, _, e, _⟩ := x; exact ⟨_, e⟩
  | dT kvs => obtain ⟨_, _, _, _, ob, _, _, e, _⟩ := x; exact ⟨_, e⟩
  | set S n => obtain ⟨ob, _, _, _, e, _⟩ := x; exact ⟨_, e⟩
  | ins C dx fs => obtain ⟨_, _, _, e, _⟩ := x; exact ⟨_, e⟩
  | own y => exact x
  | xd fs => obtain ⟨_, ⟨_, _, _, e, _⟩, _⟩ := x; exact ⟨_, e⟩
  | rng lo hi => obtain ⟨_, _, _, e⟩ := x; exact ⟨_, e⟩
  | frz ob u => exact ⟨_, x.1⟩
  | tbl ps => exact ⟨_, show h.get? a = some _ from x⟩
  | met f y => exact ⟨_, show h.get? a = some _ from x⟩
  | ext φ => exact x.2.1
/-! ### the context of an except suite: the exception at ea is handled, none leaves -/
abbrev cxH (X : Cx) (ea : Addr) : Cx := { X with A := X.A.mark (some (.ref ea)), calm := false, xe := fun _ _ => False }
section
variable {X : Cx} {pins : List (Addr × Obj)} {σ σ' : L2.St} {H : Hp} {s : Shared} {h' : Heap} {ea : Addr} {cls : Value}
theorem _root_.L2.Inv.toH (I : Inv X pins σ H s) : Inv (cxH X ea) pins σ H s :=
  have o := I.ok
  ⟨⟨o.mod, o.kind, o.glob, o.blt, o.above, o.inj, o.has, o.cab, (fun z => by cases z), o.frames, o.stk, o.exf, o.bs, o.bsz, o.noex, o.exfs, o.funs, o.frf⟩, I.os, I.bare, I.base, I.loc, I.cell, I.free, I.freeC, I.pin, I.hok, I.len⟩
theorem _root_.L2.Inv.ofH (J : Inv (cxH X ea) pins σ H s) (o : X.Ok) : Inv X pins σ H s := ⟨o, J.os, J.bare, J.base, J.loc, J.cell, J.free, J.freeC, J.pin, J.hok, J.len⟩
/-- the frame's own map has turned -/
theorem _root_.L2.Inv.nsTurn {t' : Nat} (I : Inv X pins σ H s) (hs : Heap.SameBut X.env.locals s.heap h') (hl : σ'.length = σ.length)
    (loc : ∃ m, h'.Ns X.env.locals m ∧ ∀ (i : Nat) (x : Str) (v : V), X.N[i]? = some x → σ'[i]? = some (some v) → Vis X.env.scope x → ∃ u, RelV v u ∧ Look X.env h' m x u) : Inv X pins σ' H { s with heap := h', toks := t' } := by
  have neL : ∀ b o, X.s₀.heap.get? b = some o → b ≠ X.env.locals := fun b o e => Nat.ne_of_lt (Nat.lt_of_lt_of_le (Heap.lt_size e) I.ok.above)
  have to : ∀ b o, b ≠ X.env.locals → s.heap.get? b = some o → h'.get? b = some o := fun b o n e => (hs.2 b n).trans e
  refine ⟨I.ok, I.os, I.bare, ⟨fun b o e n hb hx => to b o (neL b o e) (I.base.keep b o e n hb hx), fun b o e n hb hx => ?_, I.base.free, fun b o e hx => ?_, I.base.tups, I.base.frzs, I.base.tbls⟩, loc, fun y c e => ?_, I.free, I.freeC, fun p hp => ?_, fun a o e => ?_, hl.trans I.len⟩
  · obtain ⟨sl, z⟩ := I.base.slot b o e n hb hx
    exact ⟨sl, to b _ (neL b o e) z⟩
  · obtain ⟨o', z⟩ := I.base.there b o e hx
    exact ⟨o', to b o' (neL b o e) z⟩
  · obtain ⟨v, o, z, d⟩ := I.cell y c e
    exact ⟨v, o, to c o (I.cne y c e) z, d⟩
  · obtain ⟨e, n, ne, nf, d⟩ := I.pin p hp
    exact ⟨to p.1 p.2 ne e, n, ne, nf, d⟩
  · refine (I.hok a o e).stay (fun b u hb z => to b u (fun q => ?_) z) (fun _ z => z) fun _ _ z => z
    rcases hb with rfl | hb
    · rw [q, I.free] at e; cases e
    · rw [q, I.free] at hb; cases hb
/-- except .. as n: the name goes -/
theorem nameGoes_ok {M : Model} {A : Around} {E : Value → Shared → Prop} {i : Nat} {n : Str} {pos : Pos} {Q : Unit → Shared → Prop} (I : Inv X pins σ H s) (hN : X.N.Nodup) (hi : X.N[i]? = some n) (hx : X.env.kindOf n = some .local)
    (h : ∀ s', Inv X pins (σ.set i none) H s' → Q () s') : wpAny M A (do bindName X.env n .none; unbindBehindTheSuite X.env n pos) Q E s := by
  obtain ⟨m, hn, hl⟩ := id I.loc
  refine wpAny_nameGoes_keeps hx hn (by rw [I.ok.kind]; rfl) fun g v hn' hs => h _ (I.nsTurn hs (by rw [List.length_set]) ⟨_, hn', fun j y u e1 e2 e3 => ?_⟩)
  have hj : j ≠ i := fun e => by
    subst e
    have hlt : j < σ.length := by rw [I.len]; exact (List.getElem?_eq_some_iff.mp e1).1
    rw [List.getElem?_set_self hlt] at e2
    cases e2
  rw [List.getElem?_set_ne hj.symm] at e2
  obtain ⟨w, r, l⟩ := hl j y u e1 e2 e3
  refine ⟨w, r, ?_⟩
  rcases l with ⟨k, z⟩ | ⟨k, c, e, o, z, d⟩
  · refine .inl ⟨k, ?_⟩
    have hy : y ≠ n := fun e => hj (nodup_ix hN e1 (e ▸ hi))
    show (if y = n then v else m y) = some w
    rw [if_neg hy]; exact z
  · exact .inr ⟨k, c, e, o, (hs.2 c (I.cne y c e)).trans z, d⟩
/-- an object that nobody spoke of is tracked -/
theorem _root_.L2.Inv.adopt {o : HO} (I : Inv X pins σ H s) (h0 : H ea = none) (h1 : X.s₀.heap.get? ea = none) (h2 : ea ≠ X.env.locals) (h3 : ∀ x c, X.env.cells.lookup x = some c → c ≠ ea) (h4 : ∀ p ∈ X.pn ++ pins, p.1 ≠ ea) (hn : ObjOk X.prog X.w (upd H ea o) s.heap ea o) :
    Inv X pins σ (upd H ea o) s := by
  have old : ∀ b u, H b = some u → upd H ea o b = some u := fun b u e => by rw [upd_ne (ne_of_none e h0)]; exact e
  have no : ∀ b, b ≠ ea → H b = none → upd H ea o b = none := fun b n e => by rw [upd_ne n]; exact e
  refine ⟨I.ok, I.os, I.bare, ⟨I.base.keep, I.base.slot, fun b u e n hx => no b (fun z => by rw [z, h1] at e; cases e) (I.base.free b u e n hx), I.base.there, fun b xs e => old b _ (I.base.tups b xs e), fun b u v e => old b _ (I.base.frzs b u v e), fun b ps e => ?_⟩, I.loc, I.cell, no _ (Ne.symm h2) I.free, fun x c e => no c (h3 x c e) (I.freeC x c e), fun p hp => ?_, fun b u e => ?_, I.len⟩
  · obtain ⟨more, z⟩ := I.base.tbls b ps e
    exact ⟨more, old b _ z⟩
  · obtain ⟨e, n, r⟩ := I.pin p hp
    exact ⟨e, no p.1 (h4 p hp) n, r⟩
  · by_cases hb : b = ea
    · subst hb
      rw [upd_same] at e; cases e
      exact hn
    · rw [upd_ne hb] at e
      exact (I.hok b u e).stay (fun _ _ _ z => z) (fun c z => old c _ z) fun c xs z => old c _ z
theorem exc_new {B : Heap} {a0 : Value} (I : Inv X pins σ H s) (F : Fl X pins H B) (f : Heap.FlyingW B X.stack ea cls a0 s.heap) : H ea = none ∧ X.s₀.heap.get? ea = none ∧ ea ≠ X.env.locals ∧ (∀ x c, X.env.cells.lookup x = some c → c ≠ ea) ∧ (∀ p ∈ X.pn ++ pins, p.1 ≠ ea) ∧ IsEx ea cls s.heap := by
  obtain ⟨f1, f2, f3, oe, vs, tb, ot, ts, he, hc, hd, _⟩ := id f
  have ns : ea ∉ frs X.stack := fun z => by
    obtain ⟨_, o, ho, nf⟩ := f3.mem z
    rw [he] at ho; cases ho
    exact nf vs hd
  refine ⟨?_, ?_, fun z => ?_, fun x c e z => ?_, fun p hp z => ?_, oe, he, hc.1⟩
  · cases e : H ea with
    | none => rfl
    | some u =>
      obtain ⟨o, q⟩ := obj_has (F.hok ea u e)
      rw [f2] at q; cases q
  · cases e : X.s₀.heap.get? ea with
    | none => rfl
    | some o =>
      obtain ⟨o', q⟩ := F.lnk ea o e ns
      rw [f2] at q; cases q
  · obtain ⟨m, ⟨o, es, ep, ho, hd', _⟩, _⟩ := I.loc
    rw [← z, he] at ho; cases ho
    rw [hd] at hd'; cases hd'
  · obtain ⟨v, o, ho, hd'⟩ := I.cell x c e
    rw [z, he] at ho; cases ho
    rw [hd] at hd'; cases hd'
  · obtain ⟨o', q⟩ := F.pin p hp
    rw [z, f2] at q; cases q
end
end Sh
namespace Sh
open PySem PySem.Spec PyProof.Rows L2
/-! ### try, except -/
abbrev TH := Value → Ends → L2.St → Hp → Prop
/-- the handlers take an exception that flies -/
def PH (X : Cx) (hs : List ExceptHandler) (t : TH) : Prop := ∀ (pins : List (Addr × Obj)) (s : Shared) (σ : L2.St) (H : Hp) (D : Ends) (ea : Addr) (cls a0 : Value) (B : Heap), Inv X pins σ H s → Fl X pins H B → Heap.FlyingW B X.stack ea cls a0 s.heap → t cls D σ H →
  wpAny (model X.prog X.w) X.A (handleBy (.ref ea) X.env hs) (SP X pins D) X.xe s
section
variable {X : Cx} {x n : Str} {c : Value} {np hpos : Pos} {b₀ : Stmt} {suite : List Stmt} {rest : List ExceptHandler} {ts : TS} {tr : TH}
theorem ph_nil : PH X [] fun _ _ _ _ => False := fun _ _ _ _ _ _ _ _ _ _ _ _ h => h.elim
theorem SP.ofH {pins : List (Addr × Obj)} {D : Ends} {ea : Addr} {f : Flow} {s : Shared} (h : SP (cxH X ea) pins D f s) (o : X.Ok) : SP X pins D f s := by
  cases f with
  | next => obtain ⟨σ, H, J, q⟩ := h; exact ⟨σ, H, J.ofH o, q⟩
  | brk => obtain ⟨σ, H, J, q⟩ := h; exact ⟨σ, H, J.ofH o, q⟩
  | cont => obtain ⟨σ, H, J, q⟩ := h; exact ⟨σ, H, J.ofH o, q⟩
  | ret u => obtain ⟨v, σ, H, J, q⟩ := h; exact ⟨v, σ, H, J.ofH o, q⟩
def hPlain (K : PySem.W.Frag) (c : Value) (ts : TS) (tr : TH) : TH := fun cls D σ H => ∃ b, PySem.W.exmOne K cls c = some b ∧ if b = true then ts D σ H else tr cls D σ H
/-- except C: suite -/
theorem ph_plain (hg : Gl X x) (hm : X.mg x = some c) (hS : ∀ ea, PSs (cxH X ea) (b₀ :: suite) ts) (hr : PH X rest tr) (hdb : (x == ("__debug__" : Str)) = false := by decide) :
    PH X (.ExceptHandler (some (.Name x np)) none (b₀ :: suite) hpos :: rest) (hPlain X.K c ts tr) := by
  intro pins s σ H D ea cls a0 B I F f h
  obtain ⟨b, e, h⟩ := h
  have ex := (exc_new I F f).2.2.2.2.2
  refine wpAny_handleBy_cons (codeAny_handlers_test (ld_glob (I.toH (ea := ea)) hg hm ?_ hdb)) (by intro q; cases q)
  refine (PySem.W.exm_one I.kIn ex.ty e).here ?_
  cases b with
  | false => exact hr pins s σ H D ea cls a0 B I F f h
  | true =>
    refine codeAny_handlers_suite (lands_againW f fun h' f' up => ?_)
    refine wpAny_mono (hS ea pins _ σ H D (I.flown F f.1 f'.1 up).toH h) (fun fl s' q => SP.ofH q I.ok) fun _ _ q => q.elim
/-- what is known of the exception: its class -/
def hAs (K : PySem.W.Frag) (c : Value) (i : Nat) (ts : TS) (tr : TH) : TH := fun cls D σ H => ∃ b, PySem.W.exmOne K cls c = some b ∧
  if b = true then ∀ ea, H ea = none → ts { D with nx := fun σ' H' => D.nx (σ'.set i none) H', bk := fun σ' H' => D.bk (σ'.set i none) H', ct := fun σ' H' => D.ct (σ'.set i none) H' } (σ.set i (some (.ref ea))) (upd H ea (.ext (IsEx ea cls))) else tr cls D σ H
/-- except C as n: suite -/
theorem ph_as {i : Nat} (hN : X.N.Nodup) (hi : X.N[i]? = some n) (hl : X.env.kindOf n = some .local) (hg : Gl X x) (hm : X.mg x = some c) (hS : ∀ ea, PSs (cxH X ea) (b₀ :: suite) ts) (hr : PH X rest tr) (hdb : (x == ("__debug__" : Str)) = false := by decide) :
    PH X (.ExceptHandler (some (.Name x np)) (some n) (b₀ :: suite) hpos :: rest) (hAs X.K c i ts tr) := by
  intro pins s σ H D ea cls a0 B I F f h
  obtain ⟨b, e, h⟩ := h
  have ex := (exc_new I F f).2.2.2.2.2
  refine wpAny_handleBy_cons (codeAny_handlers_test (ld_glob (I.toH (ea := ea)) hg hm ?_ hdb)) (by intro q; cases q)
  refine (PySem.W.exm_one I.kIn ex.ty e).here ?_
  cases b with
  | false => exact hr pins s σ H D ea cls a0 B I F f h
  | true =>
    refine codeAny_handlers_suite_as (lands_againW f fun h' f' up => ?_)
    have J := I.flown F f.1 f'.1 up
    obtain ⟨n0, n1, n2, n3, n4, ex'⟩ := exc_new J F f'
    have J1 : Inv X pins σ (upd H ea (.ext (IsEx ea cls))) { s with heap := h' } := J.adopt n0 n1 n2 n3 n4 ⟨ex', (let ⟨o, g, _⟩ := ex'; ⟨o, g⟩), fun h1 h2 ⟨o, g, k⟩ up => ⟨o, up o g, k⟩⟩
    refine store_ok (v := .ref ea) J1 hN hi (.inl hl) rfl (fun s2 J2 => ?_) (.inr hl)
    refine wpAny_mono (hS ea pins s2 _ _ _ J2.toH (h ea n0)) (fun fl s3 q => ?_) fun _ _ q => q.elim
    have fin : ∀ {σ' : L2.St} {H' : Hp} {Qf : Flow → Shared → Prop}, Inv (cxH X ea) pins σ' H' s3 → (∀ s4, Inv X pins (σ'.set i none) H' s4 → Qf fl s4) →
        wpAny (model X.prog X.w) X.A (do bindName X.env n .none; unbindBehindTheSuite X.env n hpos) (fun _ s4 => Qf fl s4) X.xe s3 := fun {σ' H' Qf} J3 k => nameGoes_ok (J3.ofH I.ok) hN hi hl fun s4 J4 => k s4 J4
    cases fl with
    | next => obtain ⟨σ', H', J3, q⟩ := q; exact fin J3 fun s4 J4 => ⟨_, H', J4, q⟩
    | brk => obtain ⟨σ', H', J3, q⟩ := q; exact fin J3 fun s4 J4 => ⟨_, H', J4, q⟩
    | cont => obtain ⟨σ', H', J3, q⟩ := q; exact fin J3 fun s4 J4 => ⟨_, H', J4, q⟩
    | ret u => obtain ⟨v, σ', H', J3, r, q⟩ := q; exact fin J3 fun s4 J4 => ⟨v, _, H', J4, r, q⟩
end
/-- the body's context: what is pinned around stays pinned -/
abbrev cxP (X : Cx) (pins : List (Addr × Obj)) : Cx := { X with pn := X.pn ++ pins }
section
variable {X : Cx} {pins : List (Addr × Obj)} {σ : L2.St} {H : Hp} {s : Shared}
theorem okP (o : X.Ok) : (cxP X pins).Ok := ⟨o.mod, o.kind, o.glob, o.blt, o.above, o.inj, o.has, o.cab, o.hd, o.frames, o.stk, o.exf, o.bs, o.bsz, o.noex, o.exfs, o.funs, o.frf⟩
theorem _root_.L2.Inv.toP (I : Inv X pins σ H s) : Inv (cxP X pins) [] σ H s := ⟨okP I.ok, I.os, I.bare, I.base, I.loc, I.cell, I.free, I.freeC, fun p hp => I.pin p (by simpa using hp), I.hok, I.len⟩
theorem _root_.L2.Inv.ofP (J : Inv (cxP X pins) [] σ H s) (o : X.Ok) : Inv X pins σ H s := ⟨o, J.os, J.bare, J.base, J.loc, J.cell, J.free, J.freeC, fun p hp => J.pin p (by simpa using hp), J.hok, J.len⟩
end
def tTry (tb : (Value → L2.St → Hp → Prop) → TS) (th : TH) : TS := fun D σ H => tb (fun cls σ' H' => th cls D σ' H') D σ H
theorem ps_try {X : Cx} {body : List Stmt} {h₀ : ExceptHandler} {hs : List ExceptHandler} {pos : Pos} {tb : (Value → L2.St → Hp → Prop) → TS} {th : TH} (T : Top1 X) (hex : X.ex = [])
    (hb : ∀ (pins : List (Addr × Obj)) (R : Value → L2.St → Hp → Prop), PSs ((cxP X pins).wish (XS (cxP X pins) R)) body (tb R)) (hh : PH X (h₀ :: hs) th) : PS X (.Try body (h₀ :: hs) [] [] pos) (tTry tb th) := by
  intro pins s σ H D I h
  have back : ∀ {σ' : L2.St} {H' : Hp} {s' : Shared} {E : Value → Shared → Prop}, Inv ((cxP X pins).wish E) [] σ' H' s' → Inv X pins σ' H' s' := fun J => (J.unwish).ofP I.ok
  refine wpAny_Try_except (wpAny_mono (hb pins (fun cls σ' H' => th cls D σ' H') [] s σ H D ((I.toP).wish _) h) (fun f s1 q => ?_) fun e s1 q => ?_)
  · cases f with
    | next =>
      obtain ⟨σ', H', J, q⟩ := q
      exact wpAny_execs_nil ⟨σ', H', back J, q⟩
    | brk => obtain ⟨σ', H', J, q⟩ := q; exact ⟨σ', H', back J, q⟩
    | cont => obtain ⟨σ', H', J, q⟩ := q; exact ⟨σ', H', back J, q⟩
    | ret u => obtain ⟨v, σ', H', J, r, q⟩ := q; exact ⟨v, σ', H', back J, r, q⟩
  · refine XS.note (X := cxP X pins) ⟨T.stk, T.frm⟩ q fun g ea cls a0 σ' H' B e1 J F hh' r => ?_
    subst e1
    refine wpAny_landsW hh' fun g2 f up => ?_
    have F' : Fl X pins H' B := ⟨F.hok, F.lnk, fun p hp => F.pin p (by simpa using hp)⟩
    have J' : Inv X pins σ' H' { s1 with heap := g2 } := (J.flown F hh'.1 f.1 up).ofP I.ok
    exact hh pins _ σ' H' D ea cls a0 B J' F' f r
/-! ### isinstance(e, C) -/
def clsV : V → Option Value
  | .ty T => some (.type T)
  | .ref C => some (.ref C)
  | _ => none
theorem call_isinstX {X : Cx} {K : PySem.W.Frag} (hK : X.K = K) : CallR X (.builtin "isinstance") (fun xs H Q => ∃ ea C cv c b, xs = [.ref ea, cv] ∧ H ea = some (.ext (IsEx ea (.ref C))) ∧ clsV cv = some c ∧ ExK K C ∧ PySem.W.kitOne K (.ref C) c = some b ∧ Q (.bl b) H) := by
  subst hK
  intro pins s σ H xs us Q I r h
  obtain ⟨ea, C, cv, c, b, rfl, he, hc, k, e, q⟩ := h
  obtain ⟨u, v, rfl, rx, rc⟩ := vals2 r
  cases (show u = Value.ref ea from rx)
  have ex : IsEx ea (.ref C) s.heap := (show ObjOk X.prog X.w H s.heap ea (.ext _) from I.hok ea _ he).1
  have ev : v = c := by
    cases cv <;> first | cases hc | skip
    all_goals exact rc
  subst ev
  exact PySem.W.kia_one (kitx_ex k) I.kIn ex e (fun z => nomatch z) fun tk => ⟨.bl b, H, I.tok tk, rfl, q⟩
/-- the name of an own class -/
theorem pe_cls {X : Cx} {x : Str} {C : Addr} {p : Pos} (hg : Gl X x) (hm : X.mg x = some (.ref C)) (hdb : (x == ("__debug__" : Str)) = false := by decide) : PE X (.Name x p) (tC (.ref C)) := pe_glob (v := .ref C) hg hm rfl hdb
end Sh

end
section
set_option Elab.async false
set_option linter.all false
set_option maxRecDepth 100000
set_option maxHeartbeats 4000000
namespace Sh
open PySem PySem.Spec PyProof.Rows L2
/-! ### the program's own error classes -/
abbrev veMro : List Value := [.type "ValueError", .type "Exception", .type "BaseException", .type "object"]
structure ECls (K : PySem.W.Frag) (mg : Str → Option Value) (base : Heap) (x : Str) (C : Addr) : Prop where
  own : OwnCls x C veMro "ValueError.__new__" mg base
  exk : ExK K C
theorem ECls.exc {K : PySem.W.Frag} {mg : Str → Option Value} {base : Heap} {x : Str} {C : Addr} (E : ECls K mg base x C) : Exc K mg base x C := ⟨E.own⟩
theorem ECls.bound {K : PySem.W.Frag} {mg : Str → Option Value} {base : Heap} {x : Str} {C : Addr} (E : ECls K mg base x C) : mg x = some (.ref C) := E.own.bound
/-- a class that the written part K tells, over any heap that has K -/
theorem own_in {K : PySem.W.Frag} {mg : Str → Option Value} {h : Heap} {x : Str} {C : Addr} {bm : List Value} {id : String} (X : K.In h) (b : mg x = some (.ref C)) (q : PySem.W.excIn K C bm id = true) : OwnCls x C bm id mg h := by
  constructor
  · exact b
  · revert q
    unfold PySem.W.excIn
    cases lk : K.lookup C with
    | none => intro q; cases q
    | some o =>
      rcases o with ⟨cl, dd, da, sl⟩
      intro q
      split at q
      · rename_i heq
        cases heq
        rename_i cd
        rcases cd with ⟨nm, bs, mro, ns, qn, hd, sn, sub, ab, col, del⟩
        split at q
        · rename_i m1 m2
          simp only [Bool.and_eq_true, beq_iff_eq, Bool.not_eq_true'] at q
          rcases q with ⟨⟨⟨⟨⟨c1, c2⟩, c3⟩, c4⟩, c5⟩, c6⟩
          subst c1; subst c2
          have e1 : mro = _ := m1
          have e3 : del = false := c3
          subst e1; subst e3
          have e2 := congrArg List.toArray m2
          rw [Array.toArray_toList] at e2
          subst e2
          exact ⟨_, _, _, _, _, _, _, _, _, _, _, _, _, _, _, _, _, X _ _ lk, .of_isNs (PySem.W.isNs_of_in X c5), PySem.W.nsMap_none_of_in X c5 c6, PySem.W.tail_of_in X c4⟩
        · cases q
      · cases q
theorem ecls_mk {K : PySem.W.Frag} {mg : Str → Option Value} {base : Heap} {x : Str} {C : Addr} (X : K.In base) (b : mg x = some (.ref C)) (q : PySem.W.excIn K C veMro "ValueError.__new__" = true)
    (ga : PySem.W.findIn K (.ref C) "__getattribute__" = some (some (.builtin "BaseException.__getattribute__"))) (gn : PySem.W.findIn K (.ref C) "__getattr__" = some none) (ca : PySem.W.findIn K (.ref C) "__class__" = some (some (.builtin "object.__class__")))
    (ob : PySem.W.mroIn K C (.type "object") = some true) (be : PySem.W.mroIn K C (.type "BaseException") = some true) : ECls K mg base x C := by
  refine ⟨own_in X b q, ⟨ga, gn, ca, ob, be, ?_⟩⟩
  unfold PySem.W.mroIn at ob
  cases e : PySem.W.clsIn K C with
  | none => rw [e] at ob; cases ob
  | some cd => rfl
theorem boot_ValueError : bootBuiltins "ValueError" = some (.type "ValueError") := by decide +kernel
theorem pe_ty_ValueError {X : Cx} {p : Pos} (h : X.mg "ValueError" = none) (hg : Gl X "ValueError") : PE X (.Name "ValueError" p) (tC (.ty "ValueError")) := pe_bltn hg h boot_ValueError rfl
/-! ### words that come back -/
mutual
theorem chg_chg {g g' : Int → Int → Wd} {f : Int → Int → Int} (hf : ∀ n d, g n d = .var (f n d)) : ∀ (w : Wd) (d : Int), chg g' (chg g w d) d = chg (fun n d => g' (f n d) d) w d
  | .var n, d => by rw [chg, hf, chg, chg]
  | .node t nm ps, d => by rw [chg, chg, chg, chgL_chg hf ps _]
theorem chgL_chg {g g' : Int → Int → Wd} {f : Int → Int → Int} (hf : ∀ n d, g n d = .var (f n d)) : ∀ (ws : List Wd) (d : Int), chgL g' (chgL g ws d) d = chgL (fun n d => g' (f n d) d) ws d
  | [], d => by rw [chgL, chgL, chgL]
  | w :: ws, d => by rw [chgL, chgL, chgL, chg_chg hf w d, chgL_chg hf ws d]
end
theorem put_lift (tw w : Wd) (d : Int) : chg (gput tw) (chg (fun n d => .var (mvd 1 n d)) w d) d = w := by
  rw [chg_chg (f := mvd 1) fun _ _ => rfl]
  refine chg_id (fun n d => ?_) w d
  unfold gput mvd
  by_cases h : d ≤ n
  · rw [if_pos h, if_neg (by omega), if_pos (by omega)]
    congr 1; omega
  · rw [if_neg h, if_neg (by omega), if_neg (by omega)]
theorem low_lift (w : Wd) (d : Int) : chg (fun n d => .var (mvd (-1) n d)) (chg (fun n d => .var (mvd 1 n d)) w d) d = w := by
  rw [chg_chg (f := mvd 1) fun _ _ => rfl]
  refine chg_id (fun n d => ?_) w d
  unfold mvd
  by_cases h : d ≤ n
  · rw [if_pos h, if_pos (by omega)]
    congr 1; omega
  · rw [if_neg h, if_neg h]
mutual
theorem lift_low : ∀ (w : Wd) (d : Int), (0 : Int) ∉ frees w d → chg (fun n d => .var (mvd 1 n d)) (chg (fun n d => .var (mvd (-1) n d)) w d) d = w
  | .var n, d, h => by
    rw [frees] at h
    rw [chg, chg]
    by_cases l : d ≤ n
    · rw [if_pos l] at h
      have hne : n - d ≠ 0 := fun e => h (by rw [e]; exact List.mem_cons_self ..)
      unfold mvd
      rw [if_pos l, if_pos (by omega)]
      congr 1; omega
    · unfold mvd
      rw [if_neg l, if_neg l]
  | .node t nm ps, d, h => by
    rw [frees] at h
    rw [chg, chg, liftL_low ps _ h]
theorem liftL_low : ∀ (ws : List Wd) (d : Int), (0 : Int) ∉ freesL ws d → chgL (fun n d => .var (mvd 1 n d)) (chgL (fun n d => .var (mvd (-1) n d)) ws d) d = ws
  | [], d, h => by rw [chgL, chgL]
  | w :: ws, d, h => by
    rw [freesL, List.mem_append] at h
    rw [chgL, chgL, lift_low w d (fun z => h (.inl z)), liftL_low ws d fun z => h (.inr z)]
end
mutual
theorem lift_frees : ∀ (w : Wd) (d : Int), (0 : Int) ∉ frees (chg (fun n d => .var (mvd 1 n d)) w d) d
  | .var n, d => by
    rw [chg, frees, mvd]
    split
    · split
      · intro h
        rcases List.mem_cons.mp h with h | h
        · omega
        · cases h
      · intro h; cases h
    · intro h; cases h
  | .node t nm ps, d => by rw [chg, frees]; exact liftL_frees ps _
theorem liftL_frees : ∀ (ws : List Wd) (d : Int), (0 : Int) ∉ freesL (chgL (fun n d => .var (mvd 1 n d)) ws d) d
  | [], d => by rw [chgL, freesL]; intro h; cases h
  | w :: ws, d => by
    rw [chgL, freesL, List.mem_append]
    rintro (h | h)
    · exact lift_frees w d h
    · exact liftL_frees ws d h
end
mutual
theorem her_chg {f : Int → Int → Int} : ∀ (w : Wd) (d : Int), Her noOk w → Her noOk (chg (fun n d => .var (f n d)) w d)
  | .var n, d, h => by rw [chg]; exact fun nm ps e => by cases e
  | .node t nm ps, d, h => by
    rw [chg]
    refine ⟨fun nm' ps' e => ?_, herL_chg ps _ h.2⟩
    cases e
    have := h.1 nm ps rfl
    rw [this, chgL]
theorem herL_chg {f : Int → Int → Int} : ∀ (ws : List Wd) (d : Int), HerL noOk ws → HerL noOk (chgL (fun n d => .var (f n d)) ws d)
  | [], d, h => by rw [chgL]; exact True.intro
  | w :: ws, d, h => by rw [chgL]; exact ⟨her_chg w d h.1, herL_chg ws d h.2⟩
end
mutual
theorem knots_chg {f : Int → Int → Int} : ∀ (w : Wd) (d : Int), knots (chg (fun n d => .var (f n d)) w d) = knots w
  | .var n, d => by rw [chg, knots, knots]
  | .node t nm ps, d => by rw [chg, knots, knots, knotsL_chg ps _]
theorem knotsL_chg {f : Int → Int → Int} : ∀ (ws : List Wd) (d : Int), knotsL (chgL (fun n d => .var (f n d)) ws d) = knotsL ws
  | [], d => by rw [chgL]
  | w :: ws, d => by rw [chgL, knotsL, knotsL, knots_chg w d, knotsL_chg ws d]
end
theorem inV_int {k : Int} {xs : List Int} : inV (.int k) (xs.map V.int) = true ↔ k ∈ xs := by
  unfold inV
  rw [List.any_eq_true]
  constructor
  · rintro ⟨y, hy, e⟩
    obtain ⟨i, hi, rfl⟩ := List.mem_map.mp hy
    have : (i == k) = true := e
    rw [← beq_iff_eq.mp this]; exact hi
  · intro h
    exact ⟨.int k, List.mem_map_of_mem h, by show (k == k) = true; exact beq_self_eq_true k⟩
end Sh

end
section
set_option Elab.async false
set_option linter.all false
set_option maxRecDepth 100000
set_option maxHeartbeats 4000000
namespace Sh
open PySem PySem.Spec PyProof.Rows L2
/-! ### methods that may raise, called within X.wish (XS X R) -/
section
variable {X : Cx} {R : Value → L2.St → Hp → Prop} {pins : List (Addr × Obj)} {σ : L2.St} {H : Hp} {s : Shared} {k : Nat} {f C : Addr} {fd : FuncData} {ps : List Str} {sp : Sp} {ds : List Value} {dvs : List V} {m : Str} {pos apos : Pos} {e o : Expr} {es : List Expr} {ta : TE} {t : TA}
/-- the callee runs; what it raises reaches X -/
theorem run_fnX {Q : VK} {us : List Value} {vs : List V} (F : FnOk X.prog X.w X.K X.mg X.base (CX1 X.prog X.w) k f fd ps sp) (hex : X.ex = []) (hr : Room k X.A) (hb : Binds X.K fd ps ds) (hd : Vals dvs ds) (I : Inv (X.wish (XS X R)) pins σ H s) (r : Vals vs us)
    (h : sp (vs ++ dvs) H Q fun cls _ H' => R cls σ H') : wpAny (model X.prog X.w) X.A (call (.ref f) us) (EP (X.wish (XS X R)) pins σ Q) (XS X R) s := by
  have r2 : Vals (vs ++ dvs) (us ++ ds) := r.append hd
  have hl : (us ++ ds).length = ps.length := by
    rw [← r2.length]
    exact F.len _ _ _ _ h
  refine wpAny_call (codeAny_mono (F.run X.A X.stack s H ⟨us, []⟩ (us ++ ds) (vs ++ dvs) Q _ hr I.unwish.env0 (hb s us I.kIn hl) r2 h) fun rs s' z => ?_)
  cases rs with
  | error x => exact XS.of_call I.unwish hex z
  | ok fl =>
    cases fl with
    | ret u =>
      obtain ⟨v, H2, J, rv, q⟩ := I.unwish.after z
      exact ⟨v, H2, J.wish _, rv, q⟩
    | next => exact z.elim
    | brk => exact z.elim
    | cont => exact z.elim
def tMethX (C : Addr) (m : Str) (sp : Sp) (dvs : List V) (R : Value → L2.St → Hp → Prop) (ta : TE) (t : TA) : TE := fun σ H Q => ta σ H fun x H1 => ∃ a dx fs, x = .ref a ∧ H1 a = some (.ins C dx fs) ∧ fs.lookup m = none ∧
  t σ H1 fun vs H2 => sp (x :: (vs ++ dvs)) H2 Q fun cls _ H' => R cls σ H'
theorem pe_methX {pl : Sem Bool} (he : PE (X.wish (XS X R)) o ta) (c : Cls X.K C) (hm : Meth X.K C m f) (F : FnOk X.prog X.w X.K X.mg X.base (CX1 X.prog X.w) k f fd ps sp) (hex : X.ex = []) (hr : Room k X.A) (hb : Binds X.K fd ps ds) (hd : Vals dvs ds) (ha : PA (X.wish (XS X R)) (e :: es) t)
    (hst : starEach (e :: es) X.env = (false, eval e X.env) :: starEach es X.env := by rfl) (hpl : (backTo pos (starEach es X.env)).any (·.1) = false := by rfl)
    (ht : eval (.Call (.Attribute o m apos) (e :: es) [] pos) X.env = (do
      let ov ← eval o X.env
      standAt apos.atName
      let (f, first) ← holding [ov] (getMethod ov m pl)
      callWith pos f first (backTo pos (starEach (e :: es) X.env)) (backToKw pos (keywordEach [] X.env))) := by rfl) :
    PE (X.wish (XS X R)) (.Call (.Attribute o m apos) (e :: es) [] pos) (tMethX C m sp dvs R ta t) := by
  intro pins s σ H Q I h
  refine PySem.W.methodCall_KW (pl := pl) (thn (he pins s σ H _ I h) fun u s1 ⟨x, H1, I1, rx, a, dx, fs, ex, ea, l, q⟩ => ?_) ht
  subst ex
  obtain rfl : u = Value.ref a := rx
  refine getmeth_ok I1 ea c hm l ?_
  refine PySem.W.callWith_K (first := [.ref a]) (h₀ := X.base) I.ok.mod.kin hm.kp (thn (ha pos pins s1 σ H1 _ I1 q) fun us s2 ⟨vs, H2, I2, r, q2⟩ => ⟨I2.kIn, ?_⟩) hst hpl
  exact run_fnX (us := .ref a :: us) (vs := .ref a :: vs) F hex hr hb hd I2 (.cons rfl r) q2
theorem pe_meth0X {pl : Sem Bool} (he : PE (X.wish (XS X R)) o ta) (c : Cls X.K C) (hm : Meth X.K C m f) (F : FnOk X.prog X.w X.K X.mg X.base (CX1 X.prog X.w) k f fd ps sp) (hex : X.ex = []) (hr : Room k X.A) (hb : Binds X.K fd ps ds) (hd : Vals dvs ds)
    (ht : eval (.Call (.Attribute o m apos) [] [] pos) X.env = (do
      let ov ← eval o X.env
      standAt apos.atName
      let (f, first) ← holding [ov] (getMethod ov m pl)
      callWith pos f first (backTo pos (starEach [] X.env)) (backToKw pos (keywordEach [] X.env))) := by rfl) :
    PE (X.wish (XS X R)) (.Call (.Attribute o m apos) [] [] pos) (tMethX C m sp dvs R ta tNil) := by
  intro pins s σ H Q I h
  refine PySem.W.methodCall_KW (pl := pl) (thn (he pins s σ H _ I h) fun u s1 ⟨x, H1, I1, rx, a, dx, fs, ex, ea, l, q⟩ => ?_) ht
  subst ex
  obtain rfl : u = Value.ref a := rx
  refine getmeth_ok I1 ea c hm l ?_
  exact PySem.W.callWith_K0 (first := [.ref a]) I1.kIn hm.kp (run_fnX (us := [.ref a]) (vs := [.ref a]) F hex hr hb hd I1 (.cons rfl .nil) q)
end
end Sh

end
section
set_option Elab.async false
set_option linter.all false
set_option maxRecDepth 100000
set_option maxHeartbeats 4000000
namespace Sh
open PySem PySem.Spec PyProof.Rows L2
/-! ### data that are equal: ints, texts, tuples within tuples -/
mutual
def deq : Dt → Dt → Bool
  | .int a, .int b => a == b
  | .str a, .str b => a == b
  | .tup xs, .tup ys => deqL xs ys
  | _, _ => false
def deqL : List Dt → List Dt → Bool
  | [], [] => true
  | x :: xs, y :: ys => deq x y && deqL xs ys
  | _, _ => false
end
mutual
theorem deq_iff : ∀ a b : Dt, deq a b = true ↔ a = b
  | .int a, .int b => by rw [deq, beq_iff_eq]; exact ⟨fun e => by rw [e], fun e => by injection e⟩
  | .str a, .str b => by rw [deq, beq_iff_eq]; exact ⟨fun e => by rw [e], fun e => by injection e⟩
  | .tup xs, .tup ys => by rw [deq, deqL_iff xs ys]; exact ⟨fun e => by rw [e], fun e => by injection e⟩
  | .int a, .str b => by simp [deq]
  | .int a, .tup b => by simp [deq]
  | .str a, .int b => by simp [deq]
  | .str a, .tup b => by simp [deq]
  | .tup a, .int b => by simp [deq]
  | .tup a, .str b => by simp [deq]
theorem deqL_iff : ∀ a b : List Dt, deqL a b = true ↔ a = b
  | [], [] => by rw [deqL]; exact ⟨fun _ => rfl, fun _ => rfl⟩
  | x :: xs, y :: ys => by
    rw [deqL, Bool.and_eq_true, deq_iff x y, deqL_iff xs ys]
    exact ⟨fun ⟨e1, e2⟩ => by rw [e1, e2], fun e => by injection e with e1 e2; exact ⟨e1, e2⟩⟩
  | [], y :: ys => by simp [deqL]
  | x :: xs, [] => by simp [deqL]
end
/-- the value tells its data -/
theorem Rd.inj {H : Hp} {d d' : Dt} {v : V} (h : Rd H d v) (h' : Rd H d' v) : d = d' := by
  have both : (∀ (d : Dt) (d' : Dt) (v : V), Rd H d v → Rd H d' v → d = d') ∧ (∀ (ds ds' : List Dt) (vs : List V), Rds H ds vs → Rds H ds' vs → ds = ds') := by
    have key : ∀ n : Nat, (∀ (d d' : Dt) (v : V), ddep d ≤ n → Rd H d v → Rd H d' v → d = d') := by
      intro n
      induction n with
      | zero => intro d d' v hd; have := ddep_pos d; omega
      | succ n ih =>
        have lists : ∀ (ds ds' : List Dt) (vs : List V), ddepL ds ≤ n → Rds H ds vs → Rds H ds' vs → ds = ds' := by
          intro ds
          induction ds with
          | nil =>
            intro ds' vs _ h h'
            rw [Rds] at h
            subst h
            cases ds' with
            | nil => rfl
            | cons d r => rw [Rds] at h'; obtain ⟨_, _, e, _⟩ := h'; cases e
          | cons d r ihr =>
            intro ds' vs hd h h'
            rw [Rds] at h
            obtain ⟨v, us, rfl, h1, h2⟩ := h
            cases ds' with
            | nil => rw [Rds] at h'; cases h'
            | cons d' r' =>
              rw [Rds] at h'
              obtain ⟨v', us', e, h1', h2'⟩ := h'
              cases e
              rw [ddepL] at hd
              rw [ih d d' v (by omega) h1 h1', ihr r' us (by omega) h2 h2']
        intro d d' v hd h h'
        cases d with
        | int i =>
          rw [Rd] at h; subst h
          cases d' with
          | int j => rw [Rd] at h'; cases h'; rfl
          | str y => rw [Rd] at h'; cases h'
          | tup ds => rw [Rd] at h'; obtain ⟨_, _, e, _⟩ := h'; cases e
        | str x =>
          rw [Rd] at h; subst h
          cases d' with
          | int j => rw [Rd] at h'; cases h'
          | str y => rw [Rd] at h'; cases h'; rfl
          | tup ds => rw [Rd] at h'; obtain ⟨_, _, e, _⟩ := h'; cases e
        | tup ds =>
          rw [Rd] at h
          obtain ⟨a, vs, rfl, ha, hr⟩ := h
          cases d' with
          | int j => rw [Rd] at h'; cases h'
          | str y => rw [Rd] at h'; cases h'
          | tup ds' =>
            rw [Rd] at h'
            obtain ⟨a', vs', e, ha', hr'⟩ := h'
            cases e
            rw [ha] at ha'; cases ha'
            rw [ddep] at hd
            rw [lists ds ds' vs (by omega) hr hr']
    refine ⟨fun d d' v h h' => key (ddep d) d d' v (Nat.le_refl _) h h', fun ds ds' vs h h' => ?_⟩
    have l1 := h.length
    have l2 := h'.length
    refine List.ext_getElem? fun i => ?_
    cases q : vs[i]? with
    | none =>
      have : vs.length ≤ i := by rw [List.getElem?_eq_none_iff] at q; exact q
      rw [List.getElem?_eq_none (by omega), List.getElem?_eq_none (by omega)]
    | some v =>
      obtain ⟨d, e1, r1⟩ := h.get q
      obtain ⟨d', e2, r2⟩ := h'.get q
      rw [e1, e2, key (ddep d) d d' v (Nat.le_refl _) r1 r2]
  exact both.1 d d' v h h'
end Sh
namespace Sh
open PySem PySem.Spec PyProof.Rows L2
def eqJ (a b : List Dt) (j : Nat) : Bool := match a[j]?, b[j]? with
  | some x, some y => deq x y
  | _, _ => false
theorem all_eqJ (a b : List Dt) : ((List.range (min a.length b.length)).all (eqJ a b) && a.length == b.length) = deqL a b := by
  rw [Bool.eq_iff_iff, deqL_iff, Bool.and_eq_true, List.all_eq_true, beq_iff_eq]
  constructor
  · rintro ⟨h, hl⟩
    refine List.ext_getElem hl fun i h1 h2 => ?_
    have q := h i (List.mem_range.mpr (by omega))
    unfold eqJ at q
    rw [List.getElem?_eq_getElem h1, List.getElem?_eq_getElem h2] at q
    exact (deq_iff _ _).mp q
  · rintro rfl
    refine ⟨fun i hi => ?_, rfl⟩
    have h1 : i < a.length := by have := List.mem_range.mp hi; omega
    unfold eqJ
    rw [List.getElem?_eq_getElem h1]
    exact (deq_iff _ _).mpr rfl
section
variable {X : Cx} {pins : List (Addr × Obj)} {σ : L2.St} {H : Hp} {s : Shared}
theorem tupAt (I : Inv X pins σ H s) {a : Addr} {xs : List V} (h : H a = some (.tup xs)) : ∃ its : List Value, Vals xs its ∧ s.heap.IsTuple a its.toArray := by
  obtain ⟨its, r, p, _⟩ := I.tup1 h
  exact ⟨its, r, p⟩
/-- == of data, item by item -/
theorem eqAt_D (I : Inv X pins σ H s) : ∀ (n : Nat) (A : Around) (d e : Dt) (x y : V) (u v : Value), ddep d ≤ n → A.units + n < cLine → Rd H d x → Rd H e y → RelV x u → RelV y v → SeqAt.EqAt A s u v (deq d e) := by
  intro n
  induction n with
  | zero => intro A d e x y u v hd; have := ddep_pos d; omega
  | succ n ih =>
    intro A d e x y u v hd hu h h' r r'
    have hu' : A.units < cLine := by omega
    cases d with
    | int i =>
      rw [Rd] at h; subst h; obtain ⟨t, rfl⟩ := r
      cases e with
      | int j => rw [Rd] at h'; subst h'; obtain ⟨t', rfl⟩ := r'; rw [deq]; exact SeqAt.EqAt.int_int i t j t'
      | str j => rw [Rd] at h'; subst h'; obtain ⟨t', rfl⟩ := r'; rw [show deq (.int i) (.str j) = false by simp [deq]]; exact SeqAt.EqAt.int_str i t j t'
      | tup ds =>
        rw [Rd] at h'; obtain ⟨b, ys, rfl, hb, _⟩ := h'; cases r'
        obtain ⟨its, _, p⟩ := tupAt I hb
        rw [show deq (.int i) (.tup ds) = false by simp [deq]]; exact SeqAt.EqAt.int_tuple i t p hu'
    | str i =>
      rw [Rd] at h; subst h; obtain ⟨t, rfl⟩ := r
      cases e with
      | int j => rw [Rd] at h'; subst h'; obtain ⟨t', rfl⟩ := r'; rw [show deq (.str i) (.int j) = false by simp [deq]]; exact SeqAt.EqAt.str_int i t j t'
      | str j => rw [Rd] at h'; subst h'; obtain ⟨t', rfl⟩ := r'; rw [deq]; exact SeqAt.EqAt.str_str i t j t'
      | tup ds =>
        rw [Rd] at h'; obtain ⟨b, ys, rfl, hb, _⟩ := h'; cases r'
        obtain ⟨its, _, p⟩ := tupAt I hb
        rw [show deq (.str i) (.tup ds) = false by simp [deq]]; exact SeqAt.EqAt.str_tuple i t p hu'
    | tup ds =>
      have h0 := h
      rw [Rd] at h; obtain ⟨a, xs, rfl, ha, hx⟩ := h; cases r
      obtain ⟨its, ri, p⟩ := tupAt I ha
      cases e with
      | int j => rw [Rd] at h'; subst h'; obtain ⟨t', rfl⟩ := r'; rw [show deq (.tup ds) (.int j) = false by simp [deq]]; exact SeqAt.EqAt.tuple_int j t' p hu'
      | str j => rw [Rd] at h'; subst h'; obtain ⟨t', rfl⟩ := r'; rw [show deq (.tup ds) (.str j) = false by simp [deq]]; exact SeqAt.EqAt.tuple_str j t' p hu'
      | tup es =>
        have h0' := h'
        rw [Rd] at h'; obtain ⟨b, ys, rfl, hb, hy⟩ := h'; cases r'
        obtain ⟨its', ri', p'⟩ := tupAt I hb
        by_cases hab : a = b
        · subst hab
          rw [(deq_iff _ _).mpr (Rd.inj h0 h0')]
          exact SeqAt.EqAt.same _
        · have l1 := hx.length
          have l2 := hy.length
          have l3 := ri.length
          have l4 := ri'.length
          rw [deq, ← all_eqJ, ← l1, ← l2, l3, l4]
          refine SeqAt.EqAt.of_refs hab ?_
          have z := SeqAt.RcAt.tuples (A := A) (e := eqJ ds es) p p' hu' fun j h1 h2 => ?_
          · simpa using z
          · have j1 : j < xs.length := by rw [l3]; simpa using h1
            have j2 : j < ys.length := by rw [l4]; simpa using h2
            obtain ⟨d1, e1, r1⟩ := hx.get (List.getElem?_eq_getElem j1)
            obtain ⟨d2, e2, r2⟩ := hy.get (List.getElem?_eq_getElem j2)
            obtain ⟨u1, f1, q1⟩ := ri.get (List.getElem?_eq_getElem j1)
            obtain ⟨u2, f2, q2⟩ := ri'.get (List.getElem?_eq_getElem j2)
            have g1 : its.toArray[j] = u1 := by
              have := List.getElem?_eq_some_iff.mp f1
              simpa using this.2
            have g2 : its'.toArray[j] = u2 := by
              have := List.getElem?_eq_some_iff.mp f2
              simpa using this.2
            have ej : eqJ ds es j = deq d1 d2 := by unfold eqJ; rw [e1, e2]
            rw [g1, g2, ej]
            have dm := ddepL_mem (List.mem_of_getElem? e1)
            rw [ddep] at hd
            exact ih A.in1 d1 d2 _ _ u1 u2 (by omega) (by show A.units + 1 + n < cLine; omega) r1 r2 q1 q2
end
/-- x == y of two tuples -/
def rEqD (n : Nat) : R2 := fun x y H Q => ∃ ds es, Rd H (.tup ds) x ∧ Rd H (.tup es) y ∧ ddep (.tup ds) ≤ n ∧ Q (.bl (deq (.tup ds) (.tup es))) H
theorem op_eqD {X : Cx} {n : Nat} (hu : X.A.units + n < cLine) : OpR X (compareOp .Eq) (rEqD n) := by
  intro pins s σ H x y u v Q I r r' h
  obtain ⟨ds, es, h, h', hd, q⟩ := h
  rw [Rd] at h h'
  obtain ⟨a, xs, rfl, ha, hx⟩ := h
  obtain ⟨b, ys, rfl, hb, hy⟩ := h'
  cases r
  cases r'
  obtain ⟨its, ri, p⟩ := tupAt I ha
  obtain ⟨its', ri', p'⟩ := tupAt I hb
  have l1 := hx.length
  have l2 := hy.length
  have l3 := ri.length
  have l4 := ri'.length
  refine SeqAt.eq_tupleAt (e := eqJ ds es) p p' (by omega) (fun j h1 h2 => ?_) ⟨.bl _, H, I, rfl, ?_⟩
  · have j1 : j < xs.length := by rw [l3]; simpa using h1
    have j2 : j < ys.length := by rw [l4]; simpa using h2
    obtain ⟨d1, e1, r1⟩ := hx.get (List.getElem?_eq_getElem j1)
    obtain ⟨d2, e2, r2⟩ := hy.get (List.getElem?_eq_getElem j2)
    obtain ⟨u1, f1, q1⟩ := ri.get (List.getElem?_eq_getElem j1)
    obtain ⟨u2, f2, q2⟩ := ri'.get (List.getElem?_eq_getElem j2)
    have g1 : its.toArray[j] = u1 := by
      have := List.getElem?_eq_some_iff.mp f1
      simpa using this.2
    have g2 : its'.toArray[j] = u2 := by
      have := List.getElem?_eq_some_iff.mp f2
      simpa using this.2
    have ej : eqJ ds es j = deq d1 d2 := by unfold eqJ; rw [e1, e2]
    rw [g1, g2, ej]
    have dm := ddepL_mem (List.mem_of_getElem? e1)
    rw [ddep] at hd
    exact eqAt_D I (n - 1) X.A.in1 d1 d2 _ _ u1 u2 (by omega) (by show X.A.units + 1 + (n - 1) < cLine; omega) r1 r2 q1 q2
  · rw [deq, ← all_eqJ, ← l1, ← l2, l3, l4] at q
    simpa using q
end Sh
namespace Sh
open PySem PySem.Spec PyProof.Rows L2
/-! ### x in a list or a tuple of data -/
noncomputable def hasD (H : Hp) (d : Dt) (u : Value) : Bool := @decide (∃ v, RelV v u ∧ Rd H d v) (Classical.propDecidable _)
theorem hasD_eq {H : Hp} {d e : Dt} {u : Value} {v : V} (r : RelV v u) (h : Rd H e v) : hasD H d u = deq e d := by
  unfold hasD
  rw [Bool.eq_iff_iff, @decide_eq_true_iff _ (Classical.propDecidable _), deq_iff]
  constructor
  · rintro ⟨v', r', h'⟩
    rw [RelV.inj r' r] at h'
    exact Rd.inj h h'
  · rintro rfl
    exact ⟨v, r, h⟩
theorem any_hasD {H : Hp} {d : Dt} : ∀ {ds : List Dt} {xs : List V} {its : List Value}, Rds H ds xs → Vals xs its → its.any (hasD H d) = ds.any fun e => deq e d
  | [], xs, its, h, r => by
    rw [Rds] at h
    subst h
    cases r
    rfl
  | e :: ds, xs, its, h, r => by
    rw [Rds] at h
    obtain ⟨v, us, rfl, h1, h2⟩ := h
    cases r with
    | cons r1 r2 => rw [List.any_cons, List.any_cons, hasD_eq r1 h1, any_hasD h2 r2]
theorem mem_has {H : Hp} {ds : List Dt} {xs : List V} {its : List Value} {u : Value} (h : Rds H ds xs) (r : Vals xs its) (m : u ∈ its) : ∃ e v, e ∈ ds ∧ RelV v u ∧ Rd H e v := by
  obtain ⟨i, hi, e⟩ := List.mem_iff_getElem.mp m
  have l := r.length
  have hi' : i < xs.length := by omega
  obtain ⟨d, e1, r1⟩ := h.get (List.getElem?_eq_getElem hi')
  obtain ⟨w, f1, q1⟩ := r.get (List.getElem?_eq_getElem hi')
  rw [List.getElem?_eq_getElem hi] at f1
  have f2 : its[i] = w := Option.some.inj f1
  rw [e] at f2
  subst f2
  exact ⟨d, _, List.mem_of_getElem? e1, q1, r1⟩
theorem any_mem {ds : List Dt} {d : Dt} : (ds.any fun e => deq e d) = true ↔ d ∈ ds := by
  rw [List.any_eq_true]
  exact ⟨fun ⟨e, m, q⟩ => by rw [← (deq_iff _ _).mp q]; exact m, fun m => ⟨d, m, (deq_iff _ _).mpr rfl⟩⟩
def rInD (K : PySem.W.Frag) (n : Nat) (neg : Bool) : R2 := fun x y H Q => ∃ p xs d ds, y = .ref p ∧ (SqL K H p xs ∨ SqT K H p xs) ∧ Rds H ds xs ∧ Rd H d x ∧ ddepL ds ≤ n ∧ Q (.bl (if neg then !(ds.any fun e => deq e d) else ds.any fun e => deq e d)) H
section
variable {X : Cx} {n : Nat}
theorem op_inD (hu : X.A.units + n + 1 < cLine) : OpR X (compareOp .In) (rInD X.K n false) := by
  intro pins s σ H x y u v Q I r r' h
  obtain ⟨p, xs, d, ds, rfl, hq, hx, hd, hn, q⟩ := h
  cases r'
  have each : ∀ {its : List Value}, Vals xs its → ∀ z ∈ its, SeqAt.EqAt X.A.in1 s z u (hasD H d z) := fun {its} ri z hz => by
    obtain ⟨e, w, m, rw', he⟩ := mem_has hx ri hz
    rw [hasD_eq rw' he]
    have := ddepL_mem m
    exact eqAt_D I n X.A.in1 e d w x z u (by omega) (by show X.A.units + 1 + n < cLine; omega) he hd rw' r
  rcases hq with hq | hq
  · obtain ⟨its, ri, pl, _⟩ := I.list hq
    refine SeqAt.in_listAt (hasD H d) pl.isList (fun z hz => each ri z (by simpa using hz)) ⟨.bl _, H, I, rfl, ?_⟩
    rw [show its.toArray.any (hasD H d) = its.any (hasD H d) by simp, any_hasD hx ri]
    exact q
  · obtain ⟨its, ri, pl, _⟩ := I.tuple hq
    refine SeqAt.in_tupleAt (hasD H d) pl (fun z hz => each ri z (by simpa using hz)) ⟨.bl _, H, I, rfl, ?_⟩
    rw [show its.toArray.any (hasD H d) = its.any (hasD H d) by simp, any_hasD hx ri]
    exact q
theorem op_notInD (hu : X.A.units + n + 1 < cLine) : OpR X (compareOp .NotIn) (rInD X.K n true) := by
  intro pins s σ H x y u v Q I r r' h
  obtain ⟨p, xs, d, ds, rfl, hq, hx, hd, hn, q⟩ := h
  cases r'
  have each : ∀ {its : List Value}, Vals xs its → ∀ z ∈ its, SeqAt.EqAt X.A.in1 s z u (hasD H d z) := fun {its} ri z hz => by
    obtain ⟨e, w, m, rw', he⟩ := mem_has hx ri hz
    rw [hasD_eq rw' he]
    have := ddepL_mem m
    exact eqAt_D I n X.A.in1 e d w x z u (by omega) (by show X.A.units + 1 + n < cLine; omega) he hd rw' r
  rcases hq with hq | hq
  · obtain ⟨its, ri, pl, _⟩ := I.list hq
    refine SeqAt.notIn_listAt (hasD H d) pl.isList (fun z hz => each ri z (by simpa using hz)) ⟨.bl _, H, I, rfl, ?_⟩
    rw [show its.toArray.any (hasD H d) = its.any (hasD H d) by simp, any_hasD hx ri]
    exact q
  · obtain ⟨its, ri, pl, _⟩ := I.tuple hq
    refine SeqAt.notIn_tupleAt (hasD H d) pl (fun z hz => each ri z (by simpa using hz)) ⟨.bl _, H, I, rfl, ?_⟩
    rw [show its.toArray.any (hasD H d) = its.any (hasD H d) by simp, any_hasD hx ri]
    exact q
end
end Sh

end
section
set_option Elab.async false
set_option linter.all false
set_option maxRecDepth 100000
set_option maxHeartbeats 4000000
namespace Sh
open PySem PySem.Spec PyProof.Rows L2
/-! ### dicts whose keys are data: tuples within tuples -/
instance decDt : DecidableEq Dt := fun a b => decidable_of_iff (deq a b = true) (deq_iff a b)
theorem decide_Dt (a b : Dt) : decide (a = b) = deq a b := by
  rw [Bool.eq_iff_iff, decide_eq_true_iff, deq_iff]
/-! data as the heap has them -/
mutual
def DtAt (h : Heap) : Dt → Value → Prop
  | .int i, u => ∃ t, u = .int i t
  | .str x, u => ∃ t, u = .str x t
  | .tup ds, u => ∃ a its, u = .ref a ∧ h.IsTuple a its ∧ DtsAt h ds its.toList
def DtsAt (h : Heap) : List Dt → List Value → Prop
  | [], us => us = []
  | d :: ds, us => ∃ u vs, us = u :: vs ∧ DtAt h d u ∧ DtsAt h ds vs
end
theorem tuple_one {h : Heap} {a : Addr} {x y : Array Value} (p : h.IsTuple a x) (q : h.IsTuple a y) : x = y := by
  obtain ⟨o, e1, _, n, e2⟩ := p
  obtain ⟨o', f1, _, m, f2⟩ := q
  cases e1.symm.trans f1
  rw [e2] at f2
  injection f2
mutual
theorem DtAt.inj {h : Heap} : ∀ (d e : Dt) (u : Value), DtAt h d u → DtAt h e u → d = e
  | .int i, e, u, x, y => by
    rw [DtAt] at x; obtain ⟨t, rfl⟩ := x
    cases e with
    | int j => rw [DtAt] at y; obtain ⟨_, y⟩ := y; cases y; rfl
    | str j => rw [DtAt] at y; obtain ⟨_, y⟩ := y; cases y
    | tup j => rw [DtAt] at y; obtain ⟨_, _, y, _⟩ := y; cases y
  | .str i, e, u, x, y => by
    rw [DtAt] at x; obtain ⟨t, rfl⟩ := x
    cases e with
    | int j => rw [DtAt] at y; obtain ⟨_, y⟩ := y; cases y
    | str j => rw [DtAt] at y; obtain ⟨_, y⟩ := y; cases y; rfl
    | tup j => rw [DtAt] at y; obtain ⟨_, _, y, _⟩ := y; cases y
  | .tup ds, e, u, x, y => by
    rw [DtAt] at x; obtain ⟨a, its, rfl, p, x⟩ := x
    cases e with
    | int j => rw [DtAt] at y; obtain ⟨_, y⟩ := y; cases y
    | str j => rw [DtAt] at y; obtain ⟨_, y⟩ := y; cases y
    | tup es =>
      rw [DtAt] at y; obtain ⟨b, its', e, q, y⟩ := y
      cases e
      rw [tuple_one q p] at y
      rw [DtsAt.inj ds es _ x y]
theorem DtsAt.inj {h : Heap} : ∀ (ds es : List Dt) (us : List Value), DtsAt h ds us → DtsAt h es us → ds = es
  | [], es, us, x, y => by
    rw [DtsAt] at x; subst x
    cases es with
    | nil => rfl
    | cons e es => rw [DtsAt] at y; obtain ⟨_, _, y, _⟩ := y; cases y
  | d :: ds, es, us, x, y => by
    rw [DtsAt] at x; obtain ⟨u, vs, rfl, x1, x2⟩ := x
    cases es with
    | nil => rw [DtsAt] at y; cases y
    | cons e es =>
      rw [DtsAt] at y; obtain ⟨u', vs', q, y1, y2⟩ := y
      cases q
      rw [DtAt.inj d e u x1 y1, DtsAt.inj ds es vs x2 y2]
end
theorem DtsAt.length {h : Heap} : ∀ {ds : List Dt} {us : List Value}, DtsAt h ds us → us.length = ds.length
  | [], us, x => by rw [DtsAt] at x; subst x; rfl
  | d :: ds, us, x => by rw [DtsAt] at x; obtain ⟨u, vs, rfl, _, x⟩ := x; rw [List.length_cons, List.length_cons, x.length]
theorem DtsAt.get {h : Heap} : ∀ {ds : List Dt} {us : List Value} {i : Nat} {u : Value}, DtsAt h ds us → us[i]? = some u → ∃ d, ds[i]? = some d ∧ DtAt h d u
  | [], us, i, u, x, e => by rw [DtsAt] at x; subst x; simp at e
  | d :: ds, us, i, u, x, e => by
    rw [DtsAt] at x; obtain ⟨v, vs, rfl, x1, x2⟩ := x
    cases i with
    | zero => simp at e; subst e; exact ⟨d, by simp, x1⟩
    | succ i => obtain ⟨d', e1, r⟩ := x2.get (i := i) (by simpa using e); exact ⟨d', by simpa using e1, r⟩
mutual
theorem DtAt.stay {h h' : Heap} (k : ∀ a its, h.IsTuple a its → h'.IsTuple a its) : ∀ (d : Dt) (u : Value), DtAt h d u → DtAt h' d u
  | .int i, u, x => by rw [DtAt] at x ⊢; exact x
  | .str i, u, x => by rw [DtAt] at x ⊢; exact x
  | .tup ds, u, x => by
    rw [DtAt] at x ⊢
    obtain ⟨a, its, e, p, x⟩ := x
    exact ⟨a, its, e, k a its p, DtsAt.stay k ds _ x⟩
theorem DtsAt.stay {h h' : Heap} (k : ∀ a its, h.IsTuple a its → h'.IsTuple a its) : ∀ (ds : List Dt) (us : List Value), DtsAt h ds us → DtsAt h' ds us
  | [], us, x => by rw [DtsAt] at x ⊢; exact x
  | d :: ds, us, x => by
    rw [DtsAt] at x ⊢
    obtain ⟨u, vs, e, x1, x2⟩ := x
    exact ⟨u, vs, e, DtAt.stay k d u x1, DtsAt.stay k ds vs x2⟩
end
/-! the hash -/
mutual
def dHash (w : World) : Dt → Int
  | .int i => hashInt i
  | .str x => hashStr w x
  | .tup ds => reduceHash (Builtin.Tuple.tupleHashOf (dHashes w ds))
def dHashes (w : World) : List Dt → List Int
  | [] => []
  | d :: ds => dHash w d :: dHashes w ds
end
mutual
def dDraw : Dt → Nat
  | .int _ => 1
  | .str _ => 1
  | .tup ds => dDraws ds + 1
def dDraws : List Dt → Nat
  | [] => 0
  | d :: ds => dDraw d + dDraws ds
end
section
variable {prog : Program} {w : World} {E : Value → Shared → Prop}
mutual
theorem hash_D : ∀ (d : Dt) (u : Value) (A : Around) (s : Shared) (Q : Int → Shared → Prop), DtAt s.heap d u → A.units + ddep d < cLine → Q (dHash w d) { s with toks := s.toks + dDraw d } → wpAny (model prog w) A (pyHash u) Q E s
  | .int i, u, A, s, Q, x, hu, q => by
    rw [DtAt] at x; obtain ⟨t, rfl⟩ := x
    rw [dHash, dDraw] at q
    exact wpAny_pyHash_int q
  | .str i, u, A, s, Q, x, hu, q => by
    rw [DtAt] at x; obtain ⟨t, rfl⟩ := x
    rw [dHash, dDraw] at q
    exact wpAny_pyHash_str q
  | .tup ds, u, A, s, Q, x, hu, q => by
    rw [DtAt] at x; obtain ⟨a, its, rfl, ⟨o, ho, hc, n, hd⟩, x⟩ := x
    rw [ddep] at hu
    rw [dHash, dDraw] at q
    refine PySem.W.pyHash_slot (T := "tuple") ⟨o, ho, hc⟩ PySem.F.slot_tuple_hash PySem.F.entry_tuple_hash (PySem.F.args_tuple_hash_1 _) (beq_builtin_none _) (.inr (by omega)) ?_
    change wpAny _ _ (Builtin.Tuple.tupleItemsOf (.ref a) >>= _) _ _ s
    refine wpAny_bind (wpAny_tupleItemsOf ho hd (wpAny_bind ?_))
    rw [← Array.forIn_toList]
    exact hash_Ds ds its.toList A.in1 s #[] _ x (by show A.units + 1 + ddepL ds < cLine; omega) fun b hb => by
      change wpAny _ _ (retInt (Builtin.Tuple.tupleHashOf b.toList)) _ _ _
      rw [show b.toList = dHashes w ds by simpa using hb]
      exact wpAny_bind (wpAny_mkInt (wpAny_pure ⟨_, _, rfl, q⟩))
theorem hash_Ds : ∀ (ds : List Dt) (us : List Value) (A : Around) (s : Shared) (b : Array Int) (Q : Array Int → Shared → Prop), DtsAt s.heap ds us → A.units + ddepL ds < cLine →
    (∀ c : Array Int, c.toList = b.toList ++ dHashes w ds → Q c { s with toks := s.toks + dDraws ds }) →
    wpAny (model prog w) A (forIn us b fun x r => do let h ← pyHash x; pure PUnit.unit; pure (ForInStep.yield (r.push h))) Q E s
  | [], us, A, s, b, Q, x, hu, q => by
    rw [DtsAt] at x; subst x
    exact wpAny_pure (q b (by simp [dHashes]))
  | d :: ds, us, A, s, b, Q, x, hu, q => by
    rw [DtsAt] at x; obtain ⟨u, vs, rfl, x1, x2⟩ := x
    rw [ddepL] at hu
    rw [List.forIn_cons]
    refine wpAny_bind (wpAny_bind (hash_D d u A s _ x1 (by omega) (wpAny_bind (wpAny_pure (wpAny_pure ?_)))))
    refine hash_Ds ds vs A { s with toks := s.toks + dDraw d } _ Q x2 (by omega) fun c hc => ?_
    have := q c (by rw [hc]; simp [dHashes])
    rw [dDraws, ← Nat.add_assoc] at this
    exact this
end
end
end Sh
namespace Sh
open PySem PySem.Spec PyProof.Rows L2
section
variable {prog : Program} {w : World} {E : Value → Shared → Prop}
/-- == of data is quiet: it runs no code of one's own -/
theorem quiet_D {A : Around} {s : Shared} : ∀ (n : Nat) (d : Dt) (u : Value) (Q : Bool → Shared → Prop), ddep d ≤ n → DtAt s.heap d u → Q true s → wpAny (model prog w) A (eqIsQuiet n u) Q E s := by
  intro n
  induction n with
  | zero => intro d u Q hd; have := ddep_pos d; omega
  | succ n ih =>
    intro d u Q hd x q
    cases d with
    | int i => rw [DtAt] at x; obtain ⟨t, rfl⟩ := x; rw [eqIsQuiet_byValue _ rfl]; exact wpAny_pure q
    | str i => rw [DtAt] at x; obtain ⟨t, rfl⟩ := x; rw [eqIsQuiet_byValue _ rfl]; exact wpAny_pure q
    | tup ds =>
      rw [DtAt] at x; obtain ⟨a, its, rfl, ⟨o, ho, hc, m, hd'⟩, x⟩ := x
      rw [ddep] at hd
      have ty : s.TypeIs (.ref a) "tuple" := ⟨o, ho, hc⟩
      rw [eqIsQuiet]
      refine wpAny_bind (wpAny_specialOf ty PySem.F.slot_tuple_eq.lookup ?_)
      change wpAny _ _ (isInstance (.ref a) (.type "tuple") >>= _) _ _ s
      refine wpAny_bind (wpAny_isInstance ty isSubtype_tuple_tuple ?_)
      simp only [Bool.not_true, Bool.false_eq_true, if_false]
      refine wpAny_bind (wpAny_seqItems ho hd' (wpAny_bind ?_))
      change wpAny _ _ (forIn its _ _) _ _ s
      rw [← Array.forIn_toList]
      have items : ∀ z ∈ its.toList, ∃ e ∈ ds, DtAt s.heap e z := fun z hz => by
        obtain ⟨i, hi, e⟩ := List.mem_iff_getElem.mp hz
        obtain ⟨e', f, r⟩ := x.get (i := i) (u := z) (by rw [List.getElem?_eq_getElem hi, e])
        exact ⟨e', List.mem_of_getElem? f, r⟩
      refine wpAny_forIn_list _ (fun left r t => r.1 = none ∧ t = s ∧ ∀ z ∈ left, ∃ e ∈ ds, DtAt s.heap e z) _ ?_ ?_ _ _ ⟨rfl, rfl, items⟩
      · rintro z left r t ⟨hr, rfl, all⟩
        obtain ⟨e, he, ze⟩ := all z List.mem_cons_self
        have := ddepL_mem he
        refine wpAny_bind (ih e z _ (by omega) ze ?_)
        simp only [Bool.not_true, Bool.false_eq_true, if_false]
        exact wpAny_pure ⟨rfl, rfl, fun y hy => all y (List.mem_cons_of_mem _ hy)⟩
      · rintro ⟨r1, r2⟩ t ⟨hr, rfl, _⟩
        simp only at hr
        subst hr
        exact wpAny_pure q
end
/-- == of data, on the heap -/
theorem eqAt_At {s : Shared} : ∀ (n : Nat) (A : Around) (d e : Dt) (u v : Value), ddep d ≤ n → A.units + n < cLine → DtAt s.heap d u → DtAt s.heap e v → SeqAt.EqAt A s u v (deq d e) := by
  intro n
  induction n with
  | zero => intro A d e u v hd; have := ddep_pos d; omega
  | succ n ih =>
    intro A d e u v hd hu h h'
    have hu' : A.units < cLine := by omega
    cases d with
    | int i =>
      rw [DtAt] at h; obtain ⟨t, rfl⟩ := h
      cases e with
      | int j => rw [DtAt] at h'; obtain ⟨t', rfl⟩ := h'; rw [deq]; exact SeqAt.EqAt.int_int i t j t'
      | str j => rw [DtAt] at h'; obtain ⟨t', rfl⟩ := h'; rw [show deq (.int i) (.str j) = false by simp [deq]]; exact SeqAt.EqAt.int_str i t j t'
      | tup ds =>
        rw [DtAt] at h'; obtain ⟨b, ys, rfl, p, _⟩ := h'
        rw [show deq (.int i) (.tup ds) = false by simp [deq]]; exact SeqAt.EqAt.int_tuple i t p hu'
    | str i =>
      rw [DtAt] at h; obtain ⟨t, rfl⟩ := h
      cases e with
      | int j => rw [DtAt] at h'; obtain ⟨t', rfl⟩ := h'; rw [show deq (.str i) (.int j) = false by simp [deq]]; exact SeqAt.EqAt.str_int i t j t'
      | str j => rw [DtAt] at h'; obtain ⟨t', rfl⟩ := h'; rw [deq]; exact SeqAt.EqAt.str_str i t j t'
      | tup ds =>
        rw [DtAt] at h'; obtain ⟨b, ys, rfl, p, _⟩ := h'
        rw [show deq (.str i) (.tup ds) = false by simp [deq]]; exact SeqAt.EqAt.str_tuple i t p hu'
    | tup ds =>
      have h0 := h
      rw [DtAt] at h; obtain ⟨a, xs, rfl, p, hx⟩ := h
      cases e with
      | int j => rw [DtAt] at h'; obtain ⟨t', rfl⟩ := h'; rw [show deq (.tup ds) (.int j) = false by simp [deq]]; exact SeqAt.EqAt.tuple_int j t' p hu'
      | str j => rw [DtAt] at h'; obtain ⟨t', rfl⟩ := h'; rw [show deq (.tup ds) (.str j) = false by simp [deq]]; exact SeqAt.EqAt.tuple_str j t' p hu'
      | tup es =>
        have h0' := h'
        rw [DtAt] at h'; obtain ⟨b, ys, rfl, p', hy⟩ := h'
        by_cases hab : a = b
        · subst hab
          rw [(deq_iff _ _).mpr (DtAt.inj _ _ _ h0 h0')]
          exact SeqAt.EqAt.same _
        · have l1 := hx.length
          have l2 := hy.length
          rw [deq, ← all_eqJ, ← l1, ← l2]
          refine SeqAt.EqAt.of_refs hab ?_
          have z := SeqAt.RcAt.tuples (A := A) (e := eqJ ds es) p p' hu' fun j h1 h2 => ?_
          · simpa using z
          · obtain ⟨d1, e1, r1⟩ := hx.get (i := j) (u := xs[j]) (by simp)
            obtain ⟨d2, e2, r2⟩ := hy.get (i := j) (u := ys[j]) (by simp)
            have ej : eqJ ds es j = deq d1 d2 := by unfold eqJ; rw [e1, e2]
            rw [ej]
            have dm := ddepL_mem (List.mem_of_getElem? e1)
            rw [ddep] at hd
            exact ih A.in1 d1 d2 _ _ (by omega) (by show A.units + 1 + n < cLine; omega) r1 r2
/-- a key: a tuple of data, at most eight deep -/
def KeyAt (h : Heap) (d : Dt) (a : Addr) : Prop := DtAt h d (.ref a) ∧ ddep d ≤ 8
def deepKind (prog : Program) (w : World) : HeapKind prog w Dt where
  is := KeyAt
  hash := dHash w
  draws := dDraw
  room := fun A => A.units + 8 < cLine
  inj := fun x y => DtAt.inj _ _ _ x.1 y.1
  keeps := fun {h h' k a d o es ep} x ho hd hs => ⟨DtAt.stay (fun b its p => by
    obtain ⟨ob, e1, e2, n, e3⟩ := p
    have ne : b ≠ d := fun q => by subst q; cases ho.symm.trans e1; rw [hd] at e3; cases e3
    exact ⟨ob, (hs.2 b ne).trans e1, e2, n, e3⟩) _ _ x.1, x.2⟩
  pyHash := fun {A E s k a Q} hu hk q => hash_D k _ A s Q hk.1 (by have := hk.2; omega) q
  eqBool := fun {A E s x y a b Q} hu hx hy q => eqAt_At 8 A x y _ _ hx.2 hu hx.1 hy.1 prog w E Q (by rw [← decide_Dt]; exact q)
  quiet := fun {A E s k a Q} hk q => quiet_D 8 k _ Q hk.2 hk.1 q
end Sh

end
section
set_option Elab.async false
set_option linter.all false
set_option maxRecDepth 100000
set_option maxHeartbeats 4000000
namespace Sh
open PySem PySem.Spec PyProof.Rows L2
/-! ### dicts whose keys are data: {}, d.get(k, x), d[k] = x -/
/-- the data, the address that the key has, the value -/
abbrev DKv := List (Dt × Addr × V)
def lookN (kvs : DKv) (k : Dt) : Option V := (kvs.find? fun x => decide (x.1 = k)).map (·.2.2)
def setN (k : Dt) (v : V) (x : Dt × Addr × V) : Dt × Addr × V := if x.1 = k then (x.1, x.2.1, v) else x
def putN (kvs : DKv) (k : Dt) (a : Addr) (v : V) : DKv := if (lookN kvs k).isSome then kvs.map (setN k v) else kvs ++ [(k, a, v)]
def PN (p : Dt × Addr × V) (q : Dt × Addr × Value) : Prop := p.1 = q.1 ∧ p.2.1 = q.2.1 ∧ RelV p.2.2 q.2.2
theorem lookN_cons {p : Dt × Addr × V} {r : DKv} {k : Dt} : lookN (p :: r) k = if p.1 = k then some p.2.2 else lookN r k := by
  unfold lookN
  by_cases e : p.1 = k
  · simp [List.find?_cons, e]
  · simp [List.find?_cons, e]
theorem atKey_cons {p : Dt × Addr × Value} {r : List (Dt × Addr × Value)} {k : Dt} : atKey (p :: r) k = if p.1 = k then some p.2 else atKey r k := by
  unfold atKey
  by_cases e : p.1 = k
  · simp [List.find?_cons, e]
  · simp [List.find?_cons, e]
theorem look_rel {k : Dt} : ∀ {kvs : DKv} {xs : List (Dt × Addr × Value)}, Paired PN kvs xs → RelO (lookN kvs k) ((atKey xs k).map (·.2))
  | _, _, .nil => trivial
  | _, _, .cons (a := p) (b := q) r t => by
    rw [lookN_cons, atKey_cons, ← r.1]
    by_cases e : p.1 = k
    · rw [if_pos e, if_pos e]; exact r.2.2
    · rw [if_neg e, if_neg e]; exact look_rel t
theorem put_rel {k : Dt} {a : Addr} {v : V} {u : Value} (rv : RelV v u) {kvs : DKv} {xs : List (Dt × Addr × Value)} (h : Paired PN kvs xs) : Paired PN (putN kvs k a v) (storedH xs k a u) := by
  have hs : (lookN kvs k).isSome = (atKey xs k).isSome := by
    have := look_rel (k := k) h
    cases q : lookN kvs k <;> cases q' : atKey xs k <;> rw [q, q'] at this <;> first | rfl | exact False.elim this
  unfold putN storedH
  rw [hs]
  have maps : ∀ {kvs : DKv} {xs : List (Dt × Addr × Value)}, Paired PN kvs xs → Paired PN (kvs.map (setN k v)) (xs.map (putAt k u)) := by
    intro kvs xs h
    induction h with
    | nil => exact .nil
    | @cons p q _ _ r t ih =>
      refine .cons ?_ ih
      unfold setN putAt
      rw [← r.1]
      by_cases e : p.1 = k
      · rw [if_pos e, if_pos e]; exact ⟨rfl, r.2.1, rv⟩
      · rw [if_neg e, if_neg e]; exact r
  have snoc : ∀ {kvs : DKv} {xs : List (Dt × Addr × Value)}, Paired PN kvs xs → Paired PN (kvs ++ [(k, a, v)]) (xs ++ [(k, a, u)]) := by
    intro kvs xs h
    induction h with
    | nil => exact .cons ⟨rfl, rfl, rv⟩ .nil
    | cons r t ih => exact .cons r ih
  by_cases e : (atKey xs k).isSome = true
  · rw [if_pos e, if_pos e]; exact maps h
  · rw [if_neg e, if_neg e]; exact snoc h
theorem look_put {k j : Dt} {a : Addr} {v : V} (kvs : DKv) : lookN (putN kvs k a v) j = if j = k then some v else lookN kvs j := by
  have hm : ∀ kvs : DKv, lookN (kvs.map (setN k v)) j = if j = k then (lookN kvs k).map (fun _ => v) else lookN kvs j := by
    intro kvs
    induction kvs with
    | nil => by_cases e : j = k <;> simp [e, lookN]
    | cons p r ih =>
      rw [List.map_cons, lookN_cons, ih, lookN_cons, lookN_cons]
      unfold setN
      by_cases e : p.1 = k
      · rw [if_pos e, if_pos e]
        by_cases ej : j = k
        · simp only [if_pos ej, if_pos (show (p.1, p.2.1, v).1 = j from e.trans ej.symm)]; rfl
        · rw [if_neg ej, if_neg (show ¬ (p.1, p.2.1, v).1 = j from fun q => ej (q.symm.trans e)), if_neg (fun q : p.1 = j => ej (q.symm.trans e)), if_neg ej]
      · rw [if_neg e, if_neg e]
        by_cases ej : j = k
        · subst ej; rw [if_pos rfl, if_neg e, if_pos rfl]
        · rw [if_neg ej, if_neg ej]
  have ha : ∀ kvs : DKv, lookN kvs k = none → lookN (kvs ++ [(k, a, v)]) j = if j = k then some v else lookN kvs j := by
    intro kvs
    induction kvs with
    | nil =>
      intro _
      rw [List.nil_append, lookN_cons]
      by_cases e : j = k
      · rw [if_pos e, if_pos (show (k, a, v).1 = j from e.symm)]
      · rw [if_neg e, if_neg (show ¬ (k, a, v).1 = j from fun q => e q.symm)]
    | cons p r ih =>
      intro hn
      rw [lookN_cons] at hn
      by_cases e : p.1 = k
      · rw [if_pos e] at hn; cases hn
      · rw [if_neg e] at hn
        rw [List.cons_append, lookN_cons, ih hn, lookN_cons]
        by_cases ej : j = k
        · subst ej; rw [if_pos rfl, if_neg e, if_pos rfl]
        · rw [if_neg ej, if_neg ej]
  unfold putN
  cases q : lookN kvs k with
  | none => rw [if_neg (by simp)]; exact ha kvs q
  | some x => rw [if_pos (by rfl), hm kvs, q]; rfl
theorem len_put {k : Dt} {a : Addr} {v : V} (kvs : DKv) : (putN kvs k a v).length ≤ kvs.length + 1 := by
  unfold putN
  split
  · rw [List.length_map]; omega
  · rw [List.length_append, List.length_singleton]; omega
theorem mem_put {k : Dt} {a : Addr} {v : V} {kvs : DKv} {x : Dt × Addr × V} (h : x ∈ putN kvs k a v) : (x.1 = k ∧ x.2.1 = a) ∨ ∃ y ∈ kvs, y.1 = x.1 ∧ y.2.1 = x.2.1 := by
  unfold putN at h
  split at h
  · obtain ⟨y, hy, rfl⟩ := List.mem_map.mp h
    refine .inr ⟨y, hy, ?_⟩
    unfold setN
    split <;> exact ⟨rfl, rfl⟩
  · rcases List.mem_append.mp h with h' | h'
    · exact .inr ⟨x, h', rfl, rfl⟩
    · rw [List.mem_singleton] at h'
      subst h'
      exact .inl ⟨rfl, rfl⟩
/-- one entry of the dict -/
def entN (w : World) (x : Dt × Addr × Value) : DictEntry := ⟨dHash w x.1, .ref x.2.1, x.2.2⟩
def dnHolds (w : World) (a : Addr) (kvs : DKv) (h : Heap) : Prop :=
  kvs.length ≤ sizeLine ∧ (a == sysModules) = false ∧ ∃ xs : List (Dt × Addr × Value), Paired PN kvs xs ∧
    ∃ o es ep, h.get? a = some o ∧ o.ExactDict ∧ o.data = .dict es ep ∧ es.toList = xs.map (entN w) ∧ (xs.map (·.1)).Nodup
def dN (w : World) (a : Addr) (kvs : DKv) : HO := .ext (dnHolds w a kvs)
theorem dn_ok {P : Program} {w w' : World} {H : Hp} {h : Heap} {a : Addr} {kvs : DKv} (x : dnHolds w a kvs h) : ObjOk P w' H h a (dN w a kvs) := by
  refine ⟨x, ?_, ?_⟩
  · obtain ⟨_, _, _, _, o, _, _, e, _⟩ := x; exact ⟨o, e⟩
  · rintro h1 h2 ⟨z, y, xs, r, o, es, ep, e, c⟩ k
    exact ⟨z, y, xs, r, o, es, ep, k o e, c⟩
/-- the dict at a answers as f does; it has at most n keys -/
def DMap (w : World) (H : Hp) (a : Addr) (n : Nat) (f : Dt → Option V) : Prop :=
  ∃ kvs : DKv, kvs.length ≤ n ∧ H a = some (dN w a kvs) ∧ (∀ x ∈ kvs, Rd H x.1 (.ref x.2.1) ∧ ddep x.1 ≤ 8) ∧ ∀ k, f k = lookN kvs k
theorem dmap_new {w : World} {H : Hp} {a : Addr} : DMap w (upd H a (dN w a [])) a 0 fun _ => none :=
  ⟨[], Nat.le_refl _, upd_same, (fun x hx => by simp at hx), fun _ => rfl⟩
/-- the dict stays, where it and the tuples do -/
theorem DMap.stay {w : World} {H H' : Hp} {a : Addr} {n : Nat} {f : Dt → Option V} (h : DMap w H a n f) (ha : H' a = H a) (ht : Tk H H') : DMap w H' a n f := by
  obtain ⟨kvs, l, e, r, q⟩ := h
  exact ⟨kvs, l, ha.trans e, fun x hx => ⟨(r x hx).1.mono ht, (r x hx).2⟩, q⟩
theorem DMap.wide {w : World} {H : Hp} {a : Addr} {n m : Nat} {f : Dt → Option V} (h : DMap w H a n f) (l : n ≤ m) : DMap w H a m f := by
  obtain ⟨kvs, k, r⟩ := h
  exact ⟨kvs, Nat.le_trans k l, r⟩
end Sh
namespace Sh
open PySem PySem.Spec PyProof.Rows L2
section
variable {X : Cx} {pins : List (Addr × Obj)} {σ : L2.St} {H : Hp} {s : Shared} {A : Around} {E : Value → Shared → Prop}
mutual
theorem Rd.heap (I : Inv X pins σ H s) : ∀ {d : Dt} {v : V} {u : Value}, Rd H d v → RelV v u → DtAt s.heap d u
  | .int i, v, u, h, r => by rw [Rd] at h; subst h; rw [DtAt]; exact r
  | .str i, v, u, h, r => by rw [Rd] at h; subst h; rw [DtAt]; exact r
  | .tup ds, v, u, h, r => by
    rw [Rd] at h
    obtain ⟨a, vs, rfl, ha, hv⟩ := h
    cases r
    obtain ⟨its, ri, p⟩ := tupAt I ha
    rw [DtAt]
    exact ⟨a, _, rfl, p, Rds.heap I hv (by simpa using ri)⟩
theorem Rds.heap (I : Inv X pins σ H s) : ∀ {ds : List Dt} {vs : List V} {us : List Value}, Rds H ds vs → Vals vs us → DtsAt s.heap ds us
  | [], vs, us, h, r => by rw [Rds] at h; subst h; cases r; rw [DtsAt]
  | d :: ds, vs, us, h, r => by
    rw [Rds] at h
    obtain ⟨v, ws, rfl, h1, h2⟩ := h
    cases r with
    | cons r1 r2 => rw [DtsAt]; exact ⟨_, _, rfl, Rd.heap I h1 r1, Rds.heap I h2 r2⟩
end
/-- the dict, as the heap has it -/
theorem DMap.heap {w : World} {a : Addr} {n : Nat} {f : Dt → Option V} (I : Inv X pins σ H s) (hw : X.w = w) (h : DMap w H a n f) :
    ∃ (kvs : DKv) (xs : List (Dt × Addr × Value)), kvs.length ≤ n ∧ kvs.length ≤ sizeLine ∧ H a = some (dN w a kvs) ∧ (∀ x ∈ kvs, Rd H x.1 (.ref x.2.1) ∧ ddep x.1 ≤ 8) ∧ (∀ k, f k = lookN kvs k) ∧ (a == sysModules) = false ∧ Paired PN kvs xs ∧ s.heap.DictOfH (deepKind X.prog X.w) a xs := by
  subst hw
  obtain ⟨kvs, l, e, r, q⟩ := h
  obtain ⟨⟨z, y, xs, p, o, es, ep, e1, e2, e3, e4, e5⟩, junk⟩ := (show ObjOk X.prog X.w H s.heap a (dN X.w a kvs) from I.hok a _ e)
  refine ⟨kvs, xs, l, z, e, r, q, y, p, o, es, ep, e1, e2, e3, e4, ?_, e5⟩
  clear e4 e5 q l z e junk
  induction p with
  | nil => intro x hx; simp at hx
  | @cons p' q' ps qs hq t ih =>
    intro x hx
    rcases List.mem_cons.mp hx with rfl | hx
    · have := r p' List.mem_cons_self
      rw [hq.1, hq.2.1] at this
      exact ⟨Rd.heap I this.1 rfl, this.2⟩
    · exact ih (fun y hy => r y (List.mem_cons_of_mem _ hy)) x hx
end
/-- {}, a dict for such keys -/
def tNewN (w : World) : TE := fun _ H Q => ∀ p, H p = none → Q (.ref p) (upd H p (dN w p []))
theorem big_of {X : Cx} {pins : List (Addr × Obj)} {σ : L2.St} {H : Hp} {s : Shared} (I : Inv X pins σ H s) : (s.heap.objs.size == sysModules) = false := by
  have h : mainGlobals < s.heap.objs.size := (I.mod.glob.keeps I.bk).lt
  exact beq_eq_false_iff_ne.mpr (Ne.symm (Nat.ne_of_lt (Nat.lt_trans (by decide) h)))
theorem pe_newN {X : Cx} {pos : Pos} {w : World} : PE X (.Dict [] [] pos) (tNewN w) := fun pins s σ H Q I h =>
  wpAny_Dict_empty ⟨.ref s.heap.objs.size, _, I.laid (a := s.heap.objs.size) (o := dN w s.heap.objs.size []) (t' := s.toks) (fun _ _ q => Heap.get?_push_of_some _ q) (Nat.le_refl _)
    (dn_ok ⟨Nat.zero_le _, big_of I, [], .nil, _, #[], 0, Heap.get?_push_size _ rfl, ⟨rfl, rfl, rfl⟩, rfl, rfl, List.nodup_nil⟩), rfl, h _ I.fresh⟩
/-- d.get(k, x) -/
def tGetN (w : World) (to : TE) (t : TA) : TE := fun σ H Q => to σ H fun x H1 => ∃ a, x = .ref a ∧ (∃ n f, DMap w H1 a n f) ∧ t σ H1 fun xs H2 => ∃ y z k n f, xs = [y, z] ∧ DMap w H2 a n f ∧ Rd H2 (.tup k) y ∧ ddep (.tup k) ≤ 8 ∧ Q ((f (.tup k)).getD z) H2
section
variable {X : Cx} {o e : Expr} {es : List Expr} {to : TE} {t : TA} {apos cpos : Pos} {w : World}
theorem pe_getN (hu : X.A.units + 9 < cLine) (ho : PE X o to) (ha : PA X (e :: es) t) (hw : X.w = w := by rfl)
    (hbase : attributeBase o "get" X.env (eval o X.env) = eval o X.env := by rfl)
    (hfew : ((backTo cpos (starEach (e :: es) X.env)).all (fun x => !x.1) && (backToKw cpos (keywordEach [] X.env)).all (fun x => x.1.isSome)
      && decide ((e :: es).length + ([] : List Keyword).length + (if ([] : List Keyword).isEmpty then 0 else 1) < 30)) = true := by rfl)
    (hline : (apos.endLine == cpos.line) = true := by rfl) (hs : starEach (e :: es) X.env = (false, eval e X.env) :: starEach es X.env := by rfl) (hplain : (backTo cpos (starEach es X.env)).any (·.1) = false := by rfl) :
    PE X (.Call (.Attribute o "get" apos) (e :: es) [] cpos) (tGetN w to t) := by
  intro pins s σ H Q I h
  refine wpAny_Call_method_late hbase hfew hline rfl (thn (ho pins s σ H _ I h) fun v s1 ⟨x, H1, I1, r1, a, ea, ⟨n, f, D⟩, q1⟩ => ?_)
  subst ea
  obtain rfl : v = Value.ref a := r1
  obtain ⟨kvs, xs, _, _, _, _, _, hd, _, dd⟩ := D.heap I1 hw
  refine ⟨"dict", "dict.get", PySem.F.plainAttrs_dict, PySem.F.slot_dict_get, PySem.F.type_dict_get, dd.typeIs, fun b eb => ?_, ?_⟩
  · cases eb
    obtain ⟨ob, _, _, h1, h2, _⟩ := dd
    exact ⟨ob, h1, h2.2.1⟩
  have hA := ha cpos pins s1 σ H1 _ I1 q1
  rw [hs] at hA ⊢
  refine Calls.callWith_builtin (by show (false || (backTo cpos (starEach es X.env)).any (·.1)) = false; rw [hplain] <;> rfl) (Calls.evalArgs_plain ?_)
  refine thn hA fun us s2 ⟨vs, H2, I2, r2, y, z, k, m, g, ev, D2, hk, hk8, q2⟩ => ?_
  subst ev
  cases r2 with
  | cons ry r2 => cases r2 with
    | cons rz r2 =>
      cases r2
      obtain ⟨kvs2, xs2, _, _, _, _, hg, hd2, p2, dd2⟩ := D2.heap I2 hw
      have kat := Rd.heap I2 hk ry
      have hk' := hk
      rw [Rd] at hk'
      obtain ⟨b, _, rfl, _⟩ := hk'
      cases ry
      refine call_meetsIn PySem.F.slot_dict_get dd2.typeIs PySem.F.entry_dict_get (PySem.F.args_dict_get_3 _ _ _) (meetsH_dict_get_default (deepKind X.prog X.w) a b hd2 _) ⟨?_, .tup k, xs2, ⟨kat, hk8⟩, dd2, ?_⟩
      · show X.A.units + 1 + 8 < cLine; omega
      · refine ⟨_, H2, I2.tok _, ?_, q2⟩
        have rl := look_rel (k := .tup k) p2
        rw [hg]
        revert rl
        cases lookN kvs2 (.tup k) <;> cases (atKey xs2 (.tup k)).map (·.2) <;> intro rl
        · exact rz
        · exact False.elim rl
        · exact False.elim rl
        · exact rl
/-- d[k] = x -/
def gPutN (w : World) : TSet := fun o i v H Q => ∃ a n f k, o = .ref a ∧ DMap w H a n f ∧ n < sizeLine ∧ Rd H (.tup k) i ∧ ddep (.tup k) ≤ 8 ∧
  ∀ ob, DMap w (upd H a ob) a (n + 1) (fun j => if j = .tup k then some v else f j) → Tk H (upd H a ob) → Q (upd H a ob)
theorem set_putN (hu : X.A.units + 9 < cLine) (hw : X.w = w := by rfl) : PSet X (gPutN w) := by
  intro pins s σ H o i v ov iv u Q I ro ri rv h
  obtain ⟨a, n, f, k, rfl, D, hn, hk, hk8, q⟩ := h
  cases ro
  obtain ⟨kvs, xs, l, z, e, r, hf, hd, p, dd⟩ := D.heap I hw
  have kat := Rd.heap I hk ri
  have hk' := hk
  rw [Rd] at hk'
  obtain ⟨b, _, rfl, _⟩ := hk'
  cases ri
  refine wpAny_setItem_heap (knd := deepKind X.prog X.w) (k := .tup k) (hsz := by rw [← Paired.length p]; exact z) (show X.A.units + 1 + 8 < cLine by omega) ⟨kat, hk8⟩ dd fun h' dd' hs => ?_
  have tk : ∀ ob, Tk H (upd H a ob) := fun ob c ys hc => by rw [upd_ne (ne_of hc e (fun z => nomatch z))]; exact hc
  have hl := len_put (k := .tup k) (a := b) (v := v) kvs
  obtain ⟨ob, es, ep, h1, h2, h3, h4, _, h5⟩ := dd'
  refine ⟨_, I.write (x := a) (e := a) (o := dN w a (putN kvs (.tup k) b v)) (by rw [e]; exact trivial) (.inl rfl) (fun c x hc hx => (hs.2 c hc).trans hx) ⟨ob, h1⟩ (dn_ok ⟨by omega, hd, _, put_rel rv p, ob, es, ep, h1, h2, h3, ?_, h5⟩), q _ ⟨_, ?_, upd_same, fun x hx => ?_, fun j => ?_⟩ (tk _)⟩
  · subst hw; exact h4
  · omega
  · rcases mem_put hx with ⟨x1, x2⟩ | ⟨y, hy, x1, x2⟩
    · rw [x1, x2]; exact ⟨hk.mono (tk _), hk8⟩
    · rw [← x1, ← x2]; exact ⟨(r y hy).1.mono (tk _), (r y hy).2⟩
  · rw [look_put, ← hf]
end
end Sh

end
section
set_option Elab.async false
set_option linter.all false
set_option maxRecDepth 100000
set_option maxHeartbeats 4000000
namespace Sh
open PySem PySem.Spec PyProof.Rows L2
/-! ### defs that are called within an except suite -/
structure RoomH (k : Nat) (A : Around) : Prop where
  dp : A.depth + 3 * k + 5 < recursionLimit
  un : A.units + 16 * k + 200 < cLine
theorem RoomH.of {k : Nat} {A : Around} (r : Room k A) (v : Option Value) : RoomH k (A.mark v) := ⟨r.dp, r.un⟩
theorem RoomH.mono {j k : Nat} {A : Around} (r : RoomH k A) (h : j ≤ k) : RoomH j A := ⟨by have := r.dp; omega, by have := r.un; omega⟩
theorem RoomH.deeper {k : Nat} {A : Around} (r : RoomH (k + 1) A) (env : Env) : RoomH k (A.deeper env) :=
  ⟨by have := r.dp; show A.depth + 1 + 3 * k + 5 < _; omega, by have := r.un; show A.units + 3 + 16 * k + 200 < _; omega⟩
/-- the context of such a def's body: an exception may be handled outside, none leaves -/
abbrev cxQ (P : Program) (w : World) (K : PySem.W.Frag) (mg : Str → Option Value) (base : Heap) (N : List Str) (qual : Str) (scope : Scope) (f : Addr) (cd : Value) (A : Around) (outer : List Env) (s : Shared) (H : Hp) : Cx :=
  { cxOf CX0 P w K mg base N qual scope f cd A outer s H E0 with calm := false, xe := fun _ _ => False }
/-- what a def promises wherever it is called -/
structure FnOkH (P : Program) (w : World) (K : PySem.W.Frag) (mg : Str → Option Value) (base : Heap) (k : Nat) (f : Addr) (fd : FuncData) (ps : List Str) (sp : Sp) : Prop where
  len : ∀ vs H Q E, sp vs H Q E → vs.length = ps.length
  run : ∀ (A : Around) (outer : List Env) (s : Shared) (H : Hp) (args : Args) (us : List Value) (vs : List V) (Q : VK), RoomH k A → Env0 P w K mg base A outer s H → BindsTo s fd args (ps.zip us) → Vals vs us → sp vs H Q E0 →
    codeAny (model P w) A (.call (.ref f) args) (CR CX0 outer P w H s Q E0) s
section
variable {P : Program} {w : World} {K : PySem.W.Frag} {mg : Str → Option Value} {base : Heap} {x : Str} {st : Stmt} {N ps : List Str} {k : Nat} {sp : Sp}
theorem env0_calm {A : Around} {outer : List Env} {s : Shared} {H : Hp} (e : Env0 P w K mg base A outer s H) : Env0 P w K mg base { A with handled := none } outer s H := ⟨e.frames, e.mod, e.bs, e.bsz, e.funs, e.frf, e.hok, e.bare⟩
theorem Fun.okH {qual : Str} {f : Addr} {fd : FuncData} (F : Fun K x qual st f fd) (S : FnScope N ps (defScope st)) (len : ∀ vs H Q E, sp vs H Q E → vs.length = ps.length)
    (hbody : ∀ (cdv : Value) (A : Around) (outer : List Env) (s : Shared) (H : Hp) (vs : List V) (Q : VK), RoomH k (A.deeper (envOfC qual (defScope st) s.heap.objs.size f cdv)) → sp vs H Q E0 →
      ∃ t, PSs (cxQ P w K mg base N qual (defScope st) f cdv A outer s H) (defBody st) t ∧ t { nx := fun _ H' => Q .non H', rt := Q } (start N vs) H) : FnOkH P w K mg base (k + 1) f fd ps sp := by
  obtain ⟨oc, od, kV, doc, pm, an, cdv, ct, osl, rfl, lk, hcd⟩ := F.ex
  refine ⟨len, fun A outer s H args us vs Q hr e0 hb r hsp => ?_⟩
  have there : ∀ b o, base.get? b = some o → s.heap.get? b = some o := fun b o e => (e0.bs b o e).1
  have kin : K.In s.heap := e0.mod.kin.keeps there
  have pars : ∀ y ∈ ps.zip us, (defScope st).names.lookup y.1 = some .local ∨ ((defScope st).names.lookup y.1 = some .cell ∧ ((cellsFrom (s.heap.objs.size + 1) (defScope st).names []).lookup y.1).isSome = true) :=
    fun y hy => (S.par y.1 (List.of_mem_zip (show (y.1, y.2) ∈ _ from hy)).1).imp id fun z => ⟨z, PySem.W.cellsFrom_some _ _ _ (.inl z)⟩
  have deep : A.depth < recursionLimit := by have := hr.dp; omega
  refine codeAny_call_function deep (kin _ _ lk) rfl S.co S.gen rfl (PySem.W.codeRec_of kin hcd) (hb _ _ _ _ (wpAny_newFunctionEnv_cells S.kind pars fun env he s1 ic => ?_))
  subst he
  obtain ⟨t, ht, hq⟩ := hbody cdv A outer s H vs Q (hr.deeper _) hsp
  have I0 := inv_start (CX := CX0) (E := E0) (cd := cdv) (f := f) (qual := qual) S (A := { A with handled := none }) rfl (env0_calm e0) (len _ _ _ _ hsp) r ic
  have o := I0.ok
  have I : Inv (cxQ P w K mg base N qual (defScope st) f cdv A outer s H) [] (start N vs) H s1 :=
    ⟨⟨o.mod, o.kind, o.glob, o.blt, o.above, o.inj, o.has, o.cab, (fun z => by cases z), Around.frames_deeper e0.frames, o.stk, o.exf, o.bs, o.bsz, o.noex, o.exfs, o.funs, o.frf⟩, I0.os, I0.bare, I0.base, I0.loc, I0.cell, I0.free, I0.freeC, I0.pin, I0.hok, I0.len⟩
  refine ⟨(e0.mod.nolimit.keeps there).keeps ic.toInCall.keep, codeAny_func (wpAny_mono (ht [] s1 (start N vs) H _ I hq) (fun fl s' z => ?_) fun _ _ z => z.elim)⟩
  match fl, z with
  | .ret u, ⟨v, _, H', J, rv, q⟩ => exact ⟨v, H', J.os, J.bare, J.base, J.hok, rv, q⟩
  | .next, ⟨_, H', J, q⟩ => exact ⟨V.non, H', J.os, J.bare, J.base, J.hok, rfl, q⟩
  | .brk, ⟨_, _, _, q⟩ => exact q.elim
  | .cont, ⟨_, _, _, q⟩ => exact q.elim
def OkH (P : Program) (w : World) (K : PySem.W.Frag) (mg : Str → Option Value) (base : Heap) (x : Str) (ps : List Str) (k : Nat) (sp : Sp) : Prop :=
  ∃ f fd, FnOkH P w K mg base k f fd ps sp ∧ Binds K fd ps [] ∧ mg x = some (.ref f) ∧ PySem.W.keepIn K (.ref f) = true
theorem Def.okH (D : Def K mg x st ps) (S : FnScope N ps (defScope st)) (len : ∀ vs H Q E, sp vs H Q E → vs.length = ps.length)
    (hbody : ∀ (f : Addr) (cdv : Value) (A : Around) (outer : List Env) (s : Shared) (H : Hp) (vs : List V) (Q : VK), RoomH k (A.deeper (envOfC x (defScope st) s.heap.objs.size f cdv)) → sp vs H Q E0 →
      ∃ t, PSs (cxQ P w K mg base N x (defScope st) f cdv A outer s H) (defBody st) t ∧ t { nx := fun _ H' => Q .non H', rt := Q } (start N vs) H) : OkH P w K mg base x ps (k + 1) sp := by
  obtain ⟨f, fd, F, b, m⟩ := D
  exact ⟨f, fd, Fun.okH F S len (hbody f), b, m, F.kp⟩
end
section
variable {X : Cx} {k : Nat} {x : Str} {ps : List Str} {sp : Sp} {p pos : Pos} {e : Expr} {es : List Expr} {t : TA}
/-- f(e, ..), anywhere -/
theorem pe_okH (F : OkH X.prog X.w X.K X.mg X.base x ps k sp) (hr : RoomH k X.A) (hg : Gl X x) (ha : PA X (e :: es) t) (hdb : (x == ("__debug__" : Str)) = false := by decide)
    (he : starEach (e :: es) X.env = (false, eval e X.env) :: starEach es X.env := by rfl) (hpl : (backTo pos (starEach es X.env)).any (·.1) = false := by rfl) : PE X (.Call (.Name x p) (e :: es) [] pos) (tCall sp [] E0 t) := by
  obtain ⟨f, fd, F, hb, hm, hk⟩ := F
  intro pins s σ H Q I h
  refine wpAny_Call_Name_kw (ld_glob I hg hm ?_ hdb)
  refine PySem.W.callWith_K (h₀ := X.base) I.ok.mod.kin hk (thn (ha pos pins s σ H _ I h) fun us s1 ⟨vs, H1, I1, r, q⟩ => ⟨I1.kIn, ?_⟩) he hpl
  have q' : sp vs H1 Q E0 := by have z : sp (vs ++ []) H1 Q E0 := q; rw [List.append_nil] at z; exact z
  have hl : us.length = ps.length := by rw [← r.length]; exact F.len _ _ _ _ q'
  have bd := hb s1 us I1.kIn (by rw [List.append_nil]; exact hl)
  rw [List.append_nil] at bd
  refine wpAny_call (codeAny_mono (F.run X.A X.stack s1 H1 ⟨us, []⟩ us vs Q hr I1.env0 bd r q') fun rs s' z => ?_)
  match rs, z with
  | .ok (.ret u), z => exact I1.after z
end
end Sh

end
section
set_option Elab.async false
set_option linter.all false
set_option maxRecDepth 100000
set_option maxHeartbeats 4000000
namespace Sh
open PySem PySem.Spec PyProof.Rows L2
/-! ### the methods of an own class, and their promises, by their names -/
/-- the j-th def of a class's body -/
def mtd (st : Stmt) (j : Nat) : Stmt := match st with
  | .ClassDef _ _ _ b _ _ _ _ _ _ _ => b.getD j (.Pass ⟨0, 0, 0, 0⟩)
  | _ => .Pass ⟨0, 0, 0, 0⟩
/-- the method m of the class at C; dvs: the values of the last parameters, where they are left out -/
def MDef (K : PySem.W.Frag) (C : Addr) (m qual : Str) (st : Stmt) (ps : List Str) (dvs : List V) : Prop :=
  ∃ (f : Addr) (oc : Value) (od : Option Addr) (dV kV doc pm : Value) (an : Option Addr) (cdv ct : Value) (osl : Array (Option Value)) (ds : List Value),
    K.lookup f = some ⟨oc, od, .func (PySem.W.fnOf m qual (defArgs st) (defBody st) (defScope st) dV kV doc pm an cdv ct), osl⟩ ∧ PySem.W.codeIn K cdv qual = true ∧
    Binds K (PySem.W.fnOf m qual (defArgs st) (defBody st) (defScope st) dV kV doc pm an cdv ct) ps [] ∧ Binds K (PySem.W.fnOf m qual (defArgs st) (defBody st) (defScope st) dV kV doc pm an cdv ct) ps ds ∧ Vals dvs ds ∧ Meth K C m f
def MOk (CX : CXT) (P : Program) (w : World) (K : PySem.W.Frag) (mg : Str → Option Value) (base : Heap) (C : Addr) (m : Str) (ps : List Str) (k : Nat) (sp : Sp) (dvs : List V) : Prop :=
  ∃ f fd ds, FnOk P w K mg base CX k f fd ps sp ∧ Binds K fd ps [] ∧ Binds K fd ps ds ∧ Vals dvs ds ∧ Meth K C m f
section
variable {P : Program} {w : World} {K : PySem.W.Frag} {mg : Str → Option Value} {base : Heap} {C : Addr} {m qual : Str} {st : Stmt} {N ps : List Str} {k : Nat} {sp : Sp} {dvs : List V}
theorem MDef.ok (D : MDef K C m qual st ps dvs) (S : FnScope N ps (defScope st)) (len : ∀ vs H Q E, sp vs H Q E → vs.length = ps.length)
    (hbody : ∀ (f : Addr) (cdv : Value) (A : Around) (outer : List Env) (s : Shared) (H : Hp) (vs : List V) (Q : VK) (E : XK), Room k (A.deeper (envOfC qual (defScope st) s.heap.objs.size f cdv)) → sp vs H Q E →
      ∃ t, PSs (cxOf CX0 P w K mg base N qual (defScope st) f cdv A outer s H E).nox (defBody st) t ∧ t { nx := fun _ H' => Q .non H', rt := Q } (start N vs) H) : MOk CX0 P w K mg base C m ps (k + 1) sp dvs := by
  obtain ⟨f, oc, od, dV, kV, doc, pm, an, cdv, ct, osl, ds, lk, hcd, b, b', hd, hm⟩ := D
  refine ⟨f, _, ds, fn_of lk hcd S len fun A outer s H vs Q E hr hsp => ?_, b, b', hd, hm⟩
  obtain ⟨t, h, q⟩ := hbody f cdv A outer s H vs Q E hr hsp
  exact ⟨t, h.nox, q⟩
theorem MDef.okX (D : MDef K C m qual st ps dvs) (S : FnScope N ps (defScope st)) (len : ∀ vs H Q E, sp vs H Q E → vs.length = ps.length)
    (hbody : ∀ (f : Addr) (cdv : Value) (A : Around) (outer : List Env) (s : Shared) (H : Hp) (vs : List V) (Q : VK) (E : XK), Room k (A.deeper (envOfC qual (defScope st) s.heap.objs.size f cdv)) → sp vs H Q E →
      ∃ t, PSs (cxX P w K mg base N qual (defScope st) f cdv A outer s H E) (defBody st) t ∧ t { nx := fun _ H' => Q .non H', rt := Q } (start N vs) H) : MOk (CX1 P w) P w K mg base C m ps (k + 1) sp dvs := by
  obtain ⟨f, oc, od, dV, kV, doc, pm, an, cdv, ct, osl, ds, lk, hcd, b, b', hd, hm⟩ := D
  refine ⟨f, _, ds, fn_of lk hcd S len fun A outer s H vs Q E hr hsp => ?_, b, b', hd, hm⟩
  obtain ⟨t, h, q⟩ := hbody f cdv A outer s H vs Q E hr hsp
  exact ⟨t, fun pins s1 σ H1 D1 I hq => wpAny_mono (h pins s1 σ H1 D1 (I.wish _) hq) (fun fl s2 z => z.unwish) fun e s2 z => XS.leave top_cxOf rfl z, q⟩
theorem MDef.void {CX : CXT} (D : MDef K C m qual st ps dvs) (no : ∀ vs H Q E, ¬ sp vs H Q E) : MOk CX P w K mg base C m ps k sp dvs := by
  obtain ⟨f, oc, od, dV, kV, doc, pm, an, cdv, ct, osl, ds, lk, hcd, b, b', hd, hm⟩ := D
  exact ⟨f, _, ds, ⟨fun vs H Q E h => absurd h (no vs H Q E), fun A outer s H args us vs Q E _ _ _ _ h => absurd h (no vs H Q E)⟩, b, b', hd, hm⟩
/-- a method that raises nothing may be called where one may -/
theorem MOk.toX (G : MOk CX0 P w K mg base C m ps k sp dvs) : MOk (CX1 P w) P w K mg base C m ps k sp dvs := by
  obtain ⟨f, fd, ds, F, r⟩ := G
  refine ⟨f, fd, ds, ⟨F.len, fun A outer s H args us vs Q E hr e0 hb rv hs => codeAny_mono (F.run A outer s H args us vs Q E hr e0 hb rv hs) fun rs s' z => ?_⟩, r⟩
  match rs, z with
  | .ok (.ret _), z => exact z
theorem MOk.mono {CX : CXT} {j : Nat} (G : MOk CX P w K mg base C m ps k sp dvs) (h : k ≤ j) : MOk CX P w K mg base C m ps j sp dvs := by
  obtain ⟨f, fd, ds, F, r⟩ := G
  exact ⟨f, fd, ds, F.mono h, r⟩
end
section
variable {X : Cx} {C : Addr} {m x : Str} {ps : List Str} {k j : Nat} {sp : Sp} {dvs : List V} {p pos apos : Pos} {e o : Expr} {es : List Expr} {ta : TE} {t : TA}
/-- o.m(e, ..), nothing left out -/
theorem pe_mok {pl : Sem Bool} (G : MOk CX0 X.prog X.w X.K X.mg X.base C m ps k sp dvs) (c : Cls X.K C) (hr : Room j X.A) (hk : k ≤ j) (he : PE X o ta) (ha : PA X (e :: es) t)
    (hst : starEach (e :: es) X.env = (false, eval e X.env) :: starEach es X.env := by rfl) (hpl : (backTo pos (starEach es X.env)).any (·.1) = false := by rfl)
    (ht : eval (.Call (.Attribute o m apos) (e :: es) [] pos) X.env = (do
      let ov ← eval o X.env
      standAt apos.atName
      let (f, first) ← holding [ov] (getMethod ov m pl)
      callWith pos f first (backTo pos (starEach (e :: es) X.env)) (backToKw pos (keywordEach [] X.env))) := by rfl) : PE X (.Call (.Attribute o m apos) (e :: es) [] pos) (tMeth C m sp [] E0 ta t) := by
  obtain ⟨f, fd, ds, F, b, b', hd, hm⟩ := G
  exact pe_meth he c hm F (hr.mono hk) b .nil pass0 ha hst hpl ht
variable {R : Value → L2.St → Hp → Prop}
/-- o.m(e, ..), the method may raise -/
theorem pe_mokX {pl : Sem Bool} (G : MOk (CX1 X.prog X.w) X.prog X.w X.K X.mg X.base C m ps k sp dvs) (c : Cls X.K C) (hex : X.ex = []) (hr : Room j X.A) (hk : k ≤ j) (he : PE (X.wish (XS X R)) o ta) (ha : PA (X.wish (XS X R)) (e :: es) t)
    (hst : starEach (e :: es) X.env = (false, eval e X.env) :: starEach es X.env := by rfl) (hpl : (backTo pos (starEach es X.env)).any (·.1) = false := by rfl)
    (ht : eval (.Call (.Attribute o m apos) (e :: es) [] pos) X.env = (do
      let ov ← eval o X.env
      standAt apos.atName
      let (f, first) ← holding [ov] (getMethod ov m pl)
      callWith pos f first (backTo pos (starEach (e :: es) X.env)) (backToKw pos (keywordEach [] X.env))) := by rfl) : PE (X.wish (XS X R)) (.Call (.Attribute o m apos) (e :: es) [] pos) (tMethX C m sp [] R ta t) := by
  obtain ⟨f, fd, ds, F, b, b', hd, hm⟩ := G
  exact pe_methX he c hm F hex (hr.mono hk) b .nil ha hst hpl ht
/-- the same, the last parameters left out -/
theorem pe_mokXD {pl : Sem Bool} (G : MOk (CX1 X.prog X.w) X.prog X.w X.K X.mg X.base C m ps k sp dvs) (c : Cls X.K C) (hex : X.ex = []) (hr : Room j X.A) (hk : k ≤ j) (he : PE (X.wish (XS X R)) o ta) (ha : PA (X.wish (XS X R)) (e :: es) t)
    (hst : starEach (e :: es) X.env = (false, eval e X.env) :: starEach es X.env := by rfl) (hpl : (backTo pos (starEach es X.env)).any (·.1) = false := by rfl)
    (ht : eval (.Call (.Attribute o m apos) (e :: es) [] pos) X.env = (do
      let ov ← eval o X.env
      standAt apos.atName
      let (f, first) ← holding [ov] (getMethod ov m pl)
      callWith pos f first (backTo pos (starEach (e :: es) X.env)) (backToKw pos (keywordEach [] X.env))) := by rfl) : PE (X.wish (XS X R)) (.Call (.Attribute o m apos) (e :: es) [] pos) (tMethX C m sp dvs R ta t) := by
  obtain ⟨f, fd, ds, F, b, b', hd, hm⟩ := G
  exact pe_methX he c hm F hex (hr.mono hk) b' hd ha hst hpl ht
/-- C(e, ..) -/
def MMk (P : Program) (w : World) (K : PySem.W.Frag) (mg : Str → Option Value) (base : Heap) (x : Str) (C : Addr) (ps : List Str) (k : Nat) (sp : Sp) : Prop :=
  ∃ f fd, FnOk P w K mg base CX0 k f fd ps sp ∧ Binds K fd ps [] ∧ Mk K C f ∧ mg x = some (.ref C)
theorem pe_mmk (G : MMk X.prog X.w X.K X.mg X.base x C ps k sp) (hr : Room j X.A) (hk : k < j) (hg : Gl X x) (ha : PA X (e :: es) t) (hdb : (x == ("__debug__" : Str)) = false := by decide)
    (he : starEach (e :: es) X.env = (false, eval e X.env) :: starEach es X.env := by rfl) (hpl : (backTo pos (starEach es X.env)).any (·.1) = false := by rfl) : PE X (.Call (.Name x p) (e :: es) [] pos) (tMake C sp [] E0 t) := by
  obtain ⟨f, fd, F, b, M, hm⟩ := G
  exact pe_make M F (hr.mono hk) hg hm b .nil pass0 ha hdb he hpl
end
end Sh

end
section
set_option Elab.async false
set_option linter.all false
set_option maxRecDepth 100000
set_option maxHeartbeats 4000000
namespace Sh
open PySem PySem.Spec PyProof.Rows L2
theorem hu9 {A : Around} {k : Nat} (hr : Room k A) : A.units + 9 < cLine := by have := hr.un; omega
/-- an own class: its facts, and that no class of it has the names of its attributes -/
structure TC (K : PySem.W.Frag) (C : Addr) (fs : List Str) : Prop where
  cl : Cls K C
  na : ∀ f ∈ fs, NoAttr K C f
section
variable {P : Program} {w : World} {K : PySem.W.Frag} {mg : Str → Option Value} {base : Heap} {C : Addr} {m : Str} {ps : List Str} {k : Nat} {sp : Sp} {dvs : List V}
/-- a method that may raise, where it does not -/
theorem MOk.calm (G : MOk (CX1 P w) P w K mg base C m ps k sp dvs) : MOk CX0 P w K mg base C m ps k (fun vs H Q _ => sp vs H Q E0) dvs := by
  obtain ⟨f, fd, ds, F, r⟩ := G
  refine ⟨f, fd, ds, ⟨fun vs H Q E h => F.len vs H Q _ h, fun A outer s H args us vs Q E hr e0 hb rv hs => codeAny_mono (F.run A outer s H args us vs Q _ hr e0 hb rv hs) fun rs s' z => ?_⟩, r⟩
  match rs, z with
  | .ok (.ret _), z => exact z
  | .error e, z =>
    obtain ⟨_, _, _, _, _, _, _, _, _, _, _, _, no⟩ := z
    exact no
end
section
variable {X : Cx} {C : Addr} {m x : Str} {ps : List Str} {k j : Nat} {sp : Sp} {dvs : List V} {p pos apos : Pos} {e o : Expr} {es : List Expr} {ta : TE} {t : TA}
/-- o.m(e, ..), the last parameters left out -/
theorem pe_mokD {pl : Sem Bool} (G : MOk CX0 X.prog X.w X.K X.mg X.base C m ps k sp dvs) (c : Cls X.K C) (hr : Room j X.A) (hk : k ≤ j) (he : PE X o ta) (ha : PA X (e :: es) t)
    (hst : starEach (e :: es) X.env = (false, eval e X.env) :: starEach es X.env := by rfl) (hpl : (backTo pos (starEach es X.env)).any (·.1) = false := by rfl)
    (ht : eval (.Call (.Attribute o m apos) (e :: es) [] pos) X.env = (do
      let ov ← eval o X.env
      standAt apos.atName
      let (f, first) ← holding [ov] (getMethod ov m pl)
      callWith pos f first (backTo pos (starEach (e :: es) X.env)) (backToKw pos (keywordEach [] X.env))) := by rfl) : PE X (.Call (.Attribute o m apos) (e :: es) [] pos) (tMeth C m sp dvs E0 ta t) := by
  obtain ⟨f, fd, ds, F, b, b', hd, hm⟩ := G
  exact pe_meth he c hm F (hr.mono hk) b' hd pass0 ha hst hpl ht
end
end Sh

end
section
set_option Elab.async false
set_option linter.all false
set_option maxRecDepth 100000
set_option maxHeartbeats 4000000
namespace Sh
open PySem PySem.Spec PyProof.Rows L2
/-! ### zip of two lists, in a for with two names -/
structure Zl (h : Heap) (z ti to i1 i2 l1 l2 : Addr) (n : Nat) : Prop where
  zip : IsZip h z ti to .none
  its : IsPair h ti (.ref i1) (.ref i2)
  out : ∃ a b, IsPair h to a b
  it1 : h.IsListIter i1 l1 n
  it2 : h.IsListIter i2 l2 n
def Itzl (l1 l2 : Addr) : It :=
  ⟨fun i H => ∃ xs ys x y, H l1 = some (.lst xs) ∧ H l2 = some (.lst ys) ∧ xs[i]? = some x ∧ ys[i]? = some y,
   fun i H v H' => ∃ p x y, v = .ref p ∧ H p = none ∧ H' = upd H p (.tup [x, y]) ∧ (∀ xs, H l1 = some (.lst xs) → xs[i]? = some x) ∧ (∀ ys, H l2 = some (.lst ys) → ys[i]? = some y),
   fun i H => ∃ xs ys, H l1 = some (.lst xs) ∧ H l2 = some (.lst ys) ∧ xs.length ≤ i⟩
theorem turn_zipL {P : Program} {w : World} {K : PySem.W.Frag} {elts : List Expr} {k : Nat} {pos : Pos} {z ti to i1 i2 l1 l2 : Addr} (D : ZipApart z ti to i1 i2 l1 l2) :
    Turn P w K (.Tuple elts k pos) (Itzl l1 l2) [z, ti, to, i1, i2] z (fun i h => Zl h z ti to i1 i2 l1 l2 i) where
  mem := by simp
  obj := fun i h S b hb => by
    obtain ⟨hz, hti, ⟨a, b', hto⟩, ⟨o1, e1, _, d1⟩, ⟨o2, e2, _, d2⟩⟩ := S
    simp only [List.mem_cons, List.not_mem_nil, or_false] at hb
    rcases hb with rfl | rfl | rfl | rfl | rfl
    · exact ⟨_, hz, fun v q => nomatch q⟩
    · exact ⟨_, hti, fun v q => nomatch q⟩
    · exact ⟨_, hto, fun v q => nomatch q⟩
    · exact ⟨_, e1, fun v q => by rw [d1] at q; cases q⟩
    · exact ⟨_, e2, fun v q => by rw [d2] at q; cases q⟩
  keep := fun i h h' S kk => by
    obtain ⟨hz, hti, ⟨a, b', hto⟩, ⟨o1, e1, r1⟩, ⟨o2, e2, r2⟩⟩ := S
    exact ⟨kk z (by simp) _ hz, kk ti (by simp) _ hti, ⟨a, b', kk to (by simp) _ hto⟩, ⟨o1, kk i1 (by simp) _ e1, r1⟩, ⟨o2, kk i2 (by simp) _ e2, r2⟩⟩
  item := by
    intro X hP hw hK hc i pins s σ H E I hf S hg
    subst hP hw hK
    obtain ⟨xs, ys, x, y, h1, h2, hx, hy⟩ := hg
    obtain ⟨us, ru, pu, hu⟩ := I.list (SqL.of h1)
    obtain ⟨vs, rv, pv, hv⟩ := I.list (SqL.of h2)
    obtain ⟨u, eu, rxu⟩ := ru.get hx
    obtain ⟨v, ev, ryv⟩ := rv.get hy
    obtain ⟨hz, hti, ⟨a, b, hto⟩, q1, q2⟩ := id S
    refine wpAny_pyNext_zip_item D hz hti hto q1 q2 pu.isList pv.isList (x := u) (y := v) (by simpa using eu) (by simpa using ev) fun g z1 o1 j1 j2 pr hsz kk => ⟨_, rfl, ?_⟩
    have hch : ∀ b ∈ [z, to, i1, i2], FpOk X pins H b := fun b hb => hf b (by simp at hb ⊢; rcases hb with rfl | rfl | rfl | rfl <;> simp)
    have I1 : Inv X pins σ (upd H s.heap.objs.size (.tup [x, y])) { s with heap := g } := I.turnedN (t' := s.toks) (ch := [z, to, i1, i2]) (fun b o hb e => by simp at hb; exact kk b o hb.1 hb.2.1 hb.2.2.1 hb.2.2.2 e) hch (Nat.le_refl _)
      ⟨by show 2 ≤ sizeLine; decide, [u, v], .cons rxu (.cons ryv .nil), ⟨_, pr, rfl, _, rfl⟩⟩
    have lt : ∀ b ∈ [z, ti, to, i1, i2], b ≠ s.heap.objs.size := fun b hb => by
      obtain ⟨o1, e1, _⟩ := q1
      obtain ⟨o2, e2, _⟩ := q2
      simp only [List.mem_cons, List.not_mem_nil, or_false] at hb
      rcases hb with rfl | rfl | rfl | rfl | rfl
      · exact Nat.ne_of_lt (Heap.lt_size hz)
      · exact Nat.ne_of_lt (Heap.lt_size hti)
      · exact Nat.ne_of_lt (Heap.lt_size hto)
      · exact Nat.ne_of_lt (Heap.lt_size e1)
      · exact Nat.ne_of_lt (Heap.lt_size e2)
    refine wpAny_letOwnedTupleGo_zip z1 fun g2 hz2 sb => ?_
    have hp0 : H s.heap.objs.size = none := I.fresh
    obtain ⟨f0, f1, f2, f3, f4, f5⟩ := hf z (by simp)
    have I2 : Inv X pins σ (upd H s.heap.objs.size (.tup [x, y])) { s with heap := g2 } := I1.turned (t' := s.toks) (fun b o hb e => (sb.2 b hb).trans e) (by rw [upd_ne (lt z (by simp))]; exact f0) f1 f3 f4 f5
    have ti2 : IsPair g ti (.ref i1) (.ref i2) := kk ti _ D.TIz D.TITO D.TIi1 D.TIi2 hti
    refine ⟨.ref s.heap.objs.size, _, I2, rfl, ⟨_, x, y, rfl, hp0, rfl, fun xs' e => ?_, fun ys' e => ?_⟩, ⟨hz2, sb.extBut _ _ D.TIz ti2, ⟨_, _, sb.extBut _ _ D.TOz o1⟩, j1.extBut sb.extBut D.i1z, j2.extBut sb.extBut D.i2z⟩, fun b hb => ?_⟩
    · rw [h1] at e; cases e; exact hx
    · rw [h2] at e; cases e; exact hy
    · rw [upd_ne (lt b hb)]; exact (hf b hb).1
  done := by
    intro X hP hw hK hc i pins s σ H E I hf S hg
    subst hP hw hK
    obtain ⟨xs, ys, h1, h2, hx⟩ := hg
    obtain ⟨us, ru, pu, hu⟩ := I.list (SqL.of h1)
    obtain ⟨vs, rv, pv, hv⟩ := I.list (SqL.of h2)
    have hl := ru.length
    obtain ⟨hz, hti, ⟨a, b, hto⟩, q1, q2⟩ := S
    refine wpAny_pyNext_zip_end (I.ok.hd hc) D hz hti hto q1 q2 pu.isList pv.isList (.inl (by simp; omega)) fun g kk => ⟨rfl, ?_⟩
    exact I.turnedL (t' := s.toks) (ch := [z, to, i1, i2]) (fun b o hb e => by simp at hb; exact kk b o hb.1 hb.2.1 hb.2.2.1 hb.2.2.2 e) fun b hb => hf b (by simp at hb ⊢; rcases hb with rfl | rfl | rfl | rfl <;> simp)
  self := fun _ _ _ _ _ S h => wpAny_pyIter_zip S.zip h
/-- for a, b in zip(l, m), lists -/
def iZipL (ta : TA) : TI := fun σ H R => ta σ H fun vs H1 => ∃ l1 l2 xs ys, vs = [.ref l1, .ref l2] ∧ H1 l1 = some (.lst xs) ∧ H1 l2 = some (.lst ys) ∧ R (Itzl l1 l2) H1
theorem pi_zipL {X : Cx} {elts : List Expr} {k : Nat} {tpos : Pos} {a b : Expr} {ta : TA} {p pos : Pos} (hg : Gl X "zip") (hm : X.mg "zip" = none) (ha : PA X [a, b] ta) (hs : starEach [a, b] X.env = [(false, eval a X.env), (false, eval b X.env)] := by rfl) (hs2 : starEach [b] X.env = [(false, eval b X.env)] := by rfl) :
    PI X (.Tuple elts k tpos) (.Call (.Name "zip" p) [a, b] [] pos) (iZipL ta) := by
  intro pins s σ H R I h
  refine Call_ (ld_blt I hg hm boot_zip (PyProof.Rows.callWith_type1 (thn (ha pos pins s σ H _ I h) fun us s1 ⟨vs, H1, I1, r1, q1⟩ => ?_) (by rw [hs, hs2]) (by rw [hs2]; rfl)))
  obtain ⟨l1, l2, xs, ys, e, h1, h2, q⟩ := q1
  subst e
  obtain ⟨u1, u2, rfl, e1, e2⟩ := vals2 r1
  cases (show u1 = Value.ref l1 from e1)
  cases (show u2 = Value.ref l2 from e2)
  obtain ⟨us, ru, pu, _⟩ := I1.list (SqL.of h1)
  obtain ⟨vs, rv, pv, _⟩ := I1.list (SqL.of h2)
  refine call_zip_2 pu.isList pv.isList fun g z1 t1 o1 j1 j2 _ kk => wpAny_pyIter_zip z1 ?_
  refine ⟨s1.heap.objs.size + 4, _, _, Itzl l1 l2, H1, rfl, I1.kept (t' := s1.toks) kk, turn_zipL (zipApart_new (I1.hok.lt h1) (I1.hok.lt h2)), ⟨z1, t1, ⟨_, _, o1⟩, j1, j2⟩, fun b hb => ?_, q⟩
  have up : ∀ j, FpOk X pins H1 (s1.heap.objs.size + j) := fun j => I1.fpOk (Nat.le_add_right _ j) (I1.hok.fresh (Nat.le_add_right _ j))
  simp only [List.mem_cons, List.not_mem_nil, or_false] at hb
  rcases hb with rfl | rfl | rfl | rfl | rfl
  · exact up 4
  · exact up 2
  · exact up 3
  · exact up 0
  · exact up 1
theorem for_zipL {l1 l2 : Addr} {xs ys : List V} {g : TG} {tb : TS} {D : Ends} {σ : L2.St} {H : Hp} (hlen : xs.length = ys.length) (Pv : Nat → L2.St → Hp → Prop) (h0 : Pv 0 σ H) (hl : ∀ i σ H, Pv i σ H → H l1 = some (.lst xs) ∧ H l2 = some (.lst ys))
    (hs : ∀ i x y p σ H, xs[i]? = some x → ys[i]? = some y → H p = none → Pv i σ H → g (.ref p) σ (upd H p (.tup [x, y])) fun σ2 H2 => tb { D with nx := Pv (i + 1), ct := Pv (i + 1), bk := D.nx } σ2 H2) (hd : ∀ σ H, Pv xs.length σ H → D.nx σ H) :
    ∃ W : Nat → Nat → L2.St → Hp → Prop, (∃ m, W 0 m σ H) ∧ ∀ i m σ H, W i m σ H →
      ((Itzl l1 l2).stop i H ∧ D.nx σ H) ∨ ((Itzl l1 l2).go i H ∧ ∃ N : L2.St → Hp → Prop, (∀ σ' H', N σ' H' → ∃ m', m' < m ∧ W (i + 1) m' σ' H') ∧ ∀ x H', (Itzl l1 l2).yld i H x H' → g x σ H' fun σ2 H2 => tb { D with nx := N, ct := N, bk := D.nx } σ2 H2) := by
  refine ⟨fun i m σ H => m = xs.length - i ∧ i ≤ xs.length ∧ Pv i σ H, ⟨xs.length, by simp, Nat.zero_le _, h0⟩, ?_⟩
  rintro i m σ H ⟨rfl, hi, p⟩
  obtain ⟨a1, a2⟩ := hl i σ H p
  by_cases e : i = xs.length
  · subst e
    exact .inl ⟨⟨xs, ys, a1, a2, Nat.le_refl _⟩, hd σ H p⟩
  · have lt : i < xs.length := by omega
    have lt2 : i < ys.length := by omega
    refine .inr ⟨⟨xs, ys, xs[i], ys[i], a1, a2, by simp [lt], by simp [lt2]⟩, Pv (i + 1), fun σ' H' q => ⟨xs.length - (i + 1), by omega, rfl, by omega, q⟩, ?_⟩
    rintro v H' ⟨pp, x, y, rfl, hp, rfl, e1, e2⟩
    exact hs i x y pp σ H (e1 xs a1) (e2 ys a2) hp p
end Sh

end
section
set_option Elab.async false
set_option linter.all false
set_option maxRecDepth 100000
set_option maxHeartbeats 4000000
namespace Sh
open PySem
section
variable {P : Program} {w : World} {A : Around} {E : Value → Shared → Prop} {s : Shared}
def RawD (h : Heap) (d : Addr) (es : Array DictEntry) (ep : Nat) : Prop := ∃ o, h.get? d = some o ∧ o.ExactDict ∧ o.data = .dict es ep
theorem raw_iter {d : Addr} {es : Array DictEntry} {ep : Nat} {Q : Value → Shared → Prop} (big : (d == sysModules) = false) (R : RawD s.heap d es ep)
    (q : Q (.ref s.heap.objs.size) { s with heap := s.heap.push { cls := .type "dict_keyiterator", data := .fields #[.ref d, .int 0 0, .int es.size 0, .int ep 0] } }) : wpAny (model P w) A (pyIter (.ref d)) Q E s := by
  obtain ⟨o, g, ex, dt⟩ := R
  have ty : s.TypeIs (.ref d) "dict" := ⟨o, g, ex.1⟩
  refine wpAny_pyIter_slot ty F.slot_dict_iter (wpAny_call_entry F.slot_dict_iter ty F.entry_dict_iter ?_ (F.args_dict_iter_1 _))
  unfold Builtin.«dict.__iter__» Builtin.Dict.dictSlotNone
  refine wpAny_bind (wpAny_bind (wpAny_notOrdered_dict ty ?_))
  show wpAny (model P w) _ (pure (Value.ref d)) _ _ s
  refine wpAny_pure ?_
  show wpAny (model P w) _ (Builtin.Dict.showsAll d >>= _) _ _ s
  unfold Builtin.Dict.showsAll
  rw [if_neg (show ¬ ((d == sysModules) = true) by rw [big]; exact Bool.false_ne_true)]
  refine wpAny_bind (wpAny_pure (wpAny_bind (wpAny_dictEntries g dt (wpAny_bind (wpAny_dictEpoch g dt ?_)))))
  refine wpAny_bind (wpAny_newObj_type (wpAny_pure ⟨_, rfl, "dict_keyiterator", _, ⟨_, Heap.get?_push_size _ rfl, rfl⟩, F.slot_dict_keyiterator_next.lookup, ?_⟩))
  simpa [rawInt] using q
theorem raw_item {it d : Addr} {i ep : Nat} {es : Array DictEntry} {e : DictEntry} {Q : Option Value → Shared → Prop} (hit : s.heap.IsKeyIter it d i es.size ep) (R : RawD s.heap d es ep) (hx : es[i]? = some e)
    (q : ∀ h', h'.IsKeyIter it d (i + 1) es.size ep → Heap.SameBut it s.heap h' → Q (some e.key) { s with heap := h' }) : wpAny (model P w) A (pyNext (.ref it)) Q E s := by
  obtain ⟨oi, gi, ci, di⟩ := id hit
  obtain ⟨o, g, ex, dt⟩ := R
  have ty := hit.typeIs
  have lt : i < es.size := (Array.getElem?_eq_some_iff.mp hx).1
  unfold pyNext
  refine wpAny_bind (wpAny_attempt (wpAny_callSpecial?_slot (name := Str.ofString "__next__") ty F.slot_dict_keyiterator_next (wpAny_call_entry F.slot_dict_keyiterator_next ty F.entry_dict_keyiterator_next ?_ (F.args_dict_keyiterator_next_1 _))))
  refine wpAny_bind (wpAny_pure (wpAny_bind (wpAny_bind ?_)))
  first | refine wpAny_bind (wpAny_typeNameOfWhole_keyiter ty (wpAny_pure (wpAny_bind (wpAny_fieldsOf gi di ?_)))) | refine wpAny_bind (wpAny_typeNameOf_keyiter ty (wpAny_pure (wpAny_bind (wpAny_fieldsOf gi di ?_))))
  simp only [show Builtin.Dict_items.ownsTuple "dict_keyiterator" = false by decide, Bool.false_eq_true, if_false]
  show wpAny (model P w) _ (if (Value.ref d == Value.none) = true then _ else _) _ _ s
  rw [if_neg (show ¬ ((Value.ref d == Value.none) = true) by exact Bool.false_ne_true)]
  refine wpAny_bind (wpAny_pure (wpAny_bind (wpAny_dictEntries g dt ?_)))
  rw [if_neg (show ¬ _ by simp)]
  refine wpAny_bind (wpAny_pure (wpAny_bind (wpAny_dictEpoch g dt ?_)))
  rw [if_neg (show ¬ _ by simp)]
  refine wpAny_pure ?_
  simp only [show ¬ ((i : Int) < 0) by omega, if_false, Int.toNat_natCast, hx]
  refine wpAny_bind ?_
  first | refine wpAny_bind (wpAny_typeNameOfWhole_keyiter ty (wpAny_pure (wpAny_bind (wpAny_isOneOf_keyiter ty ?_)))) | refine wpAny_bind (wpAny_typeNameOf_keyiter ty (wpAny_pure (wpAny_bind (wpAny_isOneOf_keyiter ty ?_))))
  show wpAny (model P w) _ (setField (.ref it) 1 (rawInt ((i : Int) + 1)) >>= _) _ _ s
  refine wpAny_bind (wpAny_setField gi di (by simp) ?_)
  have nx : (s.heap.update it (Obj.mapFields (·.setIfInBounds 1 (rawInt ((i : Int) + 1))))).IsKeyIter it d (i + 1) es.size ep :=
    ⟨_, Heap.get?_update_self _ gi (Obj.isFreed_of_fields (Obj.data_mapFields di _)), (Obj.cls_mapFields ..).trans ci, (by rw [Obj.data_mapFields di]; simp [rawInt])⟩
  refine wpAny_bind (wpAny_holding (wpAny_bind (wpAny_isOneOf_keyiter (s := { s with heap := s.heap.update it (Obj.mapFields (·.setIfInBounds 1 (rawInt ((i : Int) + 1)))) }) nx.typeIs ?_)))
  show wpAny (model P w) _ (pure e.key) _ _ _
  exact wpAny_pure (wpAny_pure ⟨_, rfl, wpAny_pure (q _ nx (Heap.SameBut.update ..))⟩)
theorem raw_end {it d : Addr} {i ep : Nat} {es : Array DictEntry} {Q : Option Value → Shared → Prop} (hh : A.handled = none) (hit : s.heap.IsKeyIter it d i es.size ep) (R : RawD s.heap d es ep) (hx : es[i]? = none)
    (q : ∀ h', Heap.ExtBut it s.heap h' → Q none { s with heap := h' }) : wpAny (model P w) A (pyNext (.ref it)) Q E s := by
  obtain ⟨oi, gi, ci, di⟩ := id hit
  obtain ⟨o, g, ex, dt⟩ := R
  have ty := hit.typeIs
  unfold pyNext
  refine wpAny_bind (wpAny_attempt (wpAny_callSpecial?_slot (name := Str.ofString "__next__") ty F.slot_dict_keyiterator_next (wpAny_call_entry F.slot_dict_keyiterator_next ty F.entry_dict_keyiterator_next ?_ (F.args_dict_keyiterator_next_1 _))))
  refine wpAny_bind (wpAny_pure (wpAny_bind (wpAny_bind ?_)))
  first | refine wpAny_bind (wpAny_typeNameOfWhole_keyiter ty (wpAny_pure (wpAny_bind (wpAny_fieldsOf gi di ?_)))) | refine wpAny_bind (wpAny_typeNameOf_keyiter ty (wpAny_pure (wpAny_bind (wpAny_fieldsOf gi di ?_))))
  simp only [show Builtin.Dict_items.ownsTuple "dict_keyiterator" = false by decide, Bool.false_eq_true, if_false]
  show wpAny (model P w) _ (if (Value.ref d == Value.none) = true then _ else _) _ _ s
  rw [if_neg (show ¬ ((Value.ref d == Value.none) = true) by exact Bool.false_ne_true)]
  refine wpAny_bind (wpAny_pure (wpAny_bind (wpAny_dictEntries g dt ?_)))
  rw [if_neg (show ¬ _ by simp)]
  refine wpAny_bind (wpAny_pure (wpAny_bind (wpAny_dictEpoch g dt ?_)))
  rw [if_neg (show ¬ _ by simp)]
  refine wpAny_pure ?_
  simp only [show ¬ ((i : Int) < 0) by omega, if_false, Int.toNat_natCast, hx]
  refine wpAny_bind ?_
  first | refine wpAny_bind (wpAny_typeNameOfWhole_keyiter ty (wpAny_pure ?_)) | refine wpAny_bind (wpAny_typeNameOf_keyiter ty (wpAny_pure ?_))
  show wpAny (model P w) _ (setField (.ref it) 0 .none >>= _) _ _ s
  refine wpAny_bind (wpAny_setField gi di (by simp) ?_)
  show wpAny (model P w) _ (newExc (.type "StopIteration") [] >>= _) _ _ _
  refine wpAny_bind ?_
  simp only [newExc, newTuple]
  refine wpAny_bind (wpAny_newObj_type ?_ (show _ from by size_fits))
  refine wpAny_bind (m := firstArgMember _ _) (wpAny_of_eq (a := Value.none) (by first | rfl | (simp only [firstArgMember]; rfl)) (wpAny_newObj_type ?_ (by size_fits)))
  simp only [raiseNew]
  refine wpAny_bind (wpAny_handled ?_)
  first | rw [show A.in1.handled = none from hh] | rw [hh]
  refine wpAny_bind (wpAny_pure (wpAny_throw ?_))
  refine wpAny_bind (wpAny_isInstance (T := "StopIteration") (b := true) ⟨_, Heap.get?_push_size _ rfl, rfl⟩ isSubtype_stop (wpAny_pure ?_))
  exact q _ (((Heap.SameBut.update ..).extBut.push _).push _)
theorem RawD.at {h h' : Heap} {d : Addr} {es : Array DictEntry} {ep : Nat} (R : RawD h d es ep) (k : ∀ o, h.get? d = some o → h'.get? d = some o) : RawD h' d es ep := let ⟨o, g, r⟩ := R; ⟨o, k o g, r⟩
theorem raw_walks (hh : A.handled = none) (I d : Addr) (ne : d ≠ I) (es : Array DictEntry) (ep : Nat) :
    Walks P w A I [I, d] [I] es.size (fun i v => ∃ e, es[i]? = some e ∧ v = e.key) (fun i h => h.IsKeyIter I d i es.size ep ∧ RawD h d es ep) where
  sub := fun b hb => by simp at hb; simp [hb]
  frame := fun _ _ _ st k => ⟨st.1.at (k I (by simp)), st.2.at (k d (by simp))⟩
  item := fun i s Q E hi st hQ => by
    refine raw_item st.1 st.2 (e := es[i]) (by simp [hi]) fun h' it' sb => ?_
    exact hQ _ h' s.toks ⟨_, by simp [hi], rfl⟩ ⟨it', st.2.at fun o g => sb.extBut d o ne g⟩ fun b o hb g => sb.extBut b o (fun h => hb (by simp [h])) g
  done := fun s Q E st hQ => raw_end hh st.1 st.2 (by simp) fun h' sb => hQ h' s.toks fun b o hb g => sb b o (fun h => hb (by simp [h])) g
  self := fun _ _ _ _ st hQ => wpAny_pyIter_keyiter st.1 hQ
end
end Sh
namespace Sh
open PySem
theorem zip_keys : typeLookup (.type "zip") "keys" = pure none := by rw [typeLookup_type, builtinLookup_eq_fast]; kernel_rfl
theorem zip_hook : typeLookup (.type "zip") "__getattr__" = pure none := by rw [typeLookup_type, builtinLookup_eq_fast]; kernel_rfl
theorem zip_ga : entryFor table "zip.__getattribute__" = some Builtin.«object.__getattribute__» := entryFor_alias (id' := "object.__getattribute__") (by kernel_rfl) (by first | rfl | decide +kernel) (by decide +kernel) (by kernel_rfl)
section
variable {P : Program} {w : World} {A : Around} {E : Value → Shared → Prop} {h : Heap} {g : Array GenState} {d : Drawn} {t : Nat} {os : OsState} {z : Addr} {vs : Array Value}
theorem sub_ae : isSubtype (.type "AttributeError") (.type "AttributeError") = pure true := by rw [isSubtype_type]; kernel_rfl
abbrev aeObj (t : Addr) : Obj := { cls := .type "AttributeError", data := .fields #[.ref t, .none, .none, .none, .bool false, .none, unsetMember, unsetMember] }
theorem note_ok {s : Shared} {a t : Addr} {o x : Value} {Q : Unit → Shared → Prop} (g : s.heap.get? a = some (aeObj t))
    (q : ∀ h', (∀ b ob, b ≠ a → s.heap.get? b = some ob → h'.get? b = some ob) → (∃ ob, h'.get? a = some ob ∧ ob.cls = .type "AttributeError") → Q () { s with heap := h' }) : wpAny (model P w) A (noteAttr (.ref a) o x) Q E s := by
  have ty : s.TypeIs (.ref a) "AttributeError" := ⟨_, g, rfl⟩
  unfold noteAttr
  refine wpAny_bind ?_
  unfold lacksNameAndObj
  refine wpAny_bind (wpAny_isInstance ty sub_ae ?_)
  rw [if_neg (by decide)]
  refine wpAny_bind (wpAny_load g ?_)
  refine wpAny_of_eq (a := true) (by rfl) ?_
  rw [if_pos rfl]
  refine wpAny_bind (wpAny_rule (wpAny_bind (wpAny_typeOf ty ?_)))
  show wpAny (model P w) A (layMembers a 6 #[x, o]) _ _ _
  unfold layMembers
  refine wpAny_bind (wpAny_load g ?_)
  show wpAny (model P w) A (update a _) _ _ _
  refine wpAny_update g ?_
  refine q _ (fun b ob hb e => (Heap.get?_update_other _ _ (Ne.symm hb)).trans e) ⟨_, Heap.get?_update_self _ g rfl, rfl⟩
/-- an AttributeError, made and thrown -/
theorem attr_raise {α : Type} {s : Shared} {o : Value} {x msg : Str} {Q : α → Shared → Prop} (hl : msg.length ≤ sizeLine) (hh : A.handled = none)
    (q : ∀ h' t' e, (∀ b ob, s.heap.get? b = some ob → h'.get? b = some ob) → (∃ ob, h'.get? e = some ob ∧ ob.cls = .type "AttributeError") → E (.ref e) { s with heap := h', toks := t' }) :
    wpAny (model P w) A (raiseAttrError o x msg : Sem α) Q E s := by
  unfold raiseAttrError
  refine wpAny_bind (wpAny_mkStr ?_ hl)
  refine wpAny_bind ?_
  simp only [newExc, newTuple]
  refine wpAny_bind (wpAny_newObj_type ?_ (by size_fits))
  refine wpAny_bind (m := firstArgMember _ _) (wpAny_of_eq (a := Value.none) (by simp only [firstArgMember]; kernel_rfl) ?_)
  refine wpAny_newObj_type ?_ (by size_fits)
  refine wpAny_bind (wpAny_mkText ?_)
  have ge : ((s.heap.push { cls := .type "tuple", data := .seq #[.str msg s.toks] }).push (aeObj s.heap.objs.size)).get? (s.heap.push { cls := .type "tuple", data := .seq #[.str msg s.toks] }).objs.size = some (aeObj s.heap.objs.size) := Heap.get?_push_size _ rfl
  refine wpAny_bind (note_ok ge fun h' kk he => ?_)
  simp only [raiseNew]
  refine wpAny_bind (wpAny_handled ?_)
  rw [hh]
  refine wpAny_bind (wpAny_pure (wpAny_throw ?_))
  refine q h' _ _ (fun b ob e => kk b ob (fun z => ?_) (Heap.get?_push_of_some _ (Heap.get?_push_of_some _ e))) he
  have := Heap.lt_size e
  rw [z, Heap.size_push] at this
  exact absurd this (Nat.not_lt.mpr (Nat.le_succ _))
theorem zip_entry {tk : Tok} {Q : Fin → Shared → Prop} (hz : h.get? z = some { cls := .type "zip", dict := none, data := .fields vs, slots := #[] }) (hh : A.handled = none)
    (q : ∀ h' t' e, (∀ b o, h.get? b = some o → h'.get? b = some o) → (∃ o, h'.get? e = some o ∧ o.cls = .type "AttributeError") → E (.ref e) ⟨h', g, d, t', os⟩) :
    wpAny (model P w) A (Builtin.«object.__getattribute__» ⟨[.ref z, .str "keys" tk], []⟩) Q E ⟨h, g, d, t, os⟩ := by
  have hT : (⟨h, g, d, t, os⟩ : Shared).TypeIs (.ref z) "zip" := ⟨_, hz, rfl⟩
  have f1 := zip_keys
  repeat (any_goals (first | assumption | wp_step))
  refine attr_raise (by decide +kernel) hh q
abbrev KeepAll (h h' : Heap) : Prop := ∀ b o, h.get? b = some o → h'.get? b = some o
theorem zip_by {tk : Tok} {Q : Value → Shared → Prop} (hz : h.get? z = some { cls := .type "zip", dict := none, data := .fields vs, slots := #[] }) (hh : A.handled = none)
    (q : ∀ h' t' e, KeepAll h h' → (∃ o, h'.get? e = some o ∧ o.cls = .type "AttributeError") → E (.ref e) ⟨h', g, d, t', os⟩) :
    wpAny (model P w) A (getAttrBy (.ref z) (.str "keys" tk) false) Q E ⟨h, g, d, t, os⟩ := by
  have hT : (⟨h, g, d, t, os⟩ : Shared).TypeIs (.ref z) "zip" := ⟨_, hz, rfl⟩
  have f2 := F.slot_zip_getattribute.lookup
  have f3 := F.slot_zip_getattribute.bind (.ref z)
  repeat (any_goals (first | assumption | wp_step))
  refine codeAny_call_builtin F.slot_zip_getattribute.plain zip_ga (F.slot_zip_getattribute.check _ _ _ _ _ _ _ _ hT (F.args_zip_getattribute_2 _ _) ?_)
  refine zip_entry hz hh fun h' t' e kk he => ?_
  obtain ⟨o, ge, ce⟩ := he
  have ty : (⟨h', g, d, t', os⟩ : Shared).TypeIs (.ref e) "AttributeError" := ⟨o, ge, ce⟩
  have f4 := zip_hook
  have f5 := sub_ae
  show wpAny (model P w) A (getattributeRaised (Value.ref z) (Value.str (Str.ofString "keys") tk) (Value.type "zip") (.ref e) none false false) Q E _
  unfold getattributeRaised
  refine wpAny_bind (wpAny_isInstance ty sub_ae ?_)
  rw [if_pos rfl]
  refine wpAny_bind (m := hookBehind (.type "zip") none) (wpAny_of_eq (a := none) (by unfold hookBehind onTheHeap; exact zip_hook) ?_)
  show wpAny (model P w) A (attributeErrorLeaves _ _ (.ref e) false false) Q E _
  unfold attributeErrorLeaves
  rw [if_pos (by rfl)]
  exact wpAny_bind (wpAny_throw (q h' t' e kk ⟨o, ge, ce⟩))
/-- a zip has no keys -/
theorem zip_no_keys {s : Shared} {Q : Option Value → Shared → Prop} (hz : s.heap.get? z = some { cls := .type "zip", dict := none, data := .fields vs, slots := #[] }) (hh : A.handled = none)
    (q : ∀ h' t', KeepAll s.heap h' → Q none { s with heap := h', toks := t' }) : wpAny (model P w) A (getAttr? (.ref z) "keys") Q E s := by
  unfold getAttr? getAttrBy?
  refine wpAny_bind (wpAny_mkText (wpAny_bind (wpAny_attempt ?_)))
  refine zip_by (vs := vs) hz hh fun h' t' e kk he => ?_
  obtain ⟨o, ge, ce⟩ := he
  refine wpAny_bind (wpAny_isInstance (T := "AttributeError") (b := true) ⟨o, ge, ce⟩ sub_ae (wpAny_pure (q h' t' kk)))
end
end Sh
namespace Sh
open PySem
section
variable {P : Program} {w : World} {A : Around} {E : Value → Shared → Prop} {s : Shared}
/-- a zip whose handed out pair T is still about -/
abbrev Z2 (h : Heap) (z ti to T : Addr) (b : Bool) : Prop := h.get? z = some { cls := .type "zip", dict := none, data := .fields #[rawInt T, .bool b, .bool false, .ref ti, .ref to], slots := #[] }
variable {z ti to i1 i2 l1 l2 T : Addr} {k : Nat} {b : Bool} {xs ys : Array Value} {x y : Value} {oT : Obj}
theorem zs_free {Q : Bool → Shared → Prop} (hz : Z2 s.heap z ti to T b) (hT : s.heap.get? T = some oT) (q : ∀ h', Z2 h' z ti to T true → Heap.SameBut z s.heap h' → Q false { s with heap := h' }) :
    wpAny (model P w) A (Builtin.SmallTypes.ownedTupleIsFree (.ref z)) Q E s := by
  unfold Builtin.SmallTypes.ownedTupleIsFree
  refine wpAny_bind (wpAny_field hz rfl (x := rawInt T) (by rfl) ?_)
  have ld : ∀ {R : Option Obj → Shared → Prop}, R (some oT) s → wpAny (model P w) A (loadIfAlive T) R E s := fun {R} r Γ p hΓ => by
    simp only [loadIfAlive]
    rw [Sem.wp_loadIfAlive, hT]
    exact r
  refine wpAny_bind (m := loadIfAlive _) (ld ?_)
  rw [if_neg (by simp)]
  refine wpAny_bind (wpAny_field hz rfl (x := .bool b) (by rfl) ?_)
  cases b with
  | true =>
    rw [if_neg (by simp)]
    exact wpAny_pure (q s.heap hz ⟨rfl, fun _ _ => rfl⟩)
  | false =>
    rw [if_pos (by simp)]
    exact wpAny_bind (wpAny_setField_rec hz (by simp) fun h' hz' e => wpAny_pure (q h' hz' e))
/-- the next pair of such a zip -/
theorem zs_item {Q : Value → Shared → Prop} (D : ZipApart z ti to i1 i2 l1 l2) (hz : Z2 s.heap z ti to T b) (hT : s.heap.get? T = some oT) (hti : IsPair s.heap ti (.ref i1) (.ref i2)) (h1 : s.heap.IsListIter i1 l1 k) (h2 : s.heap.IsListIter i2 l2 k)
    (hl1 : s.heap.IsList l1 xs) (hl2 : s.heap.IsList l2 ys) (hx : xs[k]? = some x) (hy : ys[k]? = some y)
    (q : ∀ h', Z2 h' z ti to T true → h'.IsListIter i1 l1 (k + 1) → h'.IsListIter i2 l2 (k + 1) → IsPair h' s.heap.objs.size x y → (∀ c o, c ≠ z → c ≠ i1 → c ≠ i2 → s.heap.get? c = some o → h'.get? c = some o) → Q (.ref s.heap.objs.size) { s with heap := h' }) :
    wpAny (model P w) A (Builtin.«zip.__next__» ⟨[.ref z], []⟩) (fun fin s' => ∃ v, fin = .done (.ret v) ∧ Q v s') E s := by
  show wpAny (model P w) _ (field (.ref z) 2 >>= _) _ _ _
  refine wpAny_bind (wpAny_field hz rfl (x := .bool false) (by rfl) ?_)
  show wpAny (model P w) _ (field (.ref z) 3 >>= _) _ _ _
  refine wpAny_bind (wpAny_field hz rfl (x := .ref ti) rfl (wpAny_bind (wpAny_seqItems hti rfl ?_)))
  show wpAny (model P w) _ (Builtin.SmallTypes.ownedTupleIsFree (.ref z) >>= _) _ _ _
  refine wpAny_bind (zs_free hz hT fun g1 z1 e1 => ?_)
  rw [if_neg (by simp)]
  refine wpAny_bind ?_
  simp only [List.forIn_toArray, List.forIn_cons, List.forIn_nil]
  refine wpAny_bind (wpAny_bind (wpAny_holding ?_))
  show wpAny (model P w) _ (Builtin.SmallTypes.nextOf (.ref i1) >>= _) _ _ _
  refine wpAny_bind (wpAny_nextOf_list_item (h1.extBut e1.extBut D.i1z) (hl1.extBut e1.extBut D.l1z) hx fun g2 j1 e2 => wpAny_pure (wpAny_pure (wpAny_bind (wpAny_bind (wpAny_holding ?_)))))
  show wpAny (model P w) _ (Builtin.SmallTypes.nextOf (.ref i2) >>= _) _ _ _
  refine wpAny_bind (wpAny_nextOf_list_item ((h2.extBut e1.extBut D.i2z).extBut e2.extBut D.i12.symm) ((hl2.extBut e1.extBut D.l2z).extBut e2.extBut D.l2i1) hy fun g3 j2 e3 => wpAny_pure (wpAny_pure (wpAny_pure (wpAny_bind (wpAny_newTuple ?_ (by show 2 ≤ sizeLine; decide))))))
  have sz : g3.objs.size = s.heap.objs.size := by rw [e3.1, e2.1, e1.1]
  have z3 : Z2 g3 z ti to T true := e3.extBut _ _ D.i2z.symm (e2.extBut _ _ D.i1z.symm z1)
  have kk : ∀ c o, c ≠ z → c ≠ i1 → c ≠ i2 → s.heap.get? c = some o → g3.get? c = some o := fun c o c1 c2 c3 e => e3.extBut _ _ c3 (e2.extBut _ _ c2 (e1.extBut _ _ c1 e))
  refine wpAny_pure ⟨_, rfl, ?_⟩
  show Q (.ref g3.objs.size) _
  have pr : IsPair (g3.push { cls := .type "tuple", data := .seq #[x, y] }) g3.objs.size x y := Heap.get?_push_size _ rfl
  rw [sz] at pr ⊢
  exact q _ (Heap.get?_push_of_some _ z3) ((j1.extBut e3.extBut D.i12).at fun o e => Heap.get?_push_of_some _ e) (j2.at fun o e => Heap.get?_push_of_some _ e) pr fun c o c1 c2 c3 e => Heap.get?_push_of_some _ (kk c o c1 c2 c3 e)
/-- such a zip at its end -/
theorem zs_end {Q : Fin → Shared → Prop} (hh : A.handled = none) (D : ZipApart z ti to i1 i2 l1 l2) (hz : Z2 s.heap z ti to T b) (hT : s.heap.get? T = some oT) (hti : IsPair s.heap ti (.ref i1) (.ref i2)) (h1 : s.heap.IsListIter i1 l1 k)
    (hl1 : s.heap.IsList l1 xs) (hx : xs[k]? = none)
    (q : ∀ h' e, (∀ c o, c ≠ z → c ≠ i1 → s.heap.get? c = some o → h'.get? c = some o) → (∃ o, h'.get? e = some o ∧ o.cls = .type "StopIteration") → E (.ref e) { s with heap := h' }) :
    wpAny (model P w) A (Builtin.«zip.__next__» ⟨[.ref z], []⟩) Q E s := by
  show wpAny (model P w) _ (field (.ref z) 2 >>= _) _ _ _
  refine wpAny_bind (wpAny_field hz rfl (x := .bool false) (by rfl) ?_)
  show wpAny (model P w) _ (field (.ref z) 3 >>= _) _ _ _
  refine wpAny_bind (wpAny_field hz rfl (x := .ref ti) rfl (wpAny_bind (wpAny_seqItems hti rfl ?_)))
  show wpAny (model P w) _ (Builtin.SmallTypes.ownedTupleIsFree (.ref z) >>= _) _ _ _
  refine wpAny_bind (zs_free hz hT fun g1 z1 e1 => ?_)
  rw [if_neg (by simp)]
  refine wpAny_bind ?_
  simp only [List.forIn_toArray, List.forIn_cons, List.forIn_nil]
  refine wpAny_bind (wpAny_bind (wpAny_holding ?_))
  show wpAny (model P w) _ (Builtin.SmallTypes.nextOf (.ref i1) >>= _) _ _ _
  exact wpAny_bind (wpAny_nextOf_list_end hh (h1.extBut e1.extBut D.i1z) (hl1.extBut e1.extBut D.l1z) hx fun g2 e e2 he => q g2 e (fun c o c1 c2 x => e2 _ _ c2 (e1.extBut _ _ c1 x)) he)
theorem zs_next {Q : Option Value → Shared → Prop} (D : ZipApart z ti to i1 i2 l1 l2) (hz : Z2 s.heap z ti to T b) (hT : s.heap.get? T = some oT) (hti : IsPair s.heap ti (.ref i1) (.ref i2)) (h1 : s.heap.IsListIter i1 l1 k) (h2 : s.heap.IsListIter i2 l2 k)
    (hl1 : s.heap.IsList l1 xs) (hl2 : s.heap.IsList l2 ys) (hx : xs[k]? = some x) (hy : ys[k]? = some y)
    (q : ∀ h', Z2 h' z ti to T true → h'.IsListIter i1 l1 (k + 1) → h'.IsListIter i2 l2 (k + 1) → IsPair h' s.heap.objs.size x y → (∀ c o, c ≠ z → c ≠ i1 → c ≠ i2 → s.heap.get? c = some o → h'.get? c = some o) → Q (some (.ref s.heap.objs.size)) { s with heap := h' }) :
    wpAny (model P w) A (pyNext (.ref z)) Q E s := by
  have ty : s.TypeIs (.ref z) "zip" := ⟨_, hz, rfl⟩
  unfold pyNext
  exact wpAny_bind (wpAny_attempt (wpAny_callSpecial?_slot (name := Str.ofString "__next__") ty F.slot_zip_next (wpAny_call_entry F.slot_zip_next ty F.entry_zip_next (zs_item D hz hT hti h1 h2 hl1 hl2 hx hy fun h' a1 a2 a3 a4 a5 => wpAny_pure (q h' a1 a2 a3 a4 a5)) (F.args_zip_next_1 _))))
theorem zs_done {Q : Option Value → Shared → Prop} (hh : A.handled = none) (D : ZipApart z ti to i1 i2 l1 l2) (hz : Z2 s.heap z ti to T b) (hT : s.heap.get? T = some oT) (hti : IsPair s.heap ti (.ref i1) (.ref i2)) (h1 : s.heap.IsListIter i1 l1 k)
    (hl1 : s.heap.IsList l1 xs) (hx : xs[k]? = none) (q : ∀ h', (∀ c o, c ≠ z → c ≠ i1 → s.heap.get? c = some o → h'.get? c = some o) → Q none { s with heap := h' }) : wpAny (model P w) A (pyNext (.ref z)) Q E s := by
  have ty : s.TypeIs (.ref z) "zip" := ⟨_, hz, rfl⟩
  unfold pyNext
  refine wpAny_bind (wpAny_attempt (wpAny_callSpecial?_slot (name := Str.ofString "__next__") ty F.slot_zip_next (wpAny_call_entry F.slot_zip_next ty F.entry_zip_next (zs_end hh D hz hT hti h1 hl1 hx fun h' e kk he => ?_) (F.args_zip_next_1 _))))
  obtain ⟨o, g, c⟩ := he
  exact wpAny_bind (wpAny_isInstance (T := "StopIteration") (b := true) ⟨o, g, c⟩ isSubtype_stop (wpAny_pure (q h' kk)))
end
end Sh
namespace Sh
open PySem
theorem dul_plain : plainId "dict.update.loop" = true := by decide +kernel
theorem dul_entry : entryFor table "dict.update.loop" = some Builtin.«dict.update.loop» := entryFor_of_fast (by kernel_rfl)
section
variable {P : Program} {w : World} {A : Around} {R : Result → Shared → Prop} {s : Shared} {K : Type} [DecidableEq K] {knd : HeapKind P w K}
/-- one pair is stored -/
theorem dul_step {d z a T : Addr} {i : Nat} {k : K} {v res : Value} {xs : List (K × Addr × Value)} {C : Heap → Prop} (hu : knd.room A.in1) (hz : xs.length ≤ sizeLine)
    (nx : ∀ {Q : Option Value → Shared → Prop} {E : Value → Shared → Prop}, (∀ h1, C h1 → Q (some (.ref T)) { s with heap := h1 }) → wpAny (model P w) A.in1 (pyNext (.ref z)) Q E s)
    (st : ∀ h1, C h1 → IsPair h1 T (.ref a) v ∧ knd.is h1 k a ∧ h1.DictOfH knd d xs)
    (q : ∀ h1 h' tk, C h1 → h'.DictOfH knd d (storedH xs k a v) → Heap.SameBut d h1 h' → codeAny (model P w) A (.builtin "dict.update.loop" ⟨[.ref d, .ref z, rawInt ((i + 1 : Nat) : Int), res], []⟩) R { s with heap := h', toks := tk }) :
    codeAny (model P w) A (.builtin "dict.update.loop" ⟨[.ref d, .ref z, rawInt i, res], []⟩) R s := by
  refine codeAny_builtin dul_entry ?_
  rw [Around.under_plainId dul_plain _]
  show wpAny (model P w) A.in1 (pyNext (.ref z) >>= _) _ _ s
  refine wpAny_bind (nx fun h1 c => ?_)
  obtain ⟨hp, hk, hm⟩ := st h1 c
  refine wpAny_bind (wpAny_holding (wpAny_bind (wpAny_tryCatch ?_)))
  unfold Builtin.Dict.pairItems
  refine wpAny_bind (wpAny_typeOf (s := { s with heap := h1 }) (T := "tuple") ⟨_, hp, rfl⟩ ?_)
  rw [if_pos (by decide)]
  refine wpAny_bind (wpAny_seqItems (s := { s with heap := h1 }) hp rfl (wpAny_pure ?_))
  show wpAny (model P w) A.in1 (holding [.ref a, v] (dictSet d (.ref a) v)) _ _ _
  refine wpAny_holding (wpAny_dictSet_heap (s := { s with heap := h1 }) (hsz := hz) hu hk hm fun h' hd' sb => wpAny_pure ⟨plainId_quiet dul_plain _, ?_⟩)
  exact q h1 h' _ c hd' sb
theorem dul_end {d z : Addr} {i : Nat} {res : Value} {C : Heap → Prop}
    (nx : ∀ {Q : Option Value → Shared → Prop} {E : Value → Shared → Prop}, (∀ h1, C h1 → Q none { s with heap := h1 }) → wpAny (model P w) A.in1 (pyNext (.ref z)) Q E s)
    (q : ∀ h1, C h1 → R (.ok (.ret res)) { s with heap := h1 }) :
    codeAny (model P w) A (.builtin "dict.update.loop" ⟨[.ref d, .ref z, rawInt i, res], []⟩) R s := by
  refine codeAny_builtin dul_entry ?_
  rw [Around.under_plainId dul_plain _]
  show wpAny (model P w) A.in1 (pyNext (.ref z) >>= _) _ _ s
  refine wpAny_bind (nx fun h1 c => ?_)
  show wpAny (model P w) A.in1 (Builtin.Dict.addKeywords d [] >>= _) _ _ _
  exact wpAny_bind (wpAny_pure (wpAny_pure (q h1 c)))
end
end Sh
namespace Sh
open PySem
section
variable {P : Program} {w : World} {A : Around} {E : Value → Shared → Prop} {s : Shared} {K : Type} [DecidableEq K] {knd : HeapKind P w K}
theorem atKey_fresh {k : K} : ∀ {xs : List (K × Addr × Value)}, k ∉ xs.map (·.1) → atKey xs k = none
  | [], _ => rfl
  | x :: r, h => by
    have h1 : ¬ x.1 = k := fun e => h (by rw [List.map_cons, e]; exact List.mem_cons_self ..)
    have h2 := atKey_fresh (k := k) (xs := r) fun m => h (by rw [List.map_cons]; exact List.mem_cons_of_mem _ m)
    unfold atKey at h2 ⊢
    rw [List.find?_cons, decide_eq_false h1]
    exact h2
theorem stored_take {ps : List (K × Addr × Value)} {i : Nat} {p : K × Addr × Value} (nd : (ps.map (·.1)).Nodup) (hp : ps[i]? = some p) : storedH (ps.take i) p.1 p.2.1 p.2.2 = ps.take (i + 1) := by
  have hi : i < ps.length := (List.getElem?_eq_some_iff.mp hp).1
  have fresh : p.1 ∉ (ps.take i).map (·.1) := fun m => by
    obtain ⟨x, hx, e⟩ := List.mem_map.mp m
    obtain ⟨j, hj, e2⟩ := List.mem_take_iff_getElem.mp hx
    have a1 : (ps.map (·.1))[j]? = some p.1 := by rw [List.getElem?_map, List.getElem?_eq_getElem (by omega), e2, ← e]; rfl
    have a2 : (ps.map (·.1))[i]? = some p.1 := by rw [List.getElem?_map, hp]; rfl
    have := (List.getElem?_inj (by rw [List.length_map]; omega) nd).mp (a1.trans a2.symm)
    omega
  rw [storedH_new (atKey_fresh fresh), List.take_add_one, hp]
  rfl
/-- dict.update over a zip whose first pair is out -/
theorem dul_run {R : Result → Shared → Prop} {h0 : Heap} {d z ti to i1 i2 l1 l2 T : Addr} {us vs : List Value} {ps : List (K × Addr × Value)} (hh : A.handled = none) (hu : knd.room A.in1) (D : ZipApart z ti to i1 i2 l1 l2)
    (b0 : h0.objs.size ≤ z) (b1 : h0.objs.size ≤ i1) (b2 : h0.objs.size ≤ i2) (dz : d ≠ z) (d1 : d ≠ i1) (d2 : d ≠ i2) (dt : d ≠ ti) (dT : d ≠ T) (Tz : T ≠ z) (T1 : T ≠ i1) (T2 : T ≠ i2) (bd : h0.objs.size ≤ d)
    (hl1 : h0.IsList l1 us.toArray) (hl2 : h0.IsList l2 vs.toArray) (e1 : us = ps.map fun p => .ref p.2.1) (e2 : vs = ps.map (·.2.2))
    (mono : ∀ h k a, KeepAll h0 h → knd.is h0 k a → knd.is h k a) (his : ∀ p ∈ ps, knd.is h0 p.1 p.2.1) (nd : (ps.map (·.1)).Nodup) (hl : ps.length ≤ sizeLine) :
    ∀ (n i : Nat) (s : Shared) (b : Bool) (oT : Obj), ps.length - i = n → i ≤ ps.length → KeepAll h0 s.heap → Z2 s.heap z ti to T b → s.heap.get? T = some oT → IsPair s.heap ti (.ref i1) (.ref i2) → s.heap.IsListIter i1 l1 i → s.heap.IsListIter i2 l2 i →
      s.heap.DictOfH knd d (ps.take i) → (∀ h' tk, KeepAll h0 h' → h'.DictOfH knd d ps → R (.ok (.ret .none)) { s with heap := h', toks := tk }) →
      codeAny (model P w) A (.builtin "dict.update.loop" ⟨[.ref d, .ref z, rawInt i, .none], []⟩) R s := by
  have toD : ∀ {h h1 : Heap} {i : Nat}, h.DictOfH knd d (ps.take i) → (∀ o, h.get? d = some o → h1.get? d = some o) → KeepAll h0 h1 → h1.DictOfH knd d (ps.take i) := fun {h h1 i} hd k1 k0 => by
    obtain ⟨o, es, ep, g, x, dd, ee, _, nn⟩ := hd
    exact ⟨o, es, ep, k1 o g, x, dd, ee, fun p hp => mono h1 _ _ k0 (his p (List.mem_of_mem_take hp)), nn⟩
  have lt0 : ∀ {b : Addr} {o : Obj}, h0.get? b = some o → ∀ {c : Addr}, h0.objs.size ≤ c → b ≠ c := fun g c hc => Nat.ne_of_lt (Nat.lt_of_lt_of_le (Heap.lt_size g) hc)
  intro n
  induction n with
  | zero =>
    intro i s b oT hn hi kp hz gT hti h1 h2 hd hR
    have ei : i = ps.length := by omega
    refine dul_end (C := fun h => ∀ c o, c ≠ z → c ≠ i1 → s.heap.get? c = some o → h.get? c = some o) (fun {Q E} q => zs_done hh D hz gT hti h1 (hl1.at fun o g => kp _ o g) ?_ fun h' kk => q h' kk) fun h1' kk => ?_
    · rw [e1, ei]; simp
    · have k0 : KeepAll h0 h1' := fun c o g => kk c o (lt0 g b0) (lt0 g b1) (kp c o g)
      have := toD hd (fun o g => kk d o dz d1 g) k0
      rw [ei, List.take_length] at this
      exact hR h1' s.toks k0 this
  | succ n ih =>
    intro i s b oT hn hi kp hz gT hti h1 h2 hd hR
    have lt : i < ps.length := by omega
    have gp : ps[i]? = some ps[i] := List.getElem?_eq_getElem lt
    refine dul_step (T := s.heap.objs.size) (k := ps[i].1) (a := ps[i].2.1) (v := ps[i].2.2) (xs := ps.take i) (C := fun h => Z2 h z ti to T true ∧ h.IsListIter i1 l1 (i + 1) ∧ h.IsListIter i2 l2 (i + 1) ∧ IsPair h s.heap.objs.size (.ref ps[i].2.1) ps[i].2.2 ∧ ∀ c o, c ≠ z → c ≠ i1 → c ≠ i2 → s.heap.get? c = some o → h.get? c = some o) hu (by rw [List.length_take]; omega)
      (fun {Q E} q => zs_next D hz gT hti h1 h2 (hl1.at fun o g => kp _ o g) (hl2.at fun o g => kp _ o g) (x := .ref ps[i].2.1) (y := ps[i].2.2) (by rw [e1]; simp [lt]) (by rw [e2]; simp [lt]) fun h' a1 a2 a3 a4 a5 => q h' ⟨a1, a2, a3, a4, a5⟩) (fun g c => ?_) (fun g g' tk c hd' sb => ?_)
    · obtain ⟨a1, a2, a3, a4, a5⟩ := c
      have k0 : KeepAll h0 g := fun c o x => a5 c o (lt0 x b0) (lt0 x b1) (lt0 x b2) (kp c o x)
      exact ⟨a4, mono g _ _ k0 (his _ (List.getElem_mem lt)), toD hd (fun o x => a5 d o dz d1 d2 x) k0⟩
    · obtain ⟨a1, a2, a3, a4, a5⟩ := c
      have k0 : KeepAll h0 g := fun c o x => a5 c o (lt0 x b0) (lt0 x b1) (lt0 x b2) (kp c o x)
      have k1 : KeepAll h0 g' := fun c o x => sb.extBut c o (lt0 x bd) (k0 c o x)
      rw [stored_take nd gp] at hd'
      refine ih (i + 1) _ true oT (by omega) lt k1 (sb.extBut _ _ dz.symm a1) (sb.extBut _ _ dT.symm (a5 _ _ Tz T1 T2 gT)) (sb.extBut _ _ dt.symm (a5 _ _ D.TIz D.TIi1 D.TIi2 hti)) (a2.extBut sb.extBut d1.symm) (a3.extBut sb.extBut d2.symm) hd' fun h' tk' kk dd => ?_
      exact hR h' tk' kk dd
end
end Sh
namespace Sh
open PySem
section
variable {P : Program} {w : World} {A : Around} {E : Value → Shared → Prop} {s : Shared} {K : Type} [DecidableEq K] {knd : HeapKind P w K}
/-- dict(zip(l1, l2)), the zip just made -/
theorem dict_of_zip {Q : Value → Shared → Prop} {h0 : Heap} {z ti to i1 i2 l1 l2 : Addr} {us vs : List Value} {ps : List (K × Addr × Value)} (hh : A.handled = none) (hu : knd.room A.in1.in1) (D : ZipApart z ti to i1 i2 l1 l2)
    (b0 : h0.objs.size ≤ z) (b1 : h0.objs.size ≤ i1) (b2 : h0.objs.size ≤ i2) (b3 : h0.objs.size ≤ to) (kp : KeepAll h0 s.heap) (hz : IsZip s.heap z ti to .none) (hti : IsPair s.heap ti (.ref i1) (.ref i2)) (hto : ∃ a b, IsPair s.heap to a b)
    (h1 : s.heap.IsListIter i1 l1 0) (h2 : s.heap.IsListIter i2 l2 0) (hl1 : h0.IsList l1 us.toArray) (hl2 : h0.IsList l2 vs.toArray) (e1 : us = ps.map fun p => .ref p.2.1) (e2 : vs = ps.map (·.2.2))
    (mono : ∀ h k a, KeepAll h0 h → knd.is h0 k a → knd.is h k a) (his : ∀ p ∈ ps, knd.is h0 p.1 p.2.1) (nd : (ps.map (·.1)).Nodup) (hl : ps.length ≤ sizeLine)
    (q : ∀ h' tk, KeepAll h0 h' → h'.DictOfH knd s.heap.objs.size ps → Q (.ref s.heap.objs.size) { s with heap := h', toks := tk }) :
    wpAny (model P w) A (call (.type "dict") [.ref z]) Q E s := by
  refine callType_codes (Q₁ := fun obj s₁ => obj = .ref s.heap.objs.size ∧ s₁ = { s with heap := s.heap.push { cls := .type "dict", data := .dict #[] } }) F.kt_called_dict (F.kt_typeCall_dict_1 _) F.entry_dict_init (kt_code_dict_new _ ⟨rfl, rfl⟩) fun obj s₁ hs => ?_
  obtain ⟨rfl, rfl⟩ := hs
  have new : (s.heap.push { cls := .type "dict", data := .dict #[] }).DictOfH knd s.heap.objs.size [] := Heap.DictOfH.new s.heap
  have zz : IsZip (s.heap.push { cls := .type "dict", data := .dict #[] }) z ti to .none := Heap.get?_push_of_some _ hz
  refine ⟨new.typeIs, F.args_dict_init_2 _ _, ?_⟩
  unfold Builtin.«dict.__init__» Builtin.Dict.selfAndRest
  refine wpAny_bind (wpAny_bind (wpAny_notOrdered_dict new.typeIs ?_))
  show wpAny (model P w) _ (pure (s.heap.objs.size, [Value.ref z])) _ _ _
  refine wpAny_pure ?_
  show wpAny (model P w) _ (Builtin.Dict.updateFrom "dict.__init__" s.heap.objs.size (.ref z) [] .none) _ _ _
  unfold Builtin.Dict.updateFrom
  refine wpAny_bind (wpAny_typeOf (T := "zip") ⟨_, zz, rfl⟩ ?_)
  rw [if_pos (show (Value.type "zip" != Value.type "dict") = true by decide)]
  refine wpAny_bind (zip_no_keys zz hh fun g tk kk => ?_)
  rw [if_pos (by rfl)]
  refine wpAny_bind (wpAny_rule (wpAny_bind (wpAny_pyIter_zip (kk _ _ zz) (wpAny_pure ⟨plainId_quiet dul_plain _, ?_⟩))))
  have kg : KeepAll s.heap g := fun b o x => kk b o (Heap.get?_push_of_some _ x)
  have lt0 : ∀ {b : Addr} {o : Obj}, h0.get? b = some o → ∀ {c : Addr}, h0.objs.size ≤ c → b ≠ c := fun x c hc => Nat.ne_of_lt (Nat.lt_of_lt_of_le (Heap.lt_size x) hc)
  have le0 : h0.objs.size ≤ s.heap.objs.size := Nat.le_trans b0 (Nat.le_of_lt (Heap.lt_size hz))
  obtain ⟨ta, tb, hto⟩ := hto
  obtain ⟨oo1, go1, _⟩ := id h1
  obtain ⟨oo2, go2, _⟩ := id h2
  have dz : s.heap.objs.size ≠ z := Nat.ne_of_gt (Heap.lt_size hz)
  have dti : s.heap.objs.size ≠ ti := Nat.ne_of_gt (Heap.lt_size hti)
  have dto : s.heap.objs.size ≠ to := Nat.ne_of_gt (Heap.lt_size hto)
  have d1 : s.heap.objs.size ≠ i1 := Nat.ne_of_gt (Heap.lt_size go1)
  have d2 : s.heap.objs.size ≠ i2 := Nat.ne_of_gt (Heap.lt_size go2)
  have kg0 : KeepAll h0 g := fun b o x => kg b o (kp b o x)
  have newg : g.DictOfH knd s.heap.objs.size [] := by
    obtain ⟨o, es, ep, x1, x2, x3, x4, _, x6⟩ := new
    exact ⟨o, es, ep, kk _ _ x1, x2, x3, x4, (fun x hx => by simp at hx), x6⟩
  have fin : ∀ {h' : Heap} {tk' : Nat}, KeepAll h0 h' → h'.DictOfH knd s.heap.objs.size ps → Q (.ref s.heap.objs.size) { s with heap := h', toks := tk' } := fun a b => q _ _ a b
  cases ps with
  | nil =>
    refine dul_end (C := fun h => ∀ c o, c ≠ z → c ≠ to → c ≠ i1 → c ≠ i2 → g.get? c = some o → h.get? c = some o) (fun {Q E} q => wpAny_pyNext_zip_end hh D (kg _ _ hz) (kg _ _ hti) (kg _ _ hto) (h1.at fun o x => kg _ o x) (h2.at fun o x => kg _ o x) (hl1.at fun o x => kg0 _ o x) (hl2.at fun o x => kg0 _ o x) (.inl (by rw [e1]; rfl)) fun h' k => q h' k) fun h' k => ?_
    have k0 : KeepAll h0 h' := fun c o x => k c o (lt0 x b0) (lt0 x b3) (lt0 x b1) (lt0 x b2) (kg0 c o x)
    obtain ⟨o, es, ep, x1, x2, x3, x4, _, x6⟩ := newg
    exact ⟨rfl, fin k0 ⟨o, es, ep, k _ _ dz dto d1 d2 x1, x2, x3, x4, (fun x hx => by simp at hx), x6⟩⟩
  | cons p r =>
    have gn : g.objs.size ≠ s.heap.objs.size := fun e => by
      have := Heap.lt_size (kk _ _ (Heap.get?_push_size s.heap (o := { cls := .type "dict", data := .dict #[] }) rfl))
      rw [e] at this
      exact Nat.lt_irrefl _ this
    refine dul_step (T := g.objs.size) (i := 0) (k := p.1) (a := p.2.1) (v := p.2.2) (xs := []) (C := fun h => IsZip h z ti to (rawInt g.objs.size) ∧ h.IsListIter i1 l1 1 ∧ h.IsListIter i2 l2 1 ∧ IsPair h g.objs.size (.ref p.2.1) p.2.2 ∧ ∀ c o, c ≠ z → c ≠ to → c ≠ i1 → c ≠ i2 → g.get? c = some o → h.get? c = some o) hu (Nat.zero_le _)
      (fun {Q E} q => wpAny_pyNext_zip_item D (kg _ _ hz) (kg _ _ hti) (kg _ _ hto) (h1.at fun o x => kg _ o x) (h2.at fun o x => kg _ o x) (hl1.at fun o x => kg0 _ o x) (hl2.at fun o x => kg0 _ o x) (x := .ref p.2.1) (y := p.2.2) (by rw [e1]; rfl) (by rw [e2]; rfl) fun h' a1 a2 a3 a4 a5 _ a6 => q h' ⟨a1, a3, a4, a5, a6⟩) (fun h c => ?_) (fun h h' tk' c hd' sb => ?_)
    · obtain ⟨a1, a2, a3, a4, a5⟩ := c
      have k0 : KeepAll h0 h := fun c o x => a5 c o (lt0 x b0) (lt0 x b3) (lt0 x b1) (lt0 x b2) (kg0 c o x)
      obtain ⟨o, es, ep, x1, x2, x3, x4, _, x6⟩ := newg
      exact ⟨a4, mono h _ _ k0 (his p (List.mem_cons_self ..)), ⟨o, es, ep, a5 _ _ dz dto d1 d2 x1, x2, x3, x4, (fun x hx => by simp at hx), x6⟩⟩
    · obtain ⟨a1, a2, a3, a4, a5⟩ := c
      have k0 : KeepAll h0 h := fun c o x => a5 c o (lt0 x b0) (lt0 x b3) (lt0 x b1) (lt0 x b2) (kg0 c o x)
      have k1 : KeepAll h0 h' := fun c o x => sb.extBut c o (lt0 x le0) (k0 c o x)
      have st := stored_take (ps := p :: r) (i := 0) (p := p) nd rfl
      rw [List.take_zero] at st
      rw [st] at hd'
      have ng : ∀ {c : Addr} {o : Obj}, g.get? c = some o → g.objs.size ≠ c := fun x => Nat.ne_of_gt (Heap.lt_size x)
      have ti' : IsPair h ti (.ref i1) (.ref i2) := a5 _ _ D.TIz D.TITO D.TIi1 D.TIi2 (kg _ _ hti)
      refine dul_run (A := A.in1) (h0 := h0) (T := g.objs.size) (us := us) (vs := vs) (ps := p :: r) hh hu D b0 b1 b2 dz d1 d2 dti gn.symm (ng (kg _ _ hz)) (ng (kg _ _ go1)) (ng (kg _ _ go2)) le0 hl1 hl2 e1 e2 mono his nd hl _ 1 _ false { cls := .type "tuple", data := .seq #[.ref p.2.1, p.2.2] } rfl (by simp) ?a1 ?a2 ?a3 ?a4 ?a5 ?a6 ?a7 ?a8
      case a1 => exact k1
      case a2 => exact sb.extBut _ _ dz.symm a1
      case a3 => exact sb.extBut _ _ gn a4
      case a4 => exact sb.extBut _ _ dti.symm ti'
      case a5 => exact a2.extBut sb.extBut d1.symm
      case a6 => exact a3.extBut sb.extBut d2.symm
      case a7 => exact hd'
      case a8 => exact fun h2' tk2 kx dx => ⟨rfl, fin kx dx⟩
end
end Sh

end
section
set_option Elab.async false
set_option linter.all false
set_option maxRecDepth 100000
set_option maxHeartbeats 4000000
namespace Sh
open PySem PySem.Spec PyProof.Rows L2
/-! ### a dict of data, its keys in their order -/
def DO (w : World) (H : Hp) (a : Addr) (kvs : DKv) : Prop := H a = some (dN w a kvs) ∧ ∀ x ∈ kvs, Rd H x.1 (.ref x.2.1) ∧ ddep x.1 ≤ 8
theorem DO.map {w : World} {H : Hp} {a : Addr} {kvs : DKv} (h : DO w H a kvs) : DMap w H a kvs.length (lookN kvs) := ⟨kvs, Nat.le_refl _, h.1, h.2, fun _ => rfl⟩
theorem DO.stay {w : World} {H H' : Hp} {a : Addr} {kvs : DKv} (h : DO w H a kvs) (ha : H' a = H a) (ht : Tk H H') : DO w H' a kvs := ⟨ha.trans h.1, fun x hx => ⟨(h.2 x hx).1.mono ht, (h.2 x hx).2⟩⟩
theorem do_new {w : World} {H : Hp} {a : Addr} : DO w (upd H a (dN w a [])) a [] := ⟨upd_same, fun x hx => by simp at hx⟩
section
variable {X : Cx} {pins : List (Addr × Obj)} {σ : L2.St} {H : Hp} {s : Shared} {w : World} {a : Addr} {kvs : DKv}
theorem DO.heap (I : Inv X pins σ H s) (hw : X.w = w) (h : DO w H a kvs) : kvs.length ≤ sizeLine ∧ (a == sysModules) = false ∧ ∃ xs : List (Dt × Addr × Value), Paired PN kvs xs ∧ s.heap.DictOfH (deepKind X.prog X.w) a xs := by
  subst hw
  obtain ⟨e, r⟩ := h
  obtain ⟨⟨z, y, xs, p, o, es, ep, e1, e2, e3, e4, e5⟩, junk⟩ := (show ObjOk X.prog X.w H s.heap a (dN X.w a kvs) from I.hok a _ e)
  refine ⟨z, y, xs, p, o, es, ep, e1, e2, e3, e4, ?_, e5⟩
  clear e4 e5 z e junk
  induction p with
  | nil => intro x hx; simp at hx
  | @cons p' q' ps qs hq t ih =>
    intro x hx
    rcases List.mem_cons.mp hx with rfl | hx
    · have := r p' List.mem_cons_self
      rw [hq.1, hq.2.1] at this
      exact ⟨Rd.heap I this.1 rfl, this.2⟩
    · exact ih (fun y hy => r y (List.mem_cons_of_mem _ hy)) x hx
/-- d[k] = v, in order -/
def gPutO (w : World) : TSet := fun o i v H Q => ∃ a kvs k b, o = .ref a ∧ i = .ref b ∧ DO w H a kvs ∧ kvs.length < sizeLine ∧ Rd H (.tup k) i ∧ ddep (.tup k) ≤ 8 ∧
  (Tk H (upd H a (dN w a (putN kvs (.tup k) b v))) → DO w (upd H a (dN w a (putN kvs (.tup k) b v))) a (putN kvs (.tup k) b v) → Q (upd H a (dN w a (putN kvs (.tup k) b v))))
theorem set_putO (hu : X.A.units + 9 < cLine) (hw : X.w = w := by rfl) : PSet X (gPutO w) := by
  intro pins s σ H o i v ov iv u Q I ro ri rv h
  obtain ⟨a, kvs, k, b, rfl, rfl, D, hn, hk, hk8, q⟩ := h
  cases ro
  cases ri
  obtain ⟨z, hd, xs, p, dd⟩ := D.heap I hw
  have kat := Rd.heap I hk rfl
  refine wpAny_setItem_heap (knd := deepKind X.prog X.w) (k := .tup k) (hsz := by rw [← Paired.length p]; exact z) (show X.A.units + 1 + 8 < cLine by omega) ⟨kat, hk8⟩ dd fun h' dd' hs => ?_
  have tk : Tk H (upd H a (dN w a (putN kvs (.tup k) b v))) := fun c ys hc => by rw [upd_ne (ne_of hc D.1 (fun z => nomatch z))]; exact hc
  have hl := len_put (k := .tup k) (a := b) (v := v) kvs
  obtain ⟨ob, es, ep, h1, h2, h3, h4, _, h5⟩ := dd'
  refine ⟨_, I.write (x := a) (e := a) (o := dN w a (putN kvs (.tup k) b v)) (by rw [D.1]; exact trivial) (.inl rfl) (fun c x hc hx => (hs.2 c hc).trans hx) ⟨ob, h1⟩ (dn_ok ⟨by omega, hd, _, put_rel rv p, ob, es, ep, h1, h2, h3, ?_, h5⟩), q tk ⟨upd_same, fun x hx => ?_⟩⟩
  · subst hw; exact h4
  · rcases mem_put hx with ⟨x1, x2⟩ | ⟨y, hy, x1, x2⟩
    · rw [x1, x2]; exact ⟨hk.mono tk, hk8⟩
    · rw [← x1, ← x2]; exact ⟨(D.2 y hy).1.mono tk, (D.2 y hy).2⟩
/-- d[k] -/
def rIxN (w : World) : R2 := fun x y H Q => ∃ a n f k v, x = .ref a ∧ DMap w H a n f ∧ Rd H (.tup k) y ∧ ddep (.tup k) ≤ 8 ∧ f (.tup k) = some v ∧ Q v H
theorem ix_N (hu : X.A.units + 9 < cLine) (hw : X.w = w := by rfl) : IxR X (rIxN w) := by
  intro value slice pins s σ H x y v u Q I rx ry h hs
  obtain ⟨a, n, f, k, z, rfl, D, hk, hk8, hf, q⟩ := h
  cases rx
  obtain ⟨kvs, xs, _, _, _, _, hg, hd, p, dd⟩ := D.heap I hw
  have kat := Rd.heap I hk ry
  have hk' := hk
  rw [Rd] at hk'
  obtain ⟨b, _, rfl, _⟩ := hk'
  cases ry
  have rl := look_rel (k := .tup k) p
  rw [← hg, hf] at rl
  cases e : atKey xs (.tup k) with
  | none => rw [e] at rl; exact False.elim rl
  | some pr =>
    rw [e] at rl
    exact subscriptTail_builtinR (x := pr.2) dd.typeIs F.slot_dict_getitem.lookup
      (wpAny_getItem_heap (knd := deepKind X.prog X.w) (Q := fun r s' => r = pr.2 ∧ EP X pins σ Q r s') (show X.A.units + 1 + 8 < cLine by omega) ⟨kat, hk8⟩ dd e ⟨rfl, z, H, I.tok _, rl, q⟩) hs
/-- list(d) -/
theorem call_listN (hh : X.A.handled = none) (hw : X.w = w := by rfl) : CallR X (.type "list") (fun xs H Q => ∃ a kvs, xs = [.ref a] ∧ DO w H a kvs ∧ ∀ l, H l = none → Q (.ref l) (upd H l (.lst (kvs.map fun x => .ref x.2.1)))) := by
  intro pins s σ H xs us Q I r h
  obtain ⟨a, kvs, rfl, D, q⟩ := h
  obtain ⟨u, rfl, rx⟩ := vals1 r
  cases rx
  obtain ⟨z, big, xs, p, o, es, ep, g, ex, dt, ee, hx1, hx2⟩ := D.heap I hw
  clear hx1 hx2
  have len : es.size = kvs.length := by rw [← Array.length_toList, ee, List.length_map, ← Paired.length p]
  have src : PySem.W.KdlSrc X.prog X.w "dict" a a es.size (fun i v => ∃ e, es[i]? = some e ∧ v = e.key) (fun h => RawD h a es ep) :=
    { type := fun _ R => let ⟨o, g, ex, _⟩ := R; ⟨o, g, ex.1⟩
      there := fun _ R => let ⟨o, g, _⟩ := R; ⟨Heap.lt_size g, Heap.lt_size g⟩
      keep := fun _ _ R k => R.at fun o g => k a (.inl rfl) o g
      notList := by decide
      notTuple := by decide
      hint := fun _ _ _ _ R q => PySem.W.kdl_hint_dict (let ⟨o, g, ex, _⟩ := R; ⟨o, g, ex.1⟩) q
      iter := fun _ _ hh R => ⟨_, _, (fun _ _ q => raw_iter big R q), raw_walks hh _ a (Nat.ne_of_lt (let ⟨o, g, _⟩ := R; Heap.lt_size g)) es ep, ⟨_, Heap.get?_push_size _ rfl, rfl, rfl⟩, R.at fun o g => Heap.get?_push_of_some _ g⟩ }
  refine PySem.W.kdl_call src hh ⟨o, g, ex, dt⟩ (by rw [len]; exact z) fun h' tk acc c kk gl it => ?_
  have ev : acc.toList = xs.map fun x => .ref x.2.1 := by
    refine List.ext_getElem? fun i => ?_
    rw [List.getElem?_map, Array.getElem?_toList]
    cases e : xs[i]? with
    | none =>
      have : xs.length ≤ i := by simpa using e
      have l2 : es.size = xs.length := by rw [← Array.length_toList, ee, List.length_map]
      simp only [Option.map_none]
      rw [Array.getElem?_eq_none (by rw [it.1]; omega)]
    | some x =>
      have l2 : es.size = xs.length := by rw [← Array.length_toList, ee, List.length_map]
      have hi : i < xs.length := (List.getElem?_eq_some_iff.mp e).1
      have hi2 : i < acc.size := by rw [it.1]; omega
      obtain ⟨en, e1, e2⟩ := it.2 i acc[i] (by simp [hi2])
      have e3 : es[i]? = some (entryOfKey (deepKind X.prog X.w) x) := by rw [← Array.getElem?_toList, ee, List.getElem?_map, e]; rfl
      rw [e3] at e1; cases e1
      rw [Array.getElem?_eq_getElem hi2, e2]
      rfl
  have vl : Vals (kvs.map fun x => V.ref x.2.1) acc.toList := by
    rw [ev]
    clear ev it gl kk ee len src D q z
    induction p with
    | nil => exact .nil
    | cons r t ih => exact .cons (show Value.ref _ = Value.ref _ by rw [r.2.1]) ih
  refine ⟨.ref s.heap.objs.size, _, I.laid (a := s.heap.objs.size) (o := .lst (kvs.map fun x => .ref x.2.1)) (t' := tk) kk (Nat.le_refl _) ⟨by rw [List.length_map]; exact z, acc.toList, c, vl, by simpa using gl⟩, rfl, q _ I.fresh⟩
end
end Sh
namespace Sh
open PySem PySem.Spec PyProof.Rows L2
theorem pairedGet {α β : Type} {F : α → β → Prop} : ∀ {l₁ : List α} {l₂ : List β}, Paired F l₁ l₂ → ∀ (i : Nat) (h1 : i < l₁.length) (h2 : i < l₂.length), F l₁[i] l₂[i]
  | _, _, .nil, i, h1, _ => absurd h1 (Nat.not_lt_zero i)
  | _, _, .cons r t, 0, _, _ => r
  | _, _, .cons r t, i + 1, h1, h2 => pairedGet t i (Nat.lt_of_succ_lt_succ h1) (Nat.lt_of_succ_lt_succ h2)
theorem keep_DtAt {h h' : Heap} (k : KeepAll h h') {d : Dt} {u : Value} (x : DtAt h d u) : DtAt h' d u := DtAt.stay (fun b its p => let ⟨o, g, r⟩ := p; ⟨o, k b o g, r⟩) _ _ x
/-- the keys, where they lie, and the values -/
theorem keys_of {H : Hp} : ∀ {ds : List Dt} {xs ys : List V}, Rds H ds xs → (∀ d ∈ ds, ∃ k, d = .tup k) → xs.length = ys.length →
    ∃ kvs : DKv, kvs.map (·.1) = ds ∧ (kvs.map fun x => V.ref x.2.1) = xs ∧ kvs.map (·.2.2) = ys ∧ ∀ x ∈ kvs, Rd H x.1 (.ref x.2.1)
  | [], xs, ys, h, _, e => by
    rw [Rds] at h
    subst h
    cases ys with
    | nil => exact ⟨[], rfl, rfl, rfl, fun x hx => by simp at hx⟩
    | cons y r => simp at e
  | d :: ds, xs, ys, h, ht, e => by
    rw [Rds] at h
    obtain ⟨v, r, rfl, h1, h2⟩ := h
    cases ys with
    | nil => simp at e
    | cons y ys =>
      obtain ⟨kvs, a1, a2, a3, a4⟩ := keys_of h2 (fun d hd => ht d (List.mem_cons_of_mem _ hd)) (ys := ys) (by simpa using e)
      obtain ⟨k, rfl⟩ := ht d (List.mem_cons_self ..)
      have h1' := h1
      rw [Rd] at h1'
      obtain ⟨a, _, rfl, _⟩ := h1'
      refine ⟨(.tup k, a, y) :: kvs, by rw [List.map_cons, a1], by rw [List.map_cons, a2], by rw [List.map_cons, a3], fun x hx => ?_⟩
      rcases List.mem_cons.mp hx with rfl | hx
      · exact h1
      · exact a4 x hx
theorem pair_vals : ∀ {kvs : DKv} {us : List Value}, Vals (kvs.map (·.2.2)) us → ∃ ps : List (Dt × Addr × Value), Paired PN kvs ps ∧ ps.map (·.2.2) = us ∧ (ps.map fun p => Value.ref p.2.1) = kvs.map (fun x => .ref x.2.1) ∧ ps.map (·.1) = kvs.map (·.1)
  | [], us, h => by cases h; exact ⟨[], .nil, rfl, rfl, rfl⟩
  | x :: r, us, h => by
    cases h with
    | cons h1 h2 =>
      obtain ⟨ps, a1, a2, a3, a4⟩ := pair_vals h2
      exact ⟨(x.1, x.2.1, _) :: ps, .cons ⟨rfl, rfl, h1⟩ a1, by rw [List.map_cons, a2], by rw [List.map_cons, List.map_cons, a3], by rw [List.map_cons, List.map_cons, a4]⟩
/-- dict(zip(l, m)), lists; the keys data, no two alike -/
def tDictZ (w : World) (ta : TA) : TE := fun σ H Q => ta σ H fun vs H1 => ∃ l1 l2 xs ys ds, vs = [.ref l1, .ref l2] ∧ H1 l1 = some (.lst xs) ∧ H1 l2 = some (.lst ys) ∧ xs.length = ys.length ∧ Rds H1 ds xs ∧ ds.Nodup ∧ (∀ d ∈ ds, (∃ k, d = .tup k) ∧ ddep d ≤ 8) ∧
  ∀ (p : Addr) (kvs : DKv), H1 p = none → kvs.map (·.1) = ds → kvs.map (·.2.2) = ys → DO w (upd H1 p (dN w p kvs)) p kvs → Q (.ref p) (upd H1 p (dN w p kvs))
theorem vals_refs {as : List Addr} {us : List Value} (h : Vals (as.map V.ref) us) : us = as.map Value.ref := by
  induction as generalizing us with
  | nil => cases h; rfl
  | cons a r ih =>
    cases h with
    | cons h1 h2 => rw [ih h2, List.map_cons, show _ = Value.ref a from h1]
theorem pe_dictZ {X : Cx} {a b : Expr} {ta : TA} {p p' pos pos' : Pos} {w : World} (hh : X.A.handled = none) (hu : X.A.units + 40 < cLine) (hgd : Gl X "dict") (hmd : X.mg "dict" = none) (hg : Gl X "zip") (hm : X.mg "zip" = none) (ha : PA X [a, b] ta) (hw : X.w = w := by rfl)
    (hs : starEach [a, b] X.env = [(false, eval a X.env), (false, eval b X.env)] := by rfl) (hs2 : starEach [b] X.env = [(false, eval b X.env)] := by rfl)
    (hz : starEach [Expr.Call (.Name "zip" p') [a, b] [] pos'] X.env = [(false, eval (.Call (.Name "zip" p') [a, b] [] pos') X.env)] := by rfl) :
    PE X (.Call (.Name "dict" p) [.Call (.Name "zip" p') [a, b] [] pos'] [] pos) (tDictZ w ta) := by
  intro pins s σ H Q I h
  subst hw
  refine wpAny_Call_Name_kw (ld_blt I hgd hmd PyProof.Rows.boot_dict (PyProof.Rows.callWith_type1 ?_ (by rw [hz]; rfl) (by rfl)))
  rw [hz]
  refine Calls.spliced_cons ?_
  refine Call_ (ld_blt I hg hm boot_zip (PyProof.Rows.callWith_type1 (thn (ha pos' pins s σ H _ I h) fun us s1 ⟨vs, H1, I1, r1, q1⟩ => ?_) (by rw [hs, hs2]) (by rw [hs2]; rfl)))
  obtain ⟨l1, l2, xs, ys, ds, e, h1, h2, hlen, hd, nd, hk, q⟩ := q1
  subst e
  obtain ⟨u1, u2, rfl, e1, e2⟩ := vals2 r1
  cases (show u1 = Value.ref l1 from e1)
  cases (show u2 = Value.ref l2 from e2)
  obtain ⟨us, ru, pu, zu⟩ := I1.list (SqL.of h1)
  obtain ⟨vs, rv, pv, _⟩ := I1.list (SqL.of h2)
  obtain ⟨kvs, a1, a2, a3, a4⟩ := keys_of hd (fun d m => (hk d m).1) hlen
  subst a1 a2 a3
  obtain ⟨ps, b1, b2, b3, b4⟩ := pair_vals rv
  have lk : kvs.length ≤ sizeLine := by simpa using zu
  have lp : ps.length = kvs.length := (Paired.length b1).symm
  refine call_zip_2 pu.isList pv.isList fun g z1 t1 o1 j1 j2 _ kk => Calls.spliced_nil ?_
  have eu : us = ps.map fun p => Value.ref p.2.1 := by
    rw [b3]
    have := vals_refs (as := kvs.map (·.2.1)) (us := us) (by simpa [List.map_map, Function.comp_def] using ru)
    simpa [List.map_map, Function.comp_def] using this
  refine dict_of_zip (knd := deepKind X.prog X.w) (h0 := s1.heap) (us := us) (vs := vs) (ps := ps) hh (by show X.A.units + 1 + 1 + 8 < cLine; omega) (zipApart_new (I1.hok.lt h1) (I1.hok.lt h2)) (Nat.le_add_right _ 4) (Nat.le_refl _) (Nat.le_add_right _ 1) (Nat.le_add_right _ 3) kk z1 t1 ⟨_, _, o1⟩ j1 j2 pu.isList pv.isList eu b2.symm
    (fun h k a kp x => ⟨keep_DtAt kp x.1, x.2⟩) (fun p hp => ?_) (by rw [b4]; exact nd) (by rw [lp]; exact lk) fun h' tk kp dd => ?_
  · obtain ⟨i, hi, e⟩ := List.mem_iff_getElem.mp hp
    have hi' : i < kvs.length := by omega
    have pk : PN kvs[i] ps[i] := by
      clear eu b2 b3 b4 rv ru
      exact pairedGet b1 i hi' hi
    have m : kvs[i] ∈ kvs := List.getElem_mem hi'
    have := Rd.heap I1 (a4 _ m) rfl
    rw [pk.1, pk.2.1, e] at this
    refine ⟨this, ?_⟩
    rw [← e, ← pk.1]
    exact (hk _ (List.mem_map.mpr ⟨_, m, rfl⟩)).2
  · obtain ⟨ob, es, ep, g1, g2, g3, g4, _, g6⟩ := dd
    have big : (g.objs.size == sysModules) = false := by
      have h0 : mainGlobals < s1.heap.objs.size := (I1.mod.glob.keeps I1.bk).lt
      have h3 : s1.heap.objs.size < g.objs.size := Nat.lt_of_le_of_lt (Nat.le_add_right _ 4) (Heap.lt_size z1)
      exact beq_eq_false_iff_ne.mpr (Ne.symm (Nat.ne_of_lt (Nat.lt_trans (Nat.lt_trans (by decide) h0) h3)))
    have le : s1.heap.objs.size ≤ g.objs.size := Nat.le_of_lt (Nat.lt_of_le_of_lt (Nat.le_add_right _ 4) (Heap.lt_size z1))
    have fr : H1 g.objs.size = none := I1.hok.fresh le
    have tk' : Tk H1 (upd H1 g.objs.size (dN X.w g.objs.size kvs)) := fun c ys hc => by rw [upd_ne (fun z => by rw [z, fr] at hc; cases hc)]; exact hc
    refine ⟨.ref g.objs.size, _, I1.laid (a := g.objs.size) (o := dN X.w g.objs.size kvs) (t' := tk) kp le (dn_ok ⟨lk, big, ps, b1, ob, es, ep, g1, g2, g3, g4, g6⟩), rfl, q _ kvs fr rfl rfl ⟨upd_same, fun x hx => ⟨(a4 x hx).mono tk', (hk _ (List.mem_map.mpr ⟨x, hx, rfl⟩)).2⟩⟩⟩
end Sh
namespace Sh
open PySem PySem.Spec PyProof.Rows L2
/-! ### xs.index(x); == of two lists of bools -/
theorem mt_indexD {X : Cx} {n : Nat} (hu : X.A.units + n + 2 < cLine) : MtR X "list.index" (fun x xs H Q => ∃ l vs ds y d j, x = .ref l ∧ xs = [y] ∧ SqL X.K H l vs ∧ Rds H ds vs ∧ Rd H d y ∧ ddepL ds ≤ n ∧ ds[j]? = some d ∧ (∀ m, m < j → ds[m]? ≠ some d) ∧ Q (.int (j : Nat)) H) := by
  intro pins s σ H x xs v us Q I rx rv h
  obtain ⟨l, vs, ds, y, d, j, rfl, rfl, hl, hd, hy, hn, hj, hm, q⟩ := h
  cases rx
  obtain ⟨u, rfl, ru⟩ := vals1 rv
  obtain ⟨its, ri, pl, hz⟩ := I.list hl
  have l1 := hd.length
  have l2 := ri.length
  have hjl : j < ds.length := (List.getElem?_eq_some_iff.mp hj).1
  obtain ⟨o, n', g, hc, hdd, hdat⟩ := pl
  have go : s.heap.get? l = some { cls := .type "list", dict := none, data := .seq its.toArray n', slots := o.slots } := by
    obtain ⟨c, dc, dt, sl⟩ := o
    simp only at hc hdd hdat
    subst hc hdd hdat
    exact g
  have key : ∀ m (hm : m < its.toArray.size), ∃ e w', ds[m]? = some e ∧ RelV w' its.toArray[m] ∧ Rd H e w' := fun m hm => by
    have m1 : m < its.length := by simpa using hm
    have m2 : m < vs.length := by omega
    obtain ⟨e, e1, r1⟩ := hd.get (List.getElem?_eq_getElem m2)
    obtain ⟨w', f1, q1⟩ := ri.get (List.getElem?_eq_getElem m2)
    refine ⟨e, _, e1, ?_, r1⟩
    have : its.toArray[m] = w' := by
      have := List.getElem?_eq_some_iff.mp f1
      simpa using this.2
    rw [this]; exact q1
  have hjs : j < its.toArray.size := by simp; omega
  have bound := line63
  refine call_meets F.slot_list_index ⟨_, go, rfl⟩ F.entry_list_index (F.args_list_index_2 _ _) (SeqAt.list_indexAt l its.toArray n' none o.slots u (hasD H d) j hjs (by omega) ?_ (fun m hm' lt => ?_)) ⟨go, fun z hz' => ?_, ⟨.int j, H, I.tok _, ⟨_, rfl⟩, q⟩⟩
  · obtain ⟨e, w', e1, r1, r2⟩ := key j hjs
    rw [hj] at e1; cases e1
    rw [hasD_eq r1 r2]
    exact (deq_iff _ _).mpr rfl
  · obtain ⟨e, w', e1, r1, r2⟩ := key m hm'
    rw [hasD_eq r1 r2]
    cases e2 : deq e d with
    | false => rfl
    | true => rw [deq_iff] at e2; subst e2; exact absurd e1 (hm m lt)
  · obtain ⟨e, w', m, rw', he⟩ := mem_has hd ri (show z ∈ its by simpa using hz')
    rw [hasD_eq rw' he]
    have := ddepL_mem m
    exact eqAt_D I n X.A.in1 e d w' y z u (by omega) (by show X.A.units + 1 + n < cLine; omega) he hy rw' ru
def rEqLB (K : PySem.W.Frag) : R2 := fun x y H Q => ∃ (p q : Addr) (bs cs : List Bool), x = .ref p ∧ y = .ref q ∧ SqL K H p (bs.map V.bl) ∧ SqL K H q (cs.map V.bl) ∧ bs.length = cs.length ∧ Q (.bl (decide (bs = cs))) H
theorem op_eqLB {X : Cx} (hu : X.A.units + 2 < cLine) : OpR X (compareOp .Eq) (rEqLB X.K) := by
  intro pins s σ H x y u v Q I r r' h
  obtain ⟨p, q, bs, cs, rfl, rfl, h1, h2, hl, hq⟩ := h
  cases r
  cases r'
  obtain ⟨its, ri, pl, _⟩ := I.list h1
  obtain ⟨its', ri', pl', _⟩ := I.list h2
  have l3 := ri.length
  have l4 := ri'.length
  rw [List.length_map] at l3 l4
  have at_ : ∀ {bs : List Bool} {its : List Value}, Vals (bs.map V.bl) its → ∀ j (hj : j < its.toArray.size), ∃ b, bs[j]? = some b ∧ its.toArray[j] = .bool b := fun {bs its} ri j hj => by
    have l := ri.length
    rw [List.length_map] at l
    have j1 : j < bs.length := by rw [l]; simpa using hj
    have e1 : (bs.map V.bl)[j]? = some (.bl bs[j]) := by rw [List.getElem?_map, List.getElem?_eq_getElem j1]; rfl
    obtain ⟨u1, f1, q1⟩ := ri.get e1
    refine ⟨bs[j], List.getElem?_eq_getElem j1, ?_⟩
    have : its.toArray[j] = u1 := by
      have := List.getElem?_eq_some_iff.mp f1
      simpa using this.2
    rw [this]; exact q1
  refine SeqAt.eq_listAt (e := fun j => (bs[j]?.getD false) == (cs[j]?.getD false)) pl.isList pl'.isList (by simp; omega) (by omega) (fun j g1 g2 => ?_) ⟨.bl _, H, I, rfl, ?_⟩
  · obtain ⟨b, e1, f1⟩ := at_ ri j g1
    obtain ⟨c, e2, f2⟩ := at_ ri' j g2
    rw [f1, f2, e1, e2]
    exact SeqAt.EqAt.bool_bool b c
  · have z : ((List.range its.toArray.size).all fun j => (bs[j]?.getD false) == (cs[j]?.getD false)) = decide (bs = cs) := by
      rw [Bool.eq_iff_iff, List.all_eq_true, decide_eq_true_iff]
      have sz : its.toArray.size = bs.length := by simp; omega
      rw [sz]
      constructor
      · intro h
        refine List.ext_getElem hl fun i a1 a2 => ?_
        have := h i (List.mem_range.mpr a1)
        rw [List.getElem?_eq_getElem a1, List.getElem?_eq_getElem a2] at this
        simpa using this
      · rintro rfl i _
        simp
    rw [z]
    exact hq
end Sh

end
section
set_option Elab.async false
set_option linter.all false
set_option maxRecDepth 100000
set_option maxHeartbeats 4000000
namespace Sh
open PySem PySem.Spec PyProof.Rows L2
/-! ### forms as valuations see them -/
inductive Fm where
  | no
  | atom (d : Dt)
  | cond (a b : Fm)
def RF (H : Hp) : Fm → V → Prop
  | .no, v => ∃ a, v = .ref a ∧ H a = some (.tup [.str "no"])
  | .atom d, v => Rd H d v
  | .cond x y, v => ∃ a u1 u2, v = .ref a ∧ H a = some (.tup [.str "if", u1, u2]) ∧ RF H x u1 ∧ RF H y u2
theorem RF.mono {H H' : Hp} (k : Tk H H') : ∀ {f : Fm} {v : V}, RF H f v → RF H' f v
  | .no, v, h => by obtain ⟨a, e, g⟩ := h; exact ⟨a, e, k _ _ g⟩
  | .atom d, v, h => Rd.mono k h
  | .cond x y, v, h => by obtain ⟨a, u1, u2, e, g, h1, h2⟩ := h; exact ⟨a, u1, u2, e, k _ _ g, RF.mono k h1, RF.mono k h2⟩
/-- an atom: a tuple whose first item is a text that is none of the two -/
def Atm (d : Dt) : Prop := ∃ t ds, d = .tup (.str t :: ds) ∧ t ≠ "if" ∧ t ≠ "no" ∧ ddep d ≤ 8
def Fok : Fm → Prop
  | .no => True
  | .atom d => Atm d
  | .cond x y => Fok x ∧ Fok y
def fdep : Fm → Nat
  | .cond x y => 1 + max (fdep x) (fdep y)
  | .no => 1
  | .atom _ => 1
def isCond : Fm → Bool
  | .cond _ _ => true
  | _ => false
def isNo : Fm → Bool
  | .no => true
  | _ => false
theorem fdep_pos (f : Fm) : 1 ≤ fdep f := by cases f <;> simp only [fdep] <;> omega
def leaves : Fm → Nat
  | .cond x y => leaves x + leaves y
  | .no => 1
  | .atom _ => 1
def met : Fm → List Dt → List Dt
  | .no, m => m
  | .atom d, m => if (m.any fun e => deq e d) then m else m ++ [d]
  | .cond x y, m => met y (met x m)
def ev (g : Dt → Bool) : Fm → Bool
  | .no => false
  | .atom d => g d
  | .cond x y => !ev g x || ev g y
def ats : Fm → List Dt
  | .no => []
  | .atom d => [d]
  | .cond x y => ats x ++ ats y
def vlu : List Dt → List Bool → Dt → Bool
  | k :: ks, b :: bs, d => if deq k d then b else vlu ks bs d
  | _, _, _ => false
def frst (f : Fm) (ks : List Dt) : Nat → List Bool → Option (List Bool)
  | 0, bs => if ev (vlu ks bs) f then none else some bs
  | n + 1, bs => match frst f ks n (bs ++ [false]) with
    | some r => some r
    | none => frst f ks n (bs ++ [true])
theorem met_len : ∀ (f : Fm) (m : List Dt), (met f m).length ≤ m.length + leaves f
  | .no, m => by rw [met]; omega
  | .atom d, m => by
    rw [met]
    split
    · omega
    · rw [List.length_append, List.length_singleton, leaves]; exact Nat.le_refl _
  | .cond x y, m => by
    have h1 := met_len x m
    have h2 := met_len y (met x m)
    rw [met, leaves]; omega
theorem met_sub : ∀ (f : Fm) {m : List Dt} {d : Dt}, d ∈ m → d ∈ met f m
  | .no, m, d, h => h
  | .atom e, m, d, h => by
    rw [met]
    split
    · exact h
    · exact List.mem_append_left _ h
  | .cond x y, m, d, h => met_sub y (met_sub x h)
theorem met_ats : ∀ (f : Fm) (m : List Dt) {d : Dt}, d ∈ ats f → d ∈ met f m
  | .no, m, d, h => by cases h
  | .atom e, m, d, h => by
    have : d = e := by simpa [ats] using h
    subst this
    rw [met]
    split
    · rename_i c; exact any_mem.mp c
    · exact List.mem_append_right _ (List.mem_cons_self ..)
  | .cond x y, m, d, h => by
    rw [ats] at h
    rcases List.mem_append.mp h with h | h
    · exact met_sub y (met_ats x m h)
    · exact met_ats y _ h
theorem met_nodup : ∀ (f : Fm) {m : List Dt}, m.Nodup → (met f m).Nodup
  | .no, m, h => h
  | .atom d, m, h => by
    rw [met]
    split
    · exact h
    · rename_i c
      rw [List.nodup_append]
      refine ⟨h, by simp, fun a ha b hb => ?_⟩
      have : b = d := by simpa using hb
      subst this
      exact fun e => c (any_mem.mpr (e ▸ ha))
  | .cond x y, m, h => met_nodup y (met_nodup x h)
theorem met_ok : ∀ (f : Fm) {m : List Dt}, Fok f → (∀ d ∈ m, Atm d) → ∀ d ∈ met f m, Atm d
  | .no, m, _, h => h
  | .atom e, m, h0, h => by
    rw [met]
    split
    · exact h
    · intro d hd
      rcases List.mem_append.mp hd with hd | hd
      · exact h d hd
      · have : d = e := by simpa using hd
        subst this; exact h0
  | .cond x y, m, h0, h => met_ok y h0.2 (met_ok x h0.1 h)
theorem frst_len {f : Fm} {ks : List Dt} : ∀ {n : Nat} {bs r : List Bool}, frst f ks n bs = some r → r.length = bs.length + n
  | 0, bs, r, h => by
    rw [frst] at h
    split at h
    · cases h
    · cases h; rfl
  | n + 1, bs, r, h => by
    rw [frst] at h
    cases e : frst f ks n (bs ++ [false]) with
    | some r' =>
      rw [e] at h
      have h' : r' = r := Option.some.inj h
      subst h'
      have := frst_len e
      rw [List.length_append, List.length_singleton] at this
      omega
    | none =>
      rw [e] at h
      have := frst_len h
      rw [List.length_append, List.length_singleton] at this
      omega
/-- where it stands, and what is said there -/
theorem vlu_at : ∀ {ks : List Dt} {bs : List Bool} {d : Dt}, d ∈ ks → bs.length = ks.length → ∃ j : Nat, ks[j]? = some d ∧ (∀ m, m < j → ks[m]? ≠ some d) ∧ bs[j]? = some (vlu ks bs d)
  | [], bs, d, h, _ => by cases h
  | k :: ks, [], d, h, e => by simp at e
  | k :: ks, b :: bs, d, h, e => by
    by_cases c : k = d
    · refine ⟨0, by rw [c]; rfl, fun m hm => by omega, ?_⟩
      rw [vlu, if_pos ((deq_iff _ _).mpr c)]; rfl
    · have hd : d ∈ ks := by
        rcases List.mem_cons.mp h with h | h
        · exact absurd h.symm c
        · exact h
      obtain ⟨j, j1, j2, j3⟩ := vlu_at (bs := bs) hd (by simpa using e)
      refine ⟨j + 1, by simpa using j1, fun m hm => ?_, ?_⟩
      · cases m with
        | zero => intro q; exact c (Option.some.inj (by simpa using q))
        | succ m => intro q; exact j2 m (by omega) (by simpa using q)
      · rw [vlu, if_neg (fun q => c ((deq_iff _ _).mp q))]
        simpa using j3
theorem look_vlu : ∀ {kvs : DKv} {bs : List Bool} {d : Dt}, kvs.map (·.2.2) = bs.map V.bl → d ∈ kvs.map (·.1) → lookN kvs d = some (.bl (vlu (kvs.map (·.1)) bs d))
  | [], bs, d, _, h => by cases h
  | p :: r, [], d, e, _ => by cases e
  | p :: r, b :: bs, d, e, h => by
    rw [List.map_cons, List.map_cons] at e
    injection e with e1 e2
    rw [lookN_cons, List.map_cons, vlu]
    by_cases c : p.1 = d
    · rw [if_pos c, if_pos ((deq_iff _ _).mpr c), e1]
    · rw [if_neg c, if_neg (fun q => c ((deq_iff _ _).mp q))]
      rw [List.map_cons] at h
      refine look_vlu e2 ?_
      rcases List.mem_cons.mp h with h | h
      · exact absurd h.symm c
      · exact h
/-- the dict has these keys, in this order -/
def DK (w : World) (H : Hp) (a : Addr) (m : List Dt) : Prop := ∃ kvs : DKv, DO w H a kvs ∧ kvs.map (·.1) = m
theorem lookN_some {kvs : DKv} {k : Dt} : (lookN kvs k).isSome = (kvs.map (·.1)).any fun e => deq e k := by
  induction kvs with
  | nil => rfl
  | cons p r ih =>
    rw [lookN_cons, List.map_cons, List.any_cons, ← ih]
    by_cases c : p.1 = k
    · rw [if_pos c, (deq_iff _ _).mpr c]; rfl
    · rw [if_neg c]
      cases e : deq p.1 k with
      | false => rfl
      | true => exact absurd ((deq_iff _ _).mp e) c
theorem put_keys {kvs : DKv} {k : Dt} {a : Addr} {v : V} : (putN kvs k a v).map (·.1) = if ((kvs.map (·.1)).any fun e => deq e k) then kvs.map (·.1) else kvs.map (·.1) ++ [k] := by
  unfold putN
  rw [lookN_some]
  split
  · rw [List.map_map]
    refine List.map_congr_left fun x _ => ?_
    show (setN k v x).1 = x.1
    unfold setN
    split <;> rfl
  · rw [List.map_append]; rfl
variable [Inn]
/-! ### promises -/
def spGather (w : World) (n : Nat) : Sp := fun vs H Q _ => ∃ v a f m, vs = [v, .ref a] ∧ RF H f v ∧ Fok f ∧ fdep f ≤ n ∧ DK w H a m ∧ m.length + leaves f ≤ 1000 ∧ ∀ H', (∀ b, b ≠ a → H' b = H b) → Tk H H' → DK w H' a (met f m) → Q .non H'
def spAtoms (n : Nat) : Sp := fun vs H Q _ => ∃ v f, vs = [v] ∧ RF H f v ∧ Fok f ∧ fdep f ≤ n ∧ leaves f ≤ 1000 ∧ ∀ l xs H', Same H H' → H' l = some (.lst xs) → Rds H' (met f []) xs → Q (.ref l) H'
def spTrueU (w : World) (n : Nat) : Sp := fun vs H Q _ => ∃ v a f k g val, vs = [v, .ref a] ∧ RF H f v ∧ Fok f ∧ fdep f ≤ n ∧ DMap w H a k g ∧ (∀ d ∈ ats f, g d = some (.bl (val d))) ∧ Q (.bl (ev val f)) H
/-- what a search for a refuter gives back -/
def Gives (r : Option (List Bool)) (H : Hp) (Q : VK) : Prop := (r = none → ∀ H', Same H H' → Q .non H') ∧ ∀ bs, r = some bs → ∀ l H', Same H H' → H' l = some (.lst (bs.map V.bl)) → Q (.ref l) H'
/-- n = how deep the form is, m = how many atoms are still open -/
def spFirst (n M : Nat) : Sp := fun vs H Q _ => ∃ m, m ≤ M ∧ ∃ v l la f xs ks bs, vs = [v, .ref l, .ref la] ∧ RF H f v ∧ Fok f ∧ fdep f ≤ n ∧ H l = some (.lst xs) ∧ Rds H ks xs ∧ ks.Nodup ∧ (∀ d ∈ ks, Atm d) ∧ (∀ d ∈ ats f, d ∈ ks) ∧ H la = some (.lst (bs.map V.bl)) ∧ bs.length + m = ks.length ∧ ks.length ≤ 1000 ∧ Gives (frst f ks m bs) H Q
def spMet (n : Nat) : Sp := fun vs H Q _ => ∃ v l f xs m, vs = [v, .ref l] ∧ RF H f v ∧ Fok f ∧ fdep f ≤ n ∧ H l = some (.lst xs) ∧ Rds H m xs ∧ (∀ d ∈ m, Atm d) ∧ m.length + leaves f ≤ 1000 ∧ ∀ l' xs' H', Same H H' → H' l' = some (.lst xs') → Rds H' (met f m) xs' → Q (.ref l') H'
def spLSo (n : Nat) : Sp := fun vs H Q _ => ∃ v l la f xs ks bs, vs = [v, .ref l, .ref la] ∧ RF H f v ∧ Fok f ∧ fdep f ≤ n ∧ H l = some (.lst xs) ∧ Rds H ks xs ∧ (∀ d ∈ ks, Atm d) ∧ (∀ d ∈ ats f, d ∈ ks) ∧ H la = some (.lst (bs.map V.bl)) ∧ bs.length = ks.length ∧ Q (.bl (ev (vlu ks bs) f)) H
def spRows (n : Nat) : Sp := fun vs H Q _ => ∃ l1 l2 xs ys ds, vs = [.ref l1, .ref l2] ∧ H l1 = some (.lst xs) ∧ H l2 = some (.lst ys) ∧ Rds H ds xs ∧ Rds H ds ys ∧ ddepL ds ≤ n ∧ ∀ H', Same H H' → Q (.bl true) H'
theorem Gives.mono {r : Option (List Bool)} {H H1 : Hp} {Q : VK} (g : Gives r H Q) (s : Same H H1) : Gives r H1 Q := ⟨fun e H' s' => g.1 e H' (s.trans s'), fun bs e l H' s' x => g.2 bs e l H' (s.trans s') x⟩
theorem atm_le {ds : List Dt} (h : ∀ d ∈ ds, Atm d) : ddepL ds ≤ 8 := by
  induction ds with
  | nil => rw [ddepL]; omega
  | cons d r ih =>
    have := ih fun e he => h e (List.mem_cons_of_mem _ he)
    obtain ⟨_, _, _, _, _, h8⟩ := h d (List.mem_cons_self ..)
    rw [ddepL]; omega
/-- a form's head -/
theorem RF.head {H : Hp} {f : Fm} {v : V} (h : RF H f v) (ok : Fok f) : ∃ a t us, v = .ref a ∧ H a = some (.tup (.str t :: us)) ∧ decide (V.str t = V.str "if") = isCond f ∧ decide (V.str t = V.str "no") = isNo f := by
  cases f with
  | no => obtain ⟨a, e, g⟩ := h; exact ⟨a, "no", [], e, g, (by show _ = false; decide +kernel), (by show _ = true; decide +kernel)⟩
  | cond x y => obtain ⟨a, u1, u2, e, g, _⟩ := h; exact ⟨a, "if", [u1, u2], e, g, (by show _ = true; decide +kernel), (by show _ = false; decide +kernel)⟩
  | atom d =>
    obtain ⟨t, ds, rfl, n1, n2, _⟩ := ok
    have h' : Rd H (.tup (.str t :: ds)) v := h
    rw [Rd] at h'
    obtain ⟨a, us, e, g, r⟩ := h'
    rw [Rds] at r
    obtain ⟨u, us', rfl, r1, _⟩ := r
    rw [Rd] at r1
    subst r1
    exact ⟨a, t, us', e, g, decide_eq_false fun q => n1 (by injection q), decide_eq_false fun q => n2 (by injection q)⟩
end Sh
namespace Sh
open PySem PySem.Spec PyProof.Rows L2
theorem Rds.app {H : Hp} : ∀ {ds : List Dt} {vs : List V} {ds' : List Dt} {vs' : List V}, Rds H ds vs → Rds H ds' vs' → Rds H (ds ++ ds') (vs ++ vs')
  | [], vs, ds', vs', h, h' => by rw [Rds] at h; subst h; exact h'
  | d :: ds, vs, ds', vs', h, h' => by
    rw [Rds] at h
    obtain ⟨u, r, rfl, q, z⟩ := h
    rw [List.cons_append, List.cons_append, Rds]
    exact ⟨_, _, rfl, q, Rds.app z h'⟩
theorem pe_ty_list {X : Cx} {p : Pos} (h : X.mg "list" = none) (hg : Gl X "list") : PE X (.Name "list" p) (tC (.ty "list")) := pe_bltn hg h PyProof.Rows.boot_list rfl
theorem hu40 {A : Around} {k : Nat} (hr : Room k A) : A.units + 40 < cLine := by have := hr.un; omega
theorem hu10 {A : Around} {k : Nat} (hr : Room k A) : A.units + 8 + 2 < cLine := by have := hr.un; omega
theorem hu2 {A : Around} {k : Nat} (hr : Room k A) : A.units + 2 < cLine := by have := hr.un; omega
theorem kit_list_list {K : PySem.W.Frag} : PySem.W.kitOne K (.type "list") (.type "list") = some true := by with_unfolding_all rfl
section
variable {P : Program} {w : World} {K : PySem.W.Frag} {mg : Str → Option Value} {base : Heap} {x : Str} {ps : List Str} {k : Nat} {sp : Sp}
/-- a def that may raise, where it does not -/
theorem OkX.calm (G : OkX P w K mg base x ps k sp) : Ok P w K mg base x ps k (fun vs H Q _ => sp vs H Q E0) := by
  obtain ⟨f, fd, F, r⟩ := G
  refine ⟨f, fd, ⟨fun vs H Q E h => F.len vs H Q _ h, fun A outer s H args us vs Q E hr e0 hb rv hs => codeAny_mono (F.run A outer s H args us vs Q _ hr e0 hb rv hs) fun rs s' z => ?_⟩, r⟩
  match rs, z with
  | .ok (.ret _), z => exact z
  | .error e, z =>
    obtain ⟨_, _, _, _, _, _, _, _, _, _, _, _, no⟩ := z
    exact no
end
end Sh
namespace Sh
open PySem PySem.Spec PyProof.Rows L2
variable [Inn]
/-- three texts in a list -/
def Nms8 (H : Hp) (l : Addr) : Prop := ∃ x y z : Str, H l = some (.lst [.str x, .str y, .str z])
theorem Nms8.mono {H H' : Hp} {l : Addr} (h : Nms8 H l) (s : Same H H') : Nms8 H' l := by
  obtain ⟨x, y, z, e⟩ := h
  exact ⟨x, y, z, s.at e⟩
end Sh

end
set_option maxHeartbeats 4000000
namespace Sh
open PySem PySem.Spec PyProof.Rows L2
def top (i : Nat) : Stmt := PySem.Challenge.pw_surehall_k08_refuter.main.body.getD i (.Pass ⟨0, 0, 0, 0⟩)
abbrev s_atoms : Stmt := top 6
theorem sc_atoms : FnScope ["form", "found"] ["form"] (defScope s_atoms) := ⟨rfl, rfl, rfl, by decide +kernel, rfl, by decide +kernel, by decide +kernel⟩
abbrev s_gather : Stmt := top 7
theorem sc_gather : FnScope ["form", "found"] ["form", "found"] (defScope s_gather) := ⟨rfl, rfl, rfl, by decide +kernel, rfl, by decide +kernel, by decide +kernel⟩
abbrev s_true_under : Stmt := top 8
theorem sc_true_under : FnScope ["form", "values"] ["form", "values"] (defScope s_true_under) := ⟨rfl, rfl, rfl, by decide +kernel, rfl, by decide +kernel, by decide +kernel⟩
abbrev s_refuter : Stmt := top 9
theorem sc_refuter : FnScope ["form", "found"] ["form"] (defScope s_refuter) := ⟨rfl, rfl, rfl, by decide +kernel, rfl, by decide +kernel, by decide +kernel⟩
abbrev s_first_refuter : Stmt := top 10
theorem sc_first_refuter : FnScope ["form", "found", "answers", "answer", "refuting"] ["form", "found", "answers"] (defScope s_first_refuter) := ⟨rfl, rfl, rfl, by decide +kernel, rfl, by decide +kernel, by decide +kernel⟩
abbrev s_law_cell_at : Stmt := top 12
theorem sc_law_cell_at : FnScope ["script", "k"] ["script", "k"] (defScope s_law_cell_at) := ⟨rfl, rfl, rfl, by decide +kernel, rfl, by decide +kernel, by decide +kernel⟩
abbrev s_law_next : Stmt := top 13
theorem sc_law_next : FnScope ["seed"] ["seed"] (defScope s_law_next) := ⟨rfl, rfl, rfl, by decide +kernel, rfl, by decide +kernel, by decide +kernel⟩
abbrev s_law_part : Stmt := top 14
theorem sc_law_part : FnScope ["seed", "k"] ["seed", "k"] (defScope s_law_part) := ⟨rfl, rfl, rfl, by decide +kernel, rfl, by decide +kernel, by decide +kernel⟩
abbrev s_law_name_by : Stmt := top 15
theorem sc_law_name_by : FnScope ["cell", "seed", "name", "k"] ["cell"] (defScope s_law_name_by) := ⟨rfl, rfl, rfl, by decide +kernel, rfl, by decide +kernel, by decide +kernel⟩
abbrev s_law_names_by : Stmt := top 16
theorem sc_law_names_by : FnScope ["cell"] ["cell"] (defScope s_law_names_by) := ⟨rfl, rfl, rfl, by decide +kernel, rfl, by decide +kernel, by decide +kernel⟩
abbrev s_law_like : Stmt := top 17
theorem sc_law_like : FnScope ["found", "due", "one", "other"] ["found", "due"] (defScope s_law_like) := ⟨rfl, rfl, rfl, by decide +kernel, rfl, by decide +kernel, by decide +kernel⟩
abbrev s_law_rows_like : Stmt := top 18
theorem sc_law_rows_like : FnScope ["found", "due", "one", "other"] ["found", "due"] (defScope s_law_rows_like) := ⟨rfl, rfl, rfl, by decide +kernel, rfl, by decide +kernel, by decide +kernel⟩
abbrev s_law_atom : Stmt := top 19
theorem sc_law_atom : FnScope ["number", "names"] ["number", "names"] (defScope s_law_atom) := ⟨rfl, rfl, rfl, by decide +kernel, rfl, by decide +kernel, by decide +kernel⟩
abbrev s_law_plain : Stmt := top 20
theorem sc_law_plain : FnScope ["seed", "deep", "names", "many", "left"] ["seed", "deep", "names", "many"] (defScope s_law_plain) := ⟨rfl, rfl, rfl, by decide +kernel, rfl, by decide +kernel, by decide +kernel⟩
abbrev s_law_met : Stmt := top 21
theorem sc_law_met : FnScope ["form", "met"] ["form", "met"] (defScope s_law_met) := ⟨rfl, rfl, rfl, by decide +kernel, rfl, by decide +kernel, by decide +kernel⟩
abbrev s_law_so : Stmt := top 22
theorem sc_law_so : FnScope ["form", "met", "row"] ["form", "met", "row"] (defScope s_law_so) := ⟨rfl, rfl, rfl, by decide +kernel, rfl, by decide +kernel, by decide +kernel⟩
abbrev s_law_first : Stmt := top 23
theorem sc_law_first : FnScope ["form", "met", "row", "found"] ["form", "met", "row"] (defScope s_law_first) := ⟨rfl, rfl, rfl, by decide +kernel, rfl, by decide +kernel, by decide +kernel⟩
abbrev s_law_large : Stmt := top 24
theorem sc_law_large : FnScope ["form", "e"] ["form"] (defScope s_law_large) := ⟨rfl, rfl, rfl, by decide +kernel, rfl, by decide +kernel, by decide +kernel⟩
abbrev s_law : Stmt := top 25
theorem sc_law : FnScope ["script", "names", "form", "k", "met", "due", "found", "one"] ["script"] (defScope s_law) := ⟨rfl, rfl, rfl, by decide +kernel, rfl, by decide +kernel, by decide +kernel⟩
section
variable [Inn] {P : Program} {w : World} {K : PySem.W.Frag} {mg : Str → Option Value} {base : Heap}
theorem rds_keys {H : Hp} {kvs : DKv} (h : ∀ x ∈ kvs, Rd H x.1 (.ref x.2.1)) : Rds H (kvs.map (·.1)) (kvs.map fun x => .ref x.2.1) := by
  induction kvs with
  | nil => rw [List.map_nil, List.map_nil, Rds]
  | cons p r ih =>
    rw [List.map_cons, List.map_cons, Rds]
    exact ⟨_, _, rfl, h p (List.mem_cons_self ..), ih fun x hx => h x (List.mem_cons_of_mem _ hx)⟩
theorem ok_atoms {n : Nat} (D : Def K mg "atoms" s_atoms ["form"]) (B : Blt mg) (G_gather : Ok P w K mg base "gather" ["form", "found"] n (spGather w n)) : Ok P w K mg base "atoms" ["form"] (n + 1) (spAtoms n) := by
  refine D.ok sc_atoms (fun vs H Q E h => ?_) (fun f cdv A outer s H vs Q E hr h => ?_)
  · obtain ⟨v, f, rfl, _⟩ := h
    rfl
  obtain ⟨v, f, rfl, hf, ok, hd, hl, q⟩ := h
  refine ⟨_, (pss_cons (ps_set (i := 1) sc_atoms.nd rfl (Or.inl rfl) (pe_newN (w := w)))
    (pss_cons (ps_expr (pe_ok G_gather hr (by omega) rfl (pa_cons (pv 0) (pa_cons (pv 1) pa_nil))))
    (pss_one (ps_ret (pe_callTy (call_listN (w := w) hr.hd) (by rfl) B.list PyProof.Rows.boot_list (pa_cons (pv 1) pa_nil)))))), ?_⟩
  refine fun p hp => ?_
  have s1 := same_new hp (dN w p [])
  refine ⟨_, rfl, _, rfl, v, p, f, [], rfl, hf.mono (tk_of s1), ok, hd, ⟨[], do_new, rfl⟩, (by simpa using hl), fun H2 o2 k2 d2 => ?_⟩
  obtain ⟨kvs, hdo, e⟩ := d2
  refine ⟨_, rfl, p, kvs, rfl, hdo, fun l hl' => ?_⟩
  have s2 : Same H H2 := same_of fun b o g => by
    have ne : b ≠ p := fun z => by rw [z, hp] at g; cases g
    rw [o2 b ne, upd_ne ne]; exact g
  have s3 := same_new hl' (.lst (kvs.map fun x => V.ref x.2.1))
  refine q l _ _ (s2.trans s3) upd_same ?_
  rw [← e]
  exact Rds.mono (tk_of s3) (rds_keys fun x hx => (hdo.2 x hx).1)
theorem ok_gather (D : Def K mg "gather" s_gather ["form", "found"]) : ∀ n : Nat, Ok P w K mg base "gather" ["form", "found"] n (spGather w n)
  | 0 => D.void fun vs H Q E h => by
    obtain ⟨v, a, f, m, _, _, _, h, _⟩ := h
    have := fdep_pos f
    omega
  | n + 1 => by
    have G_gather := ok_gather D n
    refine D.ok sc_gather (fun vs H Q E h => ?_) (fun f cdv A outer s H vs Q E hr h => ?_)
    · obtain ⟨v, a, f, m, rfl, _⟩ := h
      rfl
    obtain ⟨v, a, f, m, rfl, hf, ok, hd, hk, hl, q⟩ := h
    refine ⟨_, (pss_one (ps_if (pt_cmpR op_eq (pe_ix ix_tup (pv 0) pe_int (fun _ _ => rfl)) pe_str (nomark _)) (pss_cons (ps_expr (pe_ok G_gather hr (by omega) rfl (pa_cons (pe_ix ix_tup (pv 0) pe_int (fun _ _ => rfl)) (pa_cons (pv 1) pa_nil))))
    (pss_one (ps_expr (pe_ok G_gather hr (by omega) rfl (pa_cons (pe_ix ix_tup (pv 0) pe_int (fun _ _ => rfl)) (pa_cons (pv 1) pa_nil)))))) (pss_one (ps_if (pt_cmpR op_ne (pe_ix ix_tup (pv 0) pe_int (fun _ _ => rfl)) pe_str (nomark _)) (pss_one (ps_asg pe_bl (pg_sub (pv 1) (pv 0) (set_putO (w := w) (hu9 hr))))) pss_nil)))), ?_⟩
    obtain ⟨b, t, us, rfl, hb, e1, e2⟩ := hf.head ok
    refine ⟨_, rfl, b, _, _, _, rfl, rfl, SqT.of hb, at0, rfl, _, rfl, ?_⟩
    rw [e1]
    cases f with
    | no =>
      refine iteF ⟨_, rfl, b, _, _, _, rfl, rfl, SqT.of hb, at0, rfl, _, rfl, ?_⟩
      rw [e2]
      refine iteF ?_
      exact q H (fun _ _ => rfl) (Tk.refl H) hk
    | atom d =>
      refine iteF ⟨_, rfl, b, _, _, _, rfl, rfl, SqT.of hb, at0, rfl, _, rfl, ?_⟩
      rw [e2]
      refine iteT ?_
      obtain ⟨kvs, hdo, rfl⟩ := hk
      obtain ⟨t', ds, rfl, _, _, h8⟩ := ok
      rw [leaves, List.length_map] at hl
      refine ⟨_, rfl, _, rfl, a, kvs, _, b, rfl, rfl, hdo, (by rw [sizeLine_eq]; omega), hf, h8, fun tk ho => ?_⟩
      refine q _ (fun c hc => upd_ne hc) tk ⟨_, ho, ?_⟩
      rw [put_keys, met]
    | cond x y =>
      obtain ⟨b', u1, u2, eb, hb', hx, hy⟩ := hf
      cases eb
      rw [fdep] at hd
      rw [leaves] at hl
      have l1 := met_len x m
      refine iteT ⟨_, rfl, b, _, _, _, rfl, rfl, SqT.of hb', at1, _, rfl, u1, a, x, m, rfl, hx, ok.1, (by omega), hk, (by omega), fun H1 o1 k1 d1 => ?_⟩
      refine ⟨_, rfl, b, _, _, _, rfl, rfl, SqT.of (k1 _ _ hb'), at2, _, rfl, u2, a, y, met x m, rfl, hy.mono k1, ok.2, (by omega), d1, (by omega), fun H2 o2 k2 d2 => ?_⟩
      exact q H2 (fun c hc => (o2 c hc).trans (o1 c hc)) (k1.trans k2) d2
theorem ok_true_under (D : Def K mg "true_under" s_true_under ["form", "values"]) : ∀ n : Nat, Ok P w K mg base "true_under" ["form", "values"] n (spTrueU w n)
  | 0 => D.void fun vs H Q E h => by
    obtain ⟨v, a, f, k, g, val, _, _, _, h, _⟩ := h
    have := fdep_pos f
    omega
  | n + 1 => by
    have G_true_under := ok_true_under D n
    refine D.ok sc_true_under (fun vs H Q E h => ?_) (fun f cdv A outer s H vs Q E hr h => ?_)
    · obtain ⟨v, a, f, k, g, val, rfl, _⟩ := h
      rfl
    obtain ⟨v, a, f, k, g, val, rfl, hf, ok, hd, hm, hv, q⟩ := h
    refine ⟨_, (pss_cons (ps_if (pt_cmpR op_eq (pe_ix ix_tup (pv 0) pe_int (fun _ _ => rfl)) pe_str (nomark _)) (pss_one (ps_ret pe_bl)) pss_nil)
    (pss_cons (ps_if (pt_cmpR op_eq (pe_ix ix_tup (pv 0) pe_int (fun _ _ => rfl)) pe_str (nomark _)) (pss_one (ps_ret (pe_or (pe_not (pe_ok G_true_under hr (by omega) rfl (pa_cons (pe_ix ix_tup (pv 0) pe_int (fun _ _ => rfl)) (pa_cons (pv 1) pa_nil)))) (pe_one (pe_ok G_true_under hr (by omega) rfl (pa_cons (pe_ix ix_tup (pv 0) pe_int (fun _ _ => rfl)) (pa_cons (pv 1) pa_nil))))))) pss_nil)
    (pss_one (ps_ret (pe_ix (ix_N (w := w) (hu9 hr)) (pv 1) (pv 0) (fun _ _ => rfl)))))), ?_⟩
    obtain ⟨b, t, us, rfl, hb, e1, e2⟩ := hf.head ok
    refine ⟨_, rfl, b, _, _, _, rfl, rfl, SqT.of hb, at0, rfl, _, rfl, ?_⟩
    rw [e2]
    cases f with
    | no => exact iteT q
    | atom d =>
      refine iteF ⟨_, rfl, b, _, _, _, rfl, rfl, SqT.of hb, at0, rfl, _, rfl, ?_⟩
      rw [e1]
      obtain ⟨t', ds, rfl, _, _, h8⟩ := ok
      exact iteF ⟨_, rfl, _, rfl, a, k, g, _, _, rfl, hm, hf, h8, hv _ (List.mem_cons_self ..), q⟩
    | cond x y =>
      refine iteF ⟨_, rfl, b, _, _, _, rfl, rfl, SqT.of hb, at0, rfl, _, rfl, ?_⟩
      rw [e1]
      obtain ⟨b', u1, u2, eb, hb', hx, hy⟩ := hf
      cases eb
      rw [fdep] at hd
      refine iteT ⟨_, rfl, b, _, _, _, rfl, rfl, SqT.of hb', at1, _, rfl, u1, a, x, k, g, val, rfl, hx, ok.1, (by omega), hm, fun d m => hv d (List.mem_append_left _ m), ?_⟩
      rw [ev] at q
      cases e : ev val x with
      | true =>
        rw [e] at q
        refine ⟨true, rfl, false, rfl, iteF ⟨_, rfl, b, _, _, _, rfl, rfl, SqT.of hb', at2, _, rfl, u2, a, y, k, g, val, rfl, hy, ok.2, (by omega), hm, fun d m => hv d (List.mem_append_right _ m), q⟩⟩
      | false =>
        rw [e] at q
        exact ⟨false, rfl, true, rfl, iteT q⟩
def spRefuter (CT : Addr) (n : Nat) : Sp := fun vs H Q E => ∃ v f, vs = [v] ∧ RF H f v ∧ Fok f ∧ fdep f ≤ n ∧ leaves f ≤ 1000 ∧
  ((met f []).length > 8 → ∀ H', Same H H' → E (.ref CT) none H') ∧ ((met f []).length ≤ 8 → Gives (frst f (met f []) (met f []).length []) H Q)
theorem ok_refuter {CT : Addr} {n : Nat} {t8 : Tok} (D : Def K mg "refuter" s_refuter ["form"]) (B : Blt mg) (c_MOST_REFUTED : mg "MOST_REFUTED" = some (.int 8 t8)) (E_TooLarge : ECls K mg base "TooLarge" CT) (G_atoms : Ok P w K mg base "atoms" ["form"] (n + 1) (spAtoms n))
    (G_first_refuter : Ok P w K mg base "first_refuter" ["form", "found", "answers"] (n + 9) (spFirst n 8)) : OkX P w K mg base "refuter" ["form"] (n + 10) (spRefuter CT n) := by
  refine D.okX sc_refuter (fun vs H Q E h => ?_) (fun f cdv A outer s H vs Q E hr h => ?_)
  · obtain ⟨v, f, rfl, _⟩ := h
    rfl
  obtain ⟨v, f, rfl, hf, ok, hd, hl, q1, q2⟩ := h
  refine ⟨_, (pss_cons (ps_set (i := 1) sc_refuter.nd rfl (Or.inl rfl) (pe_ok G_atoms hr (by omega) rfl (pa_cons (pv 0) pa_nil)))
    (pss_cons (ps_if (pt_cmpR op_gt (pe_callB call_len_seq (by rfl) B.len PySem.boot_len (pa_cons (pv 1) pa_nil)) (pe_glob (v := .int 8) (by rfl) c_MOST_REFUTED ⟨_, rfl⟩) (nomark _)) (pss_one (ps_raise E_TooLarge.exc rfl rfl (by rfl) (pa_cons pe_str pa_nil))) pss_nil)
    (pss_one (ps_ret (pe_ok G_first_refuter hr (by omega) rfl (pa_cons (pv 0) (pa_cons (pv 1) (pa_cons (pe_lst pa_nil) pa_nil)))))))), ?_⟩
  refine ⟨_, rfl, v, f, rfl, hf, ok, hd, hl, fun l xs H1 s1 hx hr1 => ?_⟩
  have lx := hr1.length
  refine ⟨_, rfl, l, xs, rfl, .inl (SqL.of hx), _, _, rfl, rfl, _, rfl, ite2 (fun c => ?_) (fun c => ?_)⟩
  · have c' := of_decide_eq_true c
    rw [lx] at c'
    exact ⟨(by show 1 ≤ sizeLine; decide), q1 (by omega) H1 s1⟩
  · have c' := of_decide_eq_false (Bool.eq_false_iff.mpr c)
    rw [lx] at c'
    have hm8 : (met f []).length ≤ 8 := by omega
    refine ⟨_, rfl, _, rfl, (by show 0 ≤ sizeLine; decide), fun p hp => ?_⟩
    have s2 := same_new hp (.lst [])
    have sA := s1.trans s2
    exact ⟨(met f []).length, hm8, v, l, p, f, xs, met f [], [], rfl, hf.mono (tk_of sA), ok, hd, s2.at hx, hr1.mono (tk_of s2), met_nodup f List.nodup_nil, met_ok f ok (fun d hd => by cases hd), (fun d hd => met_ats f [] hd), upd_same, (by simp), (by omega), (q2 hm8).mono sA⟩
theorem ok_first_refuter {n : Nat} (D : Def K mg "first_refuter" s_first_refuter ["form", "found", "answers"]) (B : Blt mg) (G_true_under : Ok P w K mg base "true_under" ["form", "values"] n (spTrueU w n)) :
    ∀ M : Nat, Ok P w K mg base "first_refuter" ["form", "found", "answers"] (n + M + 1) (spFirst n M) := by
  have step : ∀ (M : Nat) (sp : Sp), (M = 0 ∧ sp = (fun _ _ _ _ => False)) ∨ (∃ J, M = J + 1 ∧ sp = spFirst n J) → Ok P w K mg base "first_refuter" ["form", "found", "answers"] (n + M) sp → Ok P w K mg base "first_refuter" ["form", "found", "answers"] (n + M + 1) (spFirst n M) := by
    intro M sp hsp G_first_refuter
    refine D.ok sc_first_refuter (fun vs H Q E h => ?_) (fun f cdv A outer s H vs Q E hr h => ?_)
    · obtain ⟨m, _, v, l, la, f, xs, ks, bs, rfl, _⟩ := h
      rfl
    obtain ⟨m, hm, v, l, la, f, xs, ks, bs, rfl, hf, ok, hd, hl, hk, nd, hat, hsub, hla, hlen, h1000, q⟩ := h
    have lx := hk.length
    refine ⟨_, (pss_cons (ps_if (pt_cmpR op_eq (pe_callB call_len_seq (by rfl) B.len PySem.boot_len (pa_cons (pv 2) pa_nil)) (pe_callB call_len_seq (by rfl) B.len PySem.boot_len (pa_cons (pv 1) pa_nil)) (nomark _)) (pss_one (ps_ret (pe_ifExp (pt_val (pe_ok G_true_under hr (by omega) rfl (pa_cons (pv 0) (pa_cons (pe_dictZ (w := w) hr.hd (hu40 hr) (by rfl) B.dict (by rfl) B.zip (pa_cons (pv 1) (pa_cons (pv 2) pa_nil))) pa_nil)))) pe_non (pv 2)))) pss_nil)
    (pss_cons (ps_for PassesOwn.never rfl (pi_tup (pe_tup (pa_cons pe_bl (pa_cons pe_bl pa_nil)))) (pg_name (i := 3) sc_first_refuter.nd rfl (Or.inl rfl)) (pss_cons (ps_set (i := 4) sc_first_refuter.nd rfl (Or.inl rfl) (pe_ok G_first_refuter hr (by omega) rfl (pa_cons (pv 0) (pa_cons (pv 1) (pa_cons (pe_op op_cat (pv 2) (pe_lst (pa_cons (pv 3) pa_nil))) pa_nil)))))
    (pss_one (ps_if (pt_cmpR op_notN (pv 4) pe_non (nomark _)) (pss_one (ps_ret (pv 4))) pss_nil))))
    (pss_one (ps_ret pe_non)))), ?_⟩
    refine ⟨_, rfl, la, _, rfl, .inl (SqL.of hla), _, rfl, l, xs, rfl, .inl (SqL.of hl), rfl, _, rfl, ?_⟩
    rw [List.length_map, lx]
    cases m with
    | zero =>
      have e0 : bs.length = ks.length := by omega
      rw [e0, decide_eq_true rfl]
      refine iteT ⟨_, rfl, _, rfl, _, rfl, l, la, xs, _, ks, rfl, hl, hla, (by rw [List.length_map]; omega), hk, nd, (fun d m => ⟨let ⟨t, ds, e, _⟩ := hat d m; ⟨_, e⟩, let ⟨_, _, _, _, _, h8⟩ := hat d m; h8⟩), fun p kvs hp e1 e2 hdo => ?_⟩
      have s1 := same_new hp (dN w p kvs)
      subst e1
      refine ⟨v, p, f, _, _, vlu (kvs.map (·.1)) bs, rfl, hf.mono (tk_of s1), ok, hd, hdo.map, fun d m => look_vlu e2 (hsub d m), ?_⟩
      refine ⟨_, rfl, ?_⟩
      cases e : ev (vlu (kvs.map (·.1)) bs) f with
      | true => exact iteT (q.1 (by rw [frst, e]; rfl) _ s1)
      | false => exact iteF ⟨_, rfl, q.2 bs (by rw [frst, e]; rfl) la _ s1 (s1.at hla)⟩
    | succ j =>
      rcases hsp with ⟨rfl, _⟩ | ⟨J, rfl, rfl⟩
      · omega
      have ne : ¬ (V.int (bs.length : Nat) = V.int (ks.length : Nat)) := fun e => by
        injection e with e
        omega
      rw [decide_eq_false ne]
      refine iteF ⟨(by show 2 ≤ sizeLine; decide), fun pt hpt => ⟨pt, rfl, ⟨_, SqT.of upd_same⟩, ?_⟩⟩
      have s0 := same_new hpt (.tup [.bl false, .bl true])
      refine for_tup (xs := [.bl false, .bl true]) (fun i σ H1 => Same (upd H pt (.tup [.bl false, .bl true])) H1 ∧ (∃ o1 o2 : Option V, σ = [some v, some (.ref l), some (.ref la), o1, o2]) ∧ (i = 0 ∨ frst f ks j (bs ++ [false]) = none) ∧ (i ≤ 1 ∨ frst f ks j (bs ++ [true]) = none))
        ⟨Same.refl _, ⟨_, _, rfl⟩, .inl rfl, .inl (Nat.zero_le _)⟩ (fun i σ H1 _ hP => SqT.of (hP.1.at upd_same)) (fun i x σ H1 hi hP => ?_) (fun σ H1 hP => ?_)
      · obtain ⟨s1, ⟨o1, o2, rfl⟩, g0, g1⟩ := hP
        have hx : ∃ b : Bool, x = .bl b ∧ (i = 0 ∧ b = false ∨ i = 1 ∧ b = true) := by
          match i, hi with
          | 0, hi => exact ⟨false, (Option.some.inj (by simpa using hi)).symm, .inl ⟨rfl, rfl⟩⟩
          | 1, hi => exact ⟨true, (Option.some.inj (by simpa using hi)).symm, .inr ⟨rfl, rfl⟩⟩
          | i + 2, hi => simp at hi
        obtain ⟨b, rfl, hb⟩ := hx
        have s01 := s0.trans s1
        refine ⟨_, rfl, _, rfl, _, rfl, _, rfl, (by show 1 ≤ sizeLine; decide), fun p1 hp1 => ?_⟩
        have s2 := same_new hp1 (.lst [.bl b])
        refine ⟨la, p1, _, _, rfl, rfl, (s01.trans s2).at hla, upd_same, (by rw [sizeLine_eq, List.length_map, List.length_singleton]; omega), fun p2 hp2 => ?_⟩
        have s3 := same_new hp2 (.lst (bs.map V.bl ++ [.bl b]))
        have sA := s01.trans (s2.trans s3)
        refine ⟨j, (by omega), v, l, p2, f, xs, ks, bs ++ [b], rfl, hf.mono (tk_of sA), ok, hd, sA.at hl, hk.mono (tk_of sA), nd, hat, hsub, (by rw [List.map_append]; exact upd_same), (by rw [List.length_append, List.length_singleton]; omega), h1000, fun e H2 s4 => ?_, fun r e lr H2 s4 hlr => ?_⟩
        · refine ⟨_, rfl, rfl, _, rfl, iteF ?_⟩
          refine ⟨s1.trans (s2.trans (s3.trans s4)), ⟨_, _, rfl⟩, ?_⟩
          rcases hb with ⟨rfl, rfl⟩ | ⟨rfl, rfl⟩
          · exact ⟨.inr e, .inl (Nat.le_refl _)⟩
          · refine ⟨?_, .inr e⟩
            rcases g0 with g0 | g0
            · cases g0
            · exact .inr g0
        · refine ⟨_, rfl, rfl, _, rfl, iteT ⟨_, rfl, ?_⟩⟩
          refine q.2 r ?_ lr H2 (sA.trans s4) hlr
          rw [frst]
          rcases hb with ⟨rfl, rfl⟩ | ⟨rfl, rfl⟩
          · rw [e]
          · rcases g0 with g0 | g0
            · cases g0
            · rw [g0]; exact e
      · obtain ⟨s1, ⟨o1, o2, rfl⟩, g0, g1⟩ := hP
        refine q.1 ?_ H1 (s0.trans s1)
        rw [frst]
        rcases g0 with g0 | g0
        · cases g0
        · rcases g1 with g1 | g1
          · exact absurd g1 (by decide)
          · rw [g0]; exact g1
  intro M
  induction M with
  | zero => exact step 0 _ (.inl ⟨rfl, rfl⟩) (D.void fun _ _ _ _ h => h)
  | succ M ih => exact step (M + 1) _ (.inr ⟨M, rfl, rfl⟩) ih
def cellOf (ns : List Int) (k : Int) : Int := ns.getD k.toNat 0
def spCell (K : PySem.W.Frag) : Sp := fun vs H Q _ => ∃ (a : Addr) (ns : List Int) (k : Int), vs = [.ref a, .int k] ∧ SqL K H a (ns.map V.int) ∧ 0 ≤ k ∧ Q (.int (cellOf ns k)) H
theorem ok_law_cell_at (D : Def K mg "_law_cell_at" s_law_cell_at ["script", "k"]) (B : Blt mg) : Ok P w K mg base "_law_cell_at" ["script", "k"] 1 (spCell K) := by
  refine D.ok sc_law_cell_at (fun vs H Q E h => ?_) (fun f cdv A outer s H vs Q E hr h => ?_)
  · obtain ⟨a, ns, k, rfl, _⟩ := h
    rfl
  obtain ⟨a, ns, k, rfl, hS, h0, q⟩ := h
  refine ⟨_, (pss_cons (ps_if (pt_cmpR op_lt (pv 1) (pe_callB call_len_seq (by rfl) B.len PySem.boot_len (pa_cons (pv 0) pa_nil)) (nomark _)) (pss_one (ps_ret (pe_ix ix_list (pv 0) (pv 1) (fun _ _ => rfl)))) pss_nil)
    (pss_one (ps_ret pe_int))), ?_⟩
  have hl : (ns.map V.int).length = ns.length := List.length_map _
  refine ⟨_, rfl, _, rfl, a, _, rfl, .inl hS, _, _, rfl, rfl, _, rfl, ?_⟩
  refine ite2 (fun c => ?_) (fun c => ?_)
  · have c' := of_decide_eq_true c
    rw [hl] at c'
    have hk : k.toNat < ns.length := by omega
    have ek : k = ((k.toNat : Nat) : Int) := by omega
    have z : atI (ns.map V.int) ((k.toNat : Nat) : Int) = some (.int ns[k.toNat]) := atI_nat (by rw [List.getElem?_map, List.getElem?_eq_getElem hk] <;> rfl)
    rw [← ek] at z
    refine ⟨_, rfl, _, rfl, a, _, _, _, rfl, rfl, hS, z, ?_⟩
    have e : cellOf ns k = ns[k.toNat] := by unfold cellOf; rw [List.getD_eq_getElem?_getD, List.getElem?_eq_getElem hk]; rfl
    rw [← e]
    exact q
  · have c' := of_decide_eq_false (Bool.eq_false_iff.mpr c)
    rw [hl] at c'
    have e : cellOf ns k = 0 := by unfold cellOf; rw [List.getD_eq_getElem?_getD, List.getElem?_eq_none (by omega)]; rfl
    rw [e] at q
    exact q
def spNext : Sp := fun vs H Q _ => ∃ s : Int, vs = [.int s] ∧ Q (.int (nxt s)) H
theorem ok_law_next (D : Def K mg "_law_next" s_law_next ["seed"]) : Ok P w K mg base "_law_next" ["seed"] 1 spNext := by
  refine D.ok sc_law_next (fun vs H Q E h => ?_) (fun f cdv A outer s H vs Q E hr h => ?_)
  · obtain ⟨a, rfl, _⟩ := h
    rfl
  obtain ⟨a, rfl, q⟩ := h
  refine ⟨_, (pss_one (ps_ret (pe_op op_mod (pe_op op_add (pe_op op_mul (pv 0) pe_int) pe_int) pe_int))), ?_⟩
  exact ⟨_, rfl, _, _, rfl, rfl, .inr ⟨by decide, by decide⟩, _, _, rfl, rfl, _, _, rfl, rfl, (by show (0 : Int) < 2147483647; decide), q⟩
def spPart : Sp := fun vs H Q _ => ∃ s k : Int, vs = [.int s, .int k] ∧ ∀ r H', Same H H' → Q (.int r) H'
theorem ok_law_part (D : Def K mg "_law_part" s_law_part ["seed", "k"]) : Ok P w K mg base "_law_part" ["seed", "k"] 1 spPart := by
  refine D.ok sc_law_part (fun vs H Q E h => ?_) (fun f cdv A outer s H vs Q E hr h => ?_)
  · obtain ⟨a, k, rfl, _⟩ := h
    rfl
  obtain ⟨a, k, rfl, q⟩ := h
  refine ⟨_, (pss_one (ps_ret (pe_op op_fdiv (pe_op op_mod (pe_op op_add (pe_op op_add (pe_op op_mul (pv 0) (pe_ix ix_list (pe_lst (pa_cons pe_int (pa_cons pe_int (pa_cons pe_int (pa_cons pe_int (pa_cons pe_int pa_nil)))))) (pe_op op_mod (pv 1) pe_int) (fun _ _ => rfl))) pe_int) (pv 1)) pe_int) pe_int))), ?_⟩
  refine ⟨_, rfl, (by show 5 ≤ sizeLine; decide), fun p hp => ?_⟩
  have s1 := same_new (H := H) hp (.lst [.int 48271, .int 69621, .int 16807, .int 40692, .int 39373])
  obtain ⟨c, hc, h1, h2⟩ := five k
  refine ⟨_, rfl, _, _, rfl, rfl, (by show (0 : Int) < 5; decide), p, _, _, _, rfl, rfl, SqL.of upd_same, hc, _, _, rfl, rfl, .inr ⟨by omega, by omega⟩, _, _, rfl, rfl, _, rfl, _, _, rfl, rfl, _, _, rfl, rfl, (by show (0 : Int) < 2147483647; decide), _, _, rfl, rfl, ⟨by decide, by decide⟩, ?_⟩
  exact q _ _ s1
def spName : Sp := fun vs H Q _ => ∃ c : Int, vs = [.int c] ∧ ∀ x : Str, IsName x → Q (.str x) H
theorem ok_law_name_by (D : Def K mg "_law_name_by" s_law_name_by ["cell"]) (B : Blt mg) (G_law_next : Ok P w K mg base "_law_next" ["seed"] 1 spNext) : Ok P w K mg base "_law_name_by" ["cell"] 2 spName := by
  refine D.ok sc_law_name_by (fun vs H Q E h => ?_) (fun f cdv A outer s H vs Q E hr h => ?_)
  · obtain ⟨a, rfl, _⟩ := h
    rfl
  obtain ⟨c, rfl, q⟩ := h
  refine ⟨_, (pss_cons (ps_set (i := 1) sc_law_name_by.nd rfl (Or.inl rfl) (pe_ok G_law_next hr (by omega) rfl (pa_cons (pv 0) pa_nil)))
    (pss_cons (ps_set (i := 2) sc_law_name_by.nd rfl (Or.inl rfl) pe_str)
    (pss_cons (ps_for PassesOwn.never rfl (pi_range1 (by rfl) B.range (pa_cons (pe_op op_add pe_int (pe_op op_mod (pv 0) pe_int)) pa_nil)) (pg_name (i := 3) sc_law_name_by.nd rfl (Or.inl rfl)) (pss_cons (ps_set (i := 2) sc_law_name_by.nd rfl (Or.inl rfl) (pe_op op_add_str (pv 2) (pe_ix ix_str pe_str (pe_op op_mod (pe_op op_fdiv (pv 1) pe_int) pe_int) (fun _ _ => rfl))))
    (pss_one (ps_set (i := 1) sc_law_name_by.nd rfl (Or.inl rfl) (pe_ok G_law_next hr (by omega) rfl (pa_cons (pv 1) pa_nil))))))
    (pss_one (ps_ret (pv 2)))))), ?_⟩
  have h0 := Int.emod_nonneg c (show (12 : Int) ≠ 0 by decide)
  have h1 := Int.emod_lt_of_pos c (show (0 : Int) < 12 by decide)
  refine ⟨_, rfl, c, rfl, _, rfl, _, _, rfl, rfl, (by show (0 : Int) < 12; decide), _, _, rfl, rfl, _, rfl, (by omega), (by omega), ?_⟩
  refine for_range (lo := 0) (n := (1 + c % 12).toNat) (fun i σ H' => H' = H ∧ ∃ (sd : Int) (x : Str) (o : Option V), σ = [some (.int c), some (.int sd), some (.str x), o] ∧ x.length = i ∧ ∀ d ∈ x.cps.toList, 97 ≤ d ∧ d ≤ 122) ⟨rfl, _, "", none, rfl, rfl, (fun d hd => by cases hd)⟩ (fun i σ H' hi hP => ?_) (fun σ H' hP => ?_)
  · obtain ⟨rfl, sd, x, o, rfl, hl, hx⟩ := hP
    obtain ⟨d, hd, d1, d2⟩ := alpha (sd / 64)
    refine ⟨_, rfl, _, rfl, _, _, rfl, rfl, ⟨by decide, by decide⟩, _, _, rfl, rfl, (by show (0 : Int) < 26; decide), _, _, d, rfl, rfl, (by decide +kernel), hd, _, _, rfl, rfl, ?_, ?_⟩
    · show x.length + 1 ≤ sizeLine
      rw [sizeLine_eq]; omega
    · refine ⟨_, rfl, _, rfl, rfl, _, _, _, rfl, ?_, ?_⟩
      · rw [str_add_len, hl]; rfl
      · intro e he
        rw [str_add_cps] at he
        rcases List.mem_append.mp he with he | he
        · exact hx e he
        · have : e = d := by simpa using he
          omega
  · obtain ⟨rfl, sd, x, o, rfl, hl, hx⟩ := hP
    exact ⟨_, rfl, q x ⟨by omega, by omega, hx⟩⟩
def spNames : Sp := fun vs H Q _ => ∃ c : Int, vs = [.int c] ∧ ∀ (l : Addr) (x y z : Str) (H' : Hp), Same H H' → IsName x → IsName y → IsName z → H' l = some (.lst [.str x, .str y, .str z]) → Q (.ref l) H'
theorem ok_law_names_by (D : Def K mg "_law_names_by" s_law_names_by ["cell"]) (G_law_name_by : Ok P w K mg base "_law_name_by" ["cell"] 2 spName) : Ok P w K mg base "_law_names_by" ["cell"] 3 spNames := by
  refine D.ok sc_law_names_by (fun vs H Q E h => ?_) (fun f cdv A outer s H vs Q E hr h => ?_)
  · obtain ⟨a, rfl, _⟩ := h
    rfl
  obtain ⟨c, rfl, q⟩ := h
  refine ⟨_, (pss_one (ps_ret (pe_lst (pa_cons (pe_ok G_law_name_by hr (by omega) rfl (pa_cons (pv 0) pa_nil)) (pa_cons (pe_ok G_law_name_by hr (by omega) rfl (pa_cons (pe_op op_add (pe_op op_fdiv (pv 0) pe_int) pe_int) pa_nil)) (pa_cons (pe_slice sl_str (pe_ok G_law_name_by hr (by omega) rfl (pa_cons (pv 0) pa_nil)) po_none (po_some pe_int)) pa_nil)))))), ?_⟩
  refine ⟨_, rfl, _, rfl, fun x hx => ?_⟩
  refine ⟨_, rfl, _, _, rfl, rfl, ⟨by decide, by decide⟩, _, _, rfl, rfl, _, rfl, fun y hy => ?_⟩
  refine ⟨_, rfl, _, rfl, fun z hz => ?_⟩
  refine ⟨1, rfl, z, rfl, ?_, (by show 3 ≤ sizeLine; decide), fun p hp => ?_⟩
  · have := hz.2.1
    rw [sizeLine_eq]; omega
  · exact q p x y _ _ (same_new hp _) hx hy (name_head hz) upd_same
theorem ok_law_like (D : Def K mg "_law_like" s_law_like ["found", "due"]) (B : Blt mg) : ∀ n : Nat, Ok P w K mg base "_law_like" ["found", "due"] n (spLike n)
  | 0 => D.void fun vs H Q E h => by
    obtain ⟨v, u, d, _, _, _, h, _⟩ := h
    have := ddep_pos d
    omega
  | n + 1 => by
    have G_law_like := ok_law_like D B n
    refine D.ok sc_law_like (fun vs H Q E h => ?_) (fun f cdv A outer s H vs Q E hr h => ?_)
    · obtain ⟨v, u, d, rfl, _⟩ := h
      rfl
    obtain ⟨v, u, d, rfl, h1, h2, hd, q⟩ := h
    refine ⟨_, (pss_cons (ps_if (pt_val (pe_callB call_isinst (by rfl) B.isinstance PyProof.Rows.boot_isinstance (pa_cons (pv 1) (pa_cons (pe_ty_tuple B.tuple rfl) pa_nil)))) (pss_cons (ps_if (PW.pt (pw_or (pt_not (pt_val (pe_callB call_isinst (by rfl) B.isinstance PyProof.Rows.boot_isinstance (pa_cons (pv 0) (pa_cons (pe_ty_tuple B.tuple rfl) pa_nil))))) (pw_or1 (pt_cmpR op_ne (pe_callB call_len_seq (by rfl) B.len PySem.boot_len (pa_cons (pv 0) pa_nil)) (pe_callB call_len_seq (by rfl) B.len PySem.boot_len (pa_cons (pv 1) pa_nil)) (nomark _))))) (pss_one (ps_ret pe_bl)) pss_nil)
    (pss_cons (ps_for PassesOwn.never rfl (pi_zip (by rfl) B.zip (pa_cons (pv 0) (pa_cons (pv 1) pa_nil))) (pg_tup rfl (pgs_cons (pg_name (i := 2) sc_law_like.nd rfl (Or.inl rfl)) (pgs_cons (pg_name (i := 3) sc_law_like.nd rfl (Or.inl rfl)) pgs_nil))) (pss_one (ps_if (pt_not (pt_val (pe_ok G_law_like hr (by omega) rfl (pa_cons (pv 2) (pa_cons (pv 3) pa_nil))))) (pss_one (ps_ret pe_bl)) pss_nil)))
    (pss_one (ps_ret pe_bl)))) pss_nil)
    (pss_cons (ps_if (pt_val (pe_callB call_isinst (by rfl) B.isinstance PyProof.Rows.boot_isinstance (pa_cons (pv 1) (pa_cons (pe_ty_str B.str rfl) pa_nil)))) (pss_one (ps_ret (pe_and (pe_callB call_isinst (by rfl) B.isinstance PyProof.Rows.boot_isinstance (pa_cons (pv 0) (pa_cons (pe_ty_str B.str rfl) pa_nil))) (pe_one (pe_cmpR op_eq (pv 0) (pv 1) (nomark _)))))) pss_nil)
    (pss_one (ps_ret (pe_and (pe_callB call_isinst (by rfl) B.isinstance PyProof.Rows.boot_isinstance (pa_cons (pv 0) (pa_cons (pe_ty_int B.int rfl) pa_nil))) (pe_and (pe_not (pe_callB call_isinst (by rfl) B.isinstance PyProof.Rows.boot_isinstance (pa_cons (pv 0) (pa_cons (pe_ty_bool B.bool rfl) pa_nil)))) (pe_one (pe_cmpR op_eq (pv 0) (pv 1) (nomark _))))))))), ?_⟩
    cases d with
    | int i =>
      rw [Rd] at h1 h2
      subst h1; subst h2
      refine ⟨_, rfl, .int i, "tuple", .type "int", false, rfl, .int i, kit_int_tup, false, rfl, iteF ?_⟩
      refine ⟨_, rfl, .int i, "str", .type "int", false, rfl, .int i, kit_int_str, false, rfl, iteF ?_⟩
      refine ⟨_, rfl, .int i, "int", .type "int", true, rfl, .int i, kit_int_int, true, rfl, iteT ?_⟩
      refine ⟨_, rfl, .int i, "bool", .type "int", false, rfl, .int i, kit_int_bool, false, rfl, true, rfl, iteT ?_⟩
      refine ⟨_, rfl, _, rfl, rfl, ?_⟩
      rw [decide_eq_true rfl]
      exact q H (Same.refl H)
    | str x =>
      rw [Rd] at h1 h2
      subst h1; subst h2
      refine ⟨_, rfl, .str x, "tuple", .type "str", false, rfl, .str x, kit_str_tup, false, rfl, iteF ?_⟩
      refine ⟨_, rfl, .str x, "str", .type "str", true, rfl, .str x, kit_str_str, true, rfl, iteT ?_⟩
      refine ⟨_, rfl, .str x, "str", .type "str", true, rfl, .str x, kit_str_str, true, rfl, iteT ?_⟩
      refine ⟨_, rfl, _, rfl, rfl, ?_⟩
      rw [decide_eq_true rfl]
      exact q H (Same.refl H)
    | tup ds =>
      rw [Rd] at h1 h2
      obtain ⟨a, xs, rfl, ha, rx⟩ := h1
      obtain ⟨b, ys, rfl, hb, ry⟩ := h2
      have lx := rx.length
      have ly := ry.length
      refine ⟨_, rfl, .ref b, "tuple", .type "tuple", true, rfl, .tup hb, kit_tup_tup, true, rfl, iteT ?_⟩
      refine ⟨_, rfl, .ref a, "tuple", .type "tuple", true, rfl, .tup ha, kit_tup_tup, true, rfl, iteF ?_⟩
      refine ⟨_, rfl, a, xs, rfl, .inr (SqT.of ha), _, rfl, b, ys, rfl, .inr (SqT.of hb), rfl, _, rfl, iteNS (by rw [lx, ly]) ?_⟩
      refine ⟨_, rfl, _, rfl, a, b, xs, ys, rfl, ha, hb, ?_⟩
      refine for_zip (by rw [lx, ly]) (fun i σ H2 => Same H H2 ∧ ∃ o1 o2 : Option V, σ = [some (.ref a), some (.ref b), o1, o2]) ⟨Same.refl H, _, _, rfl⟩ (fun i σ H2 hP => ⟨hP.1.at ha, hP.1.at hb⟩) (fun i x y p σ H2 hx hy hp hP => ?_) (fun σ H2 hP => ?_)
      · obtain ⟨s2, o1, o2, rfl⟩ := hP
        have s3 := s2.trans (same_new hp (.tup [x, y]))
        obtain ⟨d1, e1, r1⟩ := rx.get hx
        obtain ⟨d2, e2, r2⟩ := ry.get hy
        rw [e1] at e2; cases e2
        have hm := ddepL_mem (List.mem_of_getElem? e1)
        rw [ddep] at hd
        refine ⟨p, _, rfl, SqT.of upd_same, rfl, _, _, rfl, _, _, rfl, rfl, ?_⟩
        refine ⟨_, rfl, _, rfl, x, y, d1, rfl, r1.mono (tk_of s3), r2.mono (tk_of s3), (by omega), fun H3 s4 => ⟨true, rfl, iteF ?_⟩⟩
        exact ⟨s3.trans s4, _, _, rfl⟩
      · obtain ⟨s2, o1, o2, rfl⟩ := hP
        exact q H2 s2
theorem ok_law_rows_like {n : Nat} (D : Def K mg "_law_rows_like" s_law_rows_like ["found", "due"]) (B : Blt mg) (G_law_like : Ok P w K mg base "_law_like" ["found", "due"] n (spLike n)) : Ok P w K mg base "_law_rows_like" ["found", "due"] (n + 1) (spRows n) := by
  refine D.ok sc_law_rows_like (fun vs H Q E h => ?_) (fun f cdv A outer s H vs Q E hr h => ?_)
  · obtain ⟨l1, l2, xs, ys, ds, rfl, _⟩ := h
    rfl
  obtain ⟨l1, l2, xs, ys, ds, rfl, h1, h2, r1, r2, hd, q⟩ := h
  have lx := r1.length
  have ly := r2.length
  refine ⟨_, (pss_cons (ps_if (PW.pt (pw_or (pt_not (pt_val (pe_callB call_isinst (by rfl) B.isinstance PyProof.Rows.boot_isinstance (pa_cons (pv 0) (pa_cons (pe_ty_list B.list rfl) pa_nil))))) (pw_or1 (pt_cmpR op_ne (pe_callB call_len_seq (by rfl) B.len PySem.boot_len (pa_cons (pv 0) pa_nil)) (pe_callB call_len_seq (by rfl) B.len PySem.boot_len (pa_cons (pv 1) pa_nil)) (nomark _))))) (pss_one (ps_ret pe_bl)) pss_nil)
    (pss_cons (ps_for PassesOwn.never rfl (pi_zipL (by rfl) B.zip (pa_cons (pv 0) (pa_cons (pv 1) pa_nil))) (pg_tup rfl (pgs_cons (pg_name (i := 2) sc_law_rows_like.nd rfl (Or.inl rfl)) (pgs_cons (pg_name (i := 3) sc_law_rows_like.nd rfl (Or.inl rfl)) pgs_nil))) (pss_one (ps_if (pt_not (pt_val (pe_ok G_law_like hr (by omega) rfl (pa_cons (pv 2) (pa_cons (pv 3) pa_nil))))) (pss_one (ps_ret pe_bl)) pss_nil)))
    (pss_one (ps_ret pe_bl)))), ?_⟩
  refine ⟨_, rfl, .ref l1, "list", .type "list", true, rfl, .lst h1, kit_list_list, true, rfl, iteF ?_⟩
  refine ⟨_, rfl, l1, xs, rfl, .inl (SqL.of h1), _, rfl, l2, ys, rfl, .inl (SqL.of h2), rfl, _, rfl, iteNS (by rw [lx, ly]) ?_⟩
  refine ⟨_, rfl, _, rfl, l1, l2, xs, ys, rfl, h1, h2, ?_⟩
  refine for_zipL (by rw [lx, ly]) (fun i σ H2 => Same H H2 ∧ ∃ o1 o2 : Option V, σ = [some (.ref l1), some (.ref l2), o1, o2]) ⟨Same.refl H, _, _, rfl⟩ (fun i σ H2 hP => ⟨hP.1.at h1, hP.1.at h2⟩) (fun i x y p σ H2 hx hy hp hP => ?_) (fun σ H2 hP => ?_)
  · obtain ⟨s2, o1, o2, rfl⟩ := hP
    have s3 := s2.trans (same_new hp (.tup [x, y]))
    obtain ⟨d1, e1, q1⟩ := r1.get hx
    obtain ⟨d2, e2, q2⟩ := r2.get hy
    rw [e1] at e2; cases e2
    have hm := ddepL_mem (List.mem_of_getElem? e1)
    refine ⟨p, _, rfl, SqT.of upd_same, rfl, _, _, rfl, _, _, rfl, rfl, ?_⟩
    refine ⟨_, rfl, _, rfl, x, y, d1, rfl, q1.mono (tk_of s3), q2.mono (tk_of s3), (by omega), fun H3 s4 => ⟨true, rfl, iteF ?_⟩⟩
    exact ⟨s3.trans s4, _, _, rfl⟩
  · obtain ⟨s2, o1, o2, rfl⟩ := hP
    exact q H2 s2
def spAtom : Sp := fun vs H Q _ => ∃ (n : Int) (l : Addr), vs = [.int n, .ref l] ∧ Nms8 H l ∧ ∀ r d H', Same H H' → Rd H' d r → Atm d → Q r H'
theorem ok_law_atom (D : Def K mg "_law_atom" s_law_atom ["number", "names"]) : Ok P w K mg base "_law_atom" ["number", "names"] 1 spAtom := by
  refine D.ok sc_law_atom (fun vs H Q E h => ?_) (fun f cdv A outer s H vs Q E hr h => ?_)
  · obtain ⟨n, l, rfl, _⟩ := h
    rfl
  obtain ⟨n, l, rfl, hN, q⟩ := h
  obtain ⟨x, y, z, hl⟩ := hN
  have s2 : 2 ≤ sizeLine := by decide
  have s3 : 3 ≤ sizeLine := by decide
  refine ⟨_, (pss_cons (ps_if (pt_cmpR op_eq (pe_op op_mod (pv 0) pe_int) pe_int (nomark _)) (pss_one (ps_ret (pe_tup (pa_cons pe_str (pa_cons (pe_tup (pa_cons pe_str (pa_cons (pv 0) pa_nil))) (pa_cons (pe_tup (pa_cons pe_str (pa_cons (pe_ix ix_list (pv 1) pe_int (fun _ _ => rfl)) (pa_cons (pe_tup pa_nil) pa_nil)))) pa_nil)))))) pss_nil)
    (pss_cons (ps_if (pt_cmpR op_eq (pe_op op_mod (pv 0) pe_int) pe_int (nomark _)) (pss_one (ps_ret (pe_tup (pa_cons pe_str (pa_cons (pe_tup (pa_cons pe_str (pa_cons (pe_ix ix_list (pv 1) pe_int (fun _ _ => rfl)) (pa_cons (pe_tup (pa_cons (pe_tup (pa_cons pe_str (pa_cons (pv 0) pa_nil))) (pa_cons (pe_tup (pa_cons pe_str (pa_cons pe_int pa_nil))) pa_nil))) pa_nil)))) pa_nil))))) pss_nil)
    (pss_one (ps_ret (pe_tup (pa_cons pe_str (pa_cons (pe_ix ix_list (pv 1) pe_int (fun _ _ => rfl)) (pa_cons (pe_tup (pa_cons (pe_tup (pa_cons pe_str (pa_cons (pv 0) pa_nil))) pa_nil)) pa_nil)))))))), ?_⟩
  refine ⟨_, rfl, _, _, rfl, rfl, (by show (0 : Int) < 3; decide), rfl, _, rfl, ite2 (fun _ => ?_) (fun _ => ?_)⟩
  · refine ⟨_, rfl, s2, fun p1 h1 => ?_⟩
    have a1 := same_new h1 (.tup [.str "var", .int n])
    refine ⟨_, rfl, l, _, _, _, rfl, rfl, SqL.of (a1.at hl), at0, (by decide), fun p2 h2 => ⟨s3, fun p3 h3 => ⟨s3, fun p4 h4 => ?_⟩⟩⟩
    have a2 := same_new h2 (.tup [])
    have a3 := same_new h3 (.tup [.str "fun", .str x, .ref p2])
    have a4 := same_new h4 (.tup [.str "same", .ref p1, .ref p3])
    refine q _ (.tup [.str "same", .tup [.str "var", .int n], .tup [.str "fun", .str x, .tup []]]) _ (a1.trans (a2.trans (a3.trans a4))) ?_ ⟨"same", _, rfl, by decide +kernel, by decide +kernel, by simp [ddep, ddepL]⟩
    simp only [Rd, Rds]
    exact ⟨p4, _, rfl, upd_same, _, _, rfl, rfl, _, _, rfl, ⟨p1, _, rfl, (a2.trans (a3.trans a4)).at upd_same, _, _, rfl, rfl, _, _, rfl, rfl, rfl⟩, _, _, rfl, ⟨p3, _, rfl, a4.at upd_same, _, _, rfl, rfl, _, _, rfl, rfl, _, _, rfl, ⟨p2, _, rfl, (a3.trans a4).at upd_same, rfl⟩, rfl⟩, rfl⟩
  refine ⟨_, rfl, _, _, rfl, rfl, (by show (0 : Int) < 3; decide), rfl, _, rfl, ite2 (fun _ => ?_) (fun _ => ?_)⟩
  · refine ⟨_, rfl, l, _, _, _, rfl, rfl, SqL.of hl, at1, _, rfl, s2, fun p1 h1 => ⟨s2, fun p2 h2 => ⟨s2, fun p3 h3 => ⟨s3, fun p4 h4 => ⟨s2, fun p5 h5 => ?_⟩⟩⟩⟩⟩
    have a1 := same_new h1 (.tup [.str "var", .int n])
    have a2 := same_new h2 (.tup [.str "var", .int 0])
    have a3 := same_new h3 (.tup [.ref p1, .ref p2])
    have a4 := same_new h4 (.tup [.str "rel", .str y, .ref p3])
    have a5 := same_new h5 (.tup [.str "all", .ref p4])
    refine q _ (.tup [.str "all", .tup [.str "rel", .str y, .tup [.tup [.str "var", .int n], .tup [.str "var", .int 0]]]]) _ (a1.trans (a2.trans (a3.trans (a4.trans a5)))) ?_ ⟨"all", _, rfl, by decide +kernel, by decide +kernel, by simp [ddep, ddepL]⟩
    simp only [Rd, Rds]
    exact ⟨p5, _, rfl, upd_same, _, _, rfl, rfl, _, _, rfl, ⟨p4, _, rfl, a5.at upd_same, _, _, rfl, rfl, _, _, rfl, rfl, _, _, rfl, ⟨p3, _, rfl, (a4.trans a5).at upd_same, _, _, rfl, ⟨p1, _, rfl, (a2.trans (a3.trans (a4.trans a5))).at upd_same, _, _, rfl, rfl, _, _, rfl, rfl, rfl⟩, _, _, rfl, ⟨p2, _, rfl, (a3.trans (a4.trans a5)).at upd_same, _, _, rfl, rfl, _, _, rfl, rfl, rfl⟩, rfl⟩, rfl⟩, rfl⟩
  · refine ⟨_, rfl, l, _, _, _, rfl, rfl, SqL.of hl, at2, _, rfl, s2, fun p1 h1 => ⟨(by show 1 ≤ sizeLine; decide), fun p2 h2 => ⟨s3, fun p3 h3 => ?_⟩⟩⟩
    have a1 := same_new h1 (.tup [.str "var", .int n])
    have a2 := same_new h2 (.tup [.ref p1])
    have a3 := same_new h3 (.tup [.str "rel", .str z, .ref p2])
    refine q _ (.tup [.str "rel", .str z, .tup [.tup [.str "var", .int n]]]) _ (a1.trans (a2.trans a3)) ?_ ⟨"rel", _, rfl, by decide +kernel, by decide +kernel, by simp [ddep, ddepL]⟩
    simp only [Rd, Rds]
    exact ⟨p3, _, rfl, upd_same, _, _, rfl, rfl, _, _, rfl, rfl, _, _, rfl, ⟨p2, _, rfl, a3.at upd_same, _, _, rfl, ⟨p1, _, rfl, (a2.trans a3).at upd_same, _, _, rfl, rfl, _, _, rfl, rfl, rfl⟩, rfl⟩, rfl⟩
def spPlain (N : Nat) : Sp := fun vs H Q _ => ∃ (s m : Int) (n : Nat) (l : Addr), vs = [.int s, .int n, .ref l, .int m] ∧ n ≤ N ∧ 0 < m ∧ Nms8 H l ∧ ∀ r f H', Same H H' → RF H' f r → Fok f → fdep f ≤ n + 1 → leaves f ≤ 2 ^ n → Q r H'
theorem ok_law_plain (D : Def K mg "_law_plain" s_law_plain ["seed", "deep", "names", "many"]) (G_law_part : Ok P w K mg base "_law_part" ["seed", "k"] 1 spPart) (G_law_atom : Ok P w K mg base "_law_atom" ["number", "names"] 1 spAtom) :
    ∀ N : Nat, Ok P w K mg base "_law_plain" ["seed", "deep", "names", "many"] (N + 2) (spPlain N) := by
  have step : ∀ (N : Nat) (sp : Sp), (N = 0 ∧ sp = (fun _ _ _ _ => False)) ∨ (∃ M, N = M + 1 ∧ sp = spPlain M) → Ok P w K mg base "_law_plain" ["seed", "deep", "names", "many"] (N + 1) sp → Ok P w K mg base "_law_plain" ["seed", "deep", "names", "many"] (N + 2) (spPlain N) := by
    intro N sp hsp G_law_plain
    refine D.ok sc_law_plain (fun vs H Q E h => ?_) (fun f cdv A outer s H vs Q E hr h => ?_)
    · obtain ⟨a, m, n, l, rfl, _⟩ := h
      rfl
    obtain ⟨sd, m, n, l, rfl, hn, hm, hl, q⟩ := h
    refine ⟨_, (pss_cons (ps_if (PW.pt (pw_or (pt_cmpR op_eq (pv 1) pe_int (nomark _)) (pw_or1 (pt_cmpR op_eq (pe_op op_mod (pv 0) pe_int) pe_int (nomark _))))) (pss_cons (ps_if (pt_cmpR op_eq (pe_op op_mod (pe_op op_fdiv (pv 0) pe_int) pe_int) pe_int (nomark _)) (pss_one (ps_ret (pe_tup (pa_cons pe_str pa_nil)))) pss_nil)
    (pss_one (ps_ret (pe_ok G_law_atom hr (by omega) rfl (pa_cons (pe_op op_mod (pe_op op_fdiv (pv 0) pe_int) (pv 3)) (pa_cons (pv 2) pa_nil)))))) pss_nil)
    (pss_cons (ps_set (i := 4) sc_law_plain.nd rfl (Or.inl rfl) (pe_ok G_law_plain hr (by omega) rfl (pa_cons (pe_ok G_law_part hr (by omega) rfl (pa_cons (pv 0) (pa_cons pe_int pa_nil))) (pa_cons (pe_op op_sub (pv 1) pe_int) (pa_cons (pv 2) (pa_cons (pv 3) pa_nil))))))
    (pss_one (ps_ret (pe_tup (pa_cons pe_str (pa_cons (pv 4) (pa_cons (pe_ok G_law_plain hr (by omega) rfl (pa_cons (pe_ok G_law_part hr (by omega) rfl (pa_cons (pv 0) (pa_cons pe_int pa_nil))) (pa_cons (pe_op op_sub (pv 1) pe_int) (pa_cons (pv 2) (pa_cons (pv 3) pa_nil))))) pa_nil)))))))), ?_⟩
    have low : (1 : Nat) ≤ 2 ^ n := Nat.one_le_two_pow
    refine ⟨_, rfl, rfl, _, rfl, ?_⟩
    refine ite2 (fun _ => ?_) (fun c => ?_)
    · refine iteT ?_
      refine ⟨_, rfl, _, _, rfl, rfl, ⟨by decide, by decide⟩, _, _, rfl, rfl, (by show (0 : Int) < 6; decide), rfl, _, rfl, ite2 (fun _ => ?_) (fun _ => ?_)⟩
      · refine ⟨(by show 1 ≤ sizeLine; decide), fun p hp => ?_⟩
        exact q _ .no _ (same_new hp _) ⟨p, rfl, upd_same⟩ trivial (by show 1 ≤ n + 1; omega) (by show 1 ≤ 2 ^ n; exact low)
      · refine ⟨_, rfl, _, _, rfl, rfl, ⟨by decide, by decide⟩, _, rfl, _, _, rfl, rfl, hm, _, rfl, _, l, rfl, hl, fun r d H' s1 hr1 ha => ?_⟩
        exact q r (.atom d) H' s1 hr1 ha (by show 1 ≤ n + 1; omega) (by show 1 ≤ 2 ^ n; exact low)
    have c' : ¬ V.int n = V.int 0 := of_decide_eq_false (Bool.eq_false_iff.mpr c)
    have hn0 : n ≠ 0 := fun e => c' (by rw [e]; rfl)
    refine ⟨_, rfl, _, _, rfl, rfl, (by show (0 : Int) < 5; decide), rfl, _, rfl, ?_⟩
    refine ite2 (fun _ => ?_) (fun _ => ?_)
    · refine ⟨_, rfl, _, _, rfl, rfl, ⟨by decide, by decide⟩, _, _, rfl, rfl, (by show (0 : Int) < 6; decide), rfl, _, rfl, ite2 (fun _ => ?_) (fun _ => ?_)⟩
      · refine ⟨(by show 1 ≤ sizeLine; decide), fun p hp => ?_⟩
        exact q _ .no _ (same_new hp _) ⟨p, rfl, upd_same⟩ trivial (by show 1 ≤ n + 1; omega) (by show 1 ≤ 2 ^ n; exact low)
      · refine ⟨_, rfl, _, _, rfl, rfl, ⟨by decide, by decide⟩, _, rfl, _, _, rfl, rfl, hm, _, rfl, _, l, rfl, hl, fun r d H' s1 hr1 ha => ?_⟩
        exact q r (.atom d) H' s1 hr1 ha (by show 1 ≤ n + 1; omega) (by show 1 ≤ 2 ^ n; exact low)
    rcases hsp with ⟨rfl, _⟩ | ⟨M, rfl, rfl⟩
    · omega
    obtain ⟨j, rfl⟩ : ∃ j, n = j + 1 := ⟨n - 1, by omega⟩
    have e1 : ((j + 1 : Nat) : Int) - 1 = (j : Int) := by omega
    refine ⟨_, rfl, _, _, rfl, fun r1 H1 s1 => ?_⟩
    refine ⟨_, rfl, _, _, rfl, rfl, _, rfl, _, rfl, r1, m, j, l, ?_, (by omega), hm, hl.mono s1, fun v1 f1 H2 s2 hv1 o1 d1 l1 => ?_⟩
    · show [V.int r1, V.int (((j + 1 : Nat) : Int) - 1), V.ref l, V.int m] = _
      rw [e1]
    refine ⟨_, rfl, _, rfl, _, _, rfl, fun r2 H3 s3 => ?_⟩
    have s123 := s1.trans (s2.trans s3)
    refine ⟨_, rfl, _, _, rfl, rfl, _, rfl, _, rfl, r2, m, j, l, ?_, (by omega), hm, hl.mono s123, fun v2 f2 H4 s4 hv2 o2 d2 l2 => ?_⟩
    · show [V.int r2, V.int (((j + 1 : Nat) : Int) - 1), V.ref l, V.int m] = _
      rw [e1]
    refine ⟨(by show 3 ≤ sizeLine; decide), fun p hp => ?_⟩
    have s5 := same_new hp (.tup [.str "if", v1, v2])
    refine q _ (.cond f1 f2) _ (s123.trans (s4.trans s5)) ⟨p, v1, v2, rfl, upd_same, hv1.mono (tk_of (s3.trans (s4.trans s5))), hv2.mono (tk_of s5)⟩ ⟨o1, o2⟩ ?_ ?_
    · rw [fdep]; omega
    · rw [leaves, Nat.pow_succ]; omega
  intro N
  induction N with
  | zero => exact step 0 _ (.inl ⟨rfl, rfl⟩) (D.void fun _ _ _ _ h => h)
  | succ N ih => exact step (N + 1) _ (.inr ⟨N, rfl, rfl⟩) ih
theorem ok_law_met (D : Def K mg "_law_met" s_law_met ["form", "met"]) : ∀ n : Nat, Ok P w K mg base "_law_met" ["form", "met"] n (spMet n)
  | 0 => D.void fun vs H Q E h => by
    obtain ⟨v, l, f, xs, m, _, _, _, h, _⟩ := h
    have := fdep_pos f
    omega
  | n + 1 => by
    have G_law_met := ok_law_met D n
    refine D.ok sc_law_met (fun vs H Q E h => ?_) (fun f cdv A outer s H vs Q E hr h => ?_)
    · obtain ⟨v, l, f, xs, m, rfl, _⟩ := h
      rfl
    obtain ⟨v, l, f, xs, m, rfl, hf, ok, hd, hl, hm, hat, hlen, q⟩ := h
    have lx := hm.length
    refine ⟨_, (pss_cons (ps_if (pt_cmpR op_eq (pe_ix ix_tup (pv 0) pe_int (fun _ _ => rfl)) pe_str (nomark _)) (pss_one (ps_ret (pe_ok G_law_met hr (by omega) rfl (pa_cons (pe_ix ix_tup (pv 0) pe_int (fun _ _ => rfl)) (pa_cons (pe_ok G_law_met hr (by omega) rfl (pa_cons (pe_ix ix_tup (pv 0) pe_int (fun _ _ => rfl)) (pa_cons (pv 1) pa_nil))) pa_nil))))) pss_nil)
    (pss_cons (ps_if (PW.pt (pw_or (pt_cmpR op_eq (pe_ix ix_tup (pv 0) pe_int (fun _ _ => rfl)) pe_str (nomark _)) (pw_or1 (pt_cmpR (op_inD (n := 8) (hu9 hr)) (pv 0) (pv 1) (by with_unfolding_all rfl))))) (pss_one (ps_ret (pv 1))) pss_nil)
    (pss_one (ps_ret (pe_op op_cat (pv 1) (pe_lst (pa_cons (pv 0) pa_nil))))))), ?_⟩
    obtain ⟨b, t, us, rfl, hb, e1, e2⟩ := hf.head ok
    refine ⟨_, rfl, b, _, _, _, rfl, rfl, SqT.of hb, at0, rfl, _, rfl, ?_⟩
    rw [e1]
    cases f with
    | no =>
      refine iteF ⟨_, rfl, b, _, _, _, rfl, rfl, SqT.of hb, at0, rfl, _, rfl, ?_⟩
      rw [e2]
      exact iteT (iteT ⟨_, rfl, q l xs H (Same.refl H) hl hm⟩)
    | atom d =>
      refine iteF ⟨_, rfl, b, _, _, _, rfl, rfl, SqT.of hb, at0, rfl, _, rfl, ?_⟩
      rw [e2]
      refine iteF ⟨_, rfl, _, rfl, l, xs, d, m, rfl, .inl (SqL.of hl), hm, hf, atm_le hat, _, rfl, ?_⟩
      rw [met] at q
      rw [leaves] at hlen
      cases e : (m.any fun e => deq e d) with
      | true =>
        rw [e] at q
        exact iteT ⟨_, rfl, q l xs H (Same.refl H) hl hm⟩
      | false =>
        rw [e] at q
        refine iteF ⟨_, rfl, _, rfl, (by show 1 ≤ sizeLine; decide), fun p1 hp1 => ?_⟩
        have s1 := same_new hp1 (.lst [.ref b])
        refine ⟨l, p1, _, _, rfl, rfl, s1.at hl, upd_same, (by rw [sizeLine_eq, List.length_singleton]; omega), fun p2 hp2 => ?_⟩
        have s2 := same_new hp2 (.lst (xs ++ [.ref b]))
        have sA := s1.trans s2
        refine q p2 _ _ sA upd_same ?_
        exact (hm.mono (tk_of sA)).app (show Rds _ [d] [.ref b] by rw [Rds]; exact ⟨_, _, rfl, Rd.mono (tk_of sA) hf, by rw [Rds]⟩)
    | cond x y =>
      obtain ⟨b', u1, u2, eb, hb', hx, hy⟩ := hf
      cases eb
      rw [fdep] at hd
      rw [leaves] at hlen
      have l1 := met_len x m
      refine iteT ⟨_, rfl, b, _, _, _, rfl, rfl, SqT.of hb', at2, _, rfl, b, _, _, _, rfl, rfl, SqT.of hb', at1, _, rfl, u1, l, x, xs, m, rfl, hx, ok.1, (by omega), hl, hm, hat, (by omega), fun l1 xs1 H1 s1 hl1 hm1 => ?_⟩
      refine ⟨u2, l1, y, xs1, met x m, rfl, hy.mono (tk_of s1), ok.2, (by omega), hl1, hm1, met_ok x ok.1 hat, (by omega), fun l2 xs2 H2 s2 hl2 hm2 => ?_⟩
      exact q l2 xs2 H2 (s1.trans s2) hl2 hm2
theorem ok_law_so (D : Def K mg "_law_so" s_law_so ["form", "met", "row"]) : ∀ n : Nat, Ok P w K mg base "_law_so" ["form", "met", "row"] n (spLSo n)
  | 0 => D.void fun vs H Q E h => by
    obtain ⟨v, l, la, f, xs, ks, bs, _, _, _, h, _⟩ := h
    have := fdep_pos f
    omega
  | n + 1 => by
    have G_law_so := ok_law_so D n
    refine D.ok sc_law_so (fun vs H Q E h => ?_) (fun f cdv A outer s H vs Q E hr h => ?_)
    · obtain ⟨v, l, la, f, xs, ks, bs, rfl, _⟩ := h
      rfl
    obtain ⟨v, l, la, f, xs, ks, bs, rfl, hf, ok, hd, hl, hk, hat, hsub, hla, hlen, q⟩ := h
    refine ⟨_, (pss_cons (ps_if (pt_cmpR op_eq (pe_ix ix_tup (pv 0) pe_int (fun _ _ => rfl)) pe_str (nomark _)) (pss_one (ps_ret (pe_or (pe_ok G_law_so hr (by omega) rfl (pa_cons (pe_ix ix_tup (pv 0) pe_int (fun _ _ => rfl)) (pa_cons (pv 1) (pa_cons (pv 2) pa_nil)))) (pe_one (pe_not (pe_ok G_law_so hr (by omega) rfl (pa_cons (pe_ix ix_tup (pv 0) pe_int (fun _ _ => rfl)) (pa_cons (pv 1) (pa_cons (pv 2) pa_nil))))))))) pss_nil)
    (pss_one (ps_ret (pe_and (pe_cmpR op_ne (pe_ix ix_tup (pv 0) pe_int (fun _ _ => rfl)) pe_str (nomark _)) (pe_one (pe_ix ix_list (pv 2) (pe_bm PySem.F.plainAttrs_list PySem.F.slot_list_index PySem.F.type_list_index (mt_indexD (n := 8) (hu10 hr)) (pv 1) (pa_cons (pv 0) pa_nil)) (fun _ _ => rfl))))))), ?_⟩
    obtain ⟨b, t, us, rfl, hb, e1, e2⟩ := hf.head ok
    refine ⟨_, rfl, b, _, _, _, rfl, rfl, SqT.of hb, at0, rfl, _, rfl, ?_⟩
    rw [e1]
    cases f with
    | no =>
      refine iteF ⟨_, rfl, b, _, _, _, rfl, rfl, SqT.of hb, at0, rfl, ?_⟩
      rw [e2]
      exact ⟨_, rfl, iteF q⟩
    | atom d =>
      refine iteF ⟨_, rfl, b, _, _, _, rfl, rfl, SqT.of hb, at0, rfl, ?_⟩
      rw [e2]
      have md := hsub d (List.mem_cons_self ..)
      obtain ⟨j, j1, j2, j3⟩ := vlu_at md hlen
      refine ⟨_, rfl, iteT ⟨_, rfl, _, rfl, .inl ⟨rfl, xs, SqL.of hl⟩, _, rfl, l, xs, ks, _, d, j, rfl, rfl, SqL.of hl, hk, hf, atm_le hat, j1, j2, ?_⟩⟩
      refine ⟨la, _, _, _, rfl, rfl, SqL.of hla, atI_nat (v := .bl (vlu ks bs d)) ?_, q⟩
      rw [List.getElem?_map, j3]; rfl
    | cond x y =>
      obtain ⟨b', u1, u2, eb, hb', hx, hy⟩ := hf
      cases eb
      rw [fdep] at hd
      refine iteT ⟨_, rfl, b, _, _, _, rfl, rfl, SqT.of hb', at2, _, rfl, _, rfl, u2, l, la, y, xs, ks, bs, rfl, hy, ok.2, (by omega), hl, hk, hat, (fun d m => hsub d (List.mem_append_right _ m)), hla, hlen, ?_⟩
      rw [ev] at q
      cases e : ev (vlu ks bs) y with
      | true =>
        rw [e, Bool.or_true] at q
        exact ⟨true, rfl, iteT q⟩
      | false =>
        rw [e, Bool.or_false] at q
        refine ⟨false, rfl, iteF ⟨_, rfl, b, _, _, _, rfl, rfl, SqT.of hb', at1, _, rfl, _, rfl, u1, l, la, x, xs, ks, bs, rfl, hx, ok.1, (by omega), hl, hk, hat, (fun d m => hsub d (List.mem_append_left _ m)), hla, hlen, ?_⟩⟩
        exact ⟨_, rfl, q⟩
theorem ok_law_first {n : Nat} (D : Def K mg "_law_first" s_law_first ["form", "met", "row"]) (B : Blt mg) (G_law_so : Ok P w K mg base "_law_so" ["form", "met", "row"] n (spLSo n)) :
    ∀ M : Nat, Ok P w K mg base "_law_first" ["form", "met", "row"] (n + M + 1) (spFirst n M) := by
  have step : ∀ (M : Nat) (sp : Sp), (M = 0 ∧ sp = (fun _ _ _ _ => False)) ∨ (∃ J, M = J + 1 ∧ sp = spFirst n J) → Ok P w K mg base "_law_first" ["form", "met", "row"] (n + M) sp → Ok P w K mg base "_law_first" ["form", "met", "row"] (n + M + 1) (spFirst n M) := by
    intro M sp hsp G_law_first
    refine D.ok sc_law_first (fun vs H Q E h => ?_) (fun f cdv A outer s H vs Q E hr h => ?_)
    · obtain ⟨m, _, v, l, la, f, xs, ks, bs, rfl, _⟩ := h
      rfl
    obtain ⟨m, hm, v, l, la, f, xs, ks, bs, rfl, hf, ok, hd, hl, hk, nd, hat, hsub, hla, hlen, h1000, q⟩ := h
    have lx := hk.length
    refine ⟨_, (pss_cons (ps_if (pt_cmpR op_eq (pe_callB call_len_seq (by rfl) B.len PySem.boot_len (pa_cons (pv 2) pa_nil)) (pe_callB call_len_seq (by rfl) B.len PySem.boot_len (pa_cons (pv 1) pa_nil)) (nomark _)) (pss_one (ps_ret (pe_ifExp (pt_val (pe_ok G_law_so hr (by omega) rfl (pa_cons (pv 0) (pa_cons (pv 1) (pa_cons (pv 2) pa_nil))))) pe_non (pv 2)))) pss_nil)
    (pss_cons (ps_set (i := 3) sc_law_first.nd rfl (Or.inl rfl) (pe_ok G_law_first hr (by omega) rfl (pa_cons (pv 0) (pa_cons (pv 1) (pa_cons (pe_op op_cat (pv 2) (pe_lst (pa_cons pe_bl pa_nil))) pa_nil)))))
    (pss_cons (ps_if (pt_cmpR op_notN (pv 3) pe_non (nomark _)) (pss_one (ps_ret (pv 3))) pss_nil)
    (pss_one (ps_ret (pe_ok G_law_first hr (by omega) rfl (pa_cons (pv 0) (pa_cons (pv 1) (pa_cons (pe_op op_cat (pv 2) (pe_lst (pa_cons pe_bl pa_nil))) pa_nil))))))))), ?_⟩
    refine ⟨_, rfl, la, _, rfl, .inl (SqL.of hla), _, rfl, l, xs, rfl, .inl (SqL.of hl), rfl, _, rfl, ?_⟩
    rw [List.length_map, lx]
    cases m with
    | zero =>
      have e0 : bs.length = ks.length := by omega
      rw [e0, decide_eq_true rfl]
      refine iteT ⟨_, rfl, _, rfl, _, rfl, v, l, la, f, xs, ks, bs, rfl, hf, ok, hd, hl, hk, hat, hsub, hla, e0, ?_⟩
      refine ⟨_, rfl, ?_⟩
      cases e : ev (vlu ks bs) f with
      | true => exact iteT (q.1 (by rw [frst, e]; rfl) _ (Same.refl _))
      | false => exact iteF ⟨_, rfl, q.2 bs (by rw [frst, e]; rfl) la _ (Same.refl _) hla⟩
    | succ j =>
      rcases hsp with ⟨rfl, _⟩ | ⟨J, rfl, rfl⟩
      · omega
      have ne : ¬ (V.int (bs.length : Nat) = V.int (ks.length : Nat)) := fun e => by
        injection e with e
        omega
      rw [decide_eq_false ne]
      have call : ∀ (b : Bool) (H1 : Hp) (p1 p2 : Addr) (Q' : VK), Same H H1 → H1 p2 = none → Gives (frst f ks j (bs ++ [b])) (upd H1 p2 (.lst (bs.map V.bl ++ [.bl b]))) Q' → spFirst n J [v, .ref l, .ref p2] (upd H1 p2 (.lst (bs.map V.bl ++ [.bl b]))) Q' E0 := fun b H1 p1 p2 Q' s1 hp2 g => by
        have s3 := same_new hp2 (.lst (bs.map V.bl ++ [.bl b]))
        have sA := s1.trans s3
        exact ⟨j, (by omega), v, l, p2, f, xs, ks, bs ++ [b], rfl, hf.mono (tk_of sA), ok, hd, sA.at hl, hk.mono (tk_of sA), nd, hat, hsub, (by rw [List.map_append]; exact upd_same), (by rw [List.length_append, List.length_singleton]; omega), h1000, g⟩
      have sz : (bs.map V.bl).length + 1 ≤ sizeLine := by rw [sizeLine_eq, List.length_map]; omega
      refine iteF ⟨_, rfl, _, rfl, _, rfl, (by show 1 ≤ sizeLine; decide), fun p1 hp1 => ?_⟩
      have s2 := same_new hp1 (.lst [.bl false])
      refine ⟨la, p1, _, _, rfl, rfl, s2.at hla, upd_same, sz, fun p2 hp2 => ?_⟩
      have s3 := same_new hp2 (.lst (bs.map V.bl ++ [.bl false]))
      refine call false _ p1 p2 _ s2 hp2 ⟨fun e H2 s4 => ?_, fun r e lr H2 s4 hlr => ?_⟩
      · have sB := s2.trans (s3.trans s4)
        refine ⟨_, rfl, rfl, _, rfl, iteF ⟨_, rfl, _, rfl, _, rfl, (by show 1 ≤ sizeLine; decide), fun p3 hp3 => ?_⟩⟩
        have s5 := same_new hp3 (.lst [.bl true])
        refine ⟨la, p3, _, _, rfl, rfl, (sB.trans s5).at hla, upd_same, sz, fun p4 hp4 => ?_⟩
        have s6 := same_new hp4 (.lst (bs.map V.bl ++ [.bl true]))
        refine call true _ p3 p4 _ (sB.trans s5) hp4 ⟨fun e2 H3 s7 => ?_, fun r e2 lr H3 s7 hlr => ?_⟩
        · exact q.1 (by rw [frst, e]; exact e2) H3 (sB.trans (s5.trans (s6.trans s7)))
        · exact q.2 r (by rw [frst, e]; exact e2) lr H3 (sB.trans (s5.trans (s6.trans s7))) hlr
      · refine ⟨_, rfl, rfl, _, rfl, iteT ⟨_, rfl, ?_⟩⟩
        exact q.2 r (by rw [frst, e]) lr H2 (s2.trans (s3.trans s4)) hlr
  intro M
  induction M with
  | zero => exact step 0 _ (.inl ⟨rfl, rfl⟩) (D.void fun _ _ _ _ h => h)
  | succ M ih => exact step (M + 1) _ (.inr ⟨M, rfl, rfl⟩) ih
def spLarge (n : Nat) : Sp := fun vs H Q _ => ∃ v f, vs = [v] ∧ RF H f v ∧ Fok f ∧ fdep f ≤ n ∧ leaves f ≤ 1000 ∧ (met f []).length > 8 ∧ ∀ H', Same H H' → Q (.bl true) H'
theorem ok_law_large {CT CU CH : Addr} {n : Nat} (D : Def K mg "_law_large" s_law_large ["form"]) (B : Blt mg) (E_TooLarge : ECls K mg base "TooLarge" CT) (E_Unfit : ECls K mg base "Unfit" CU) (E_HallError : ECls K mg base "HallError" CH) (x1 : PySem.W.exmOne K (.ref CT) (.ref CH) = some true)
    (k1 : PySem.W.kitOne K (.ref CT) (.ref CT) = some true) (k2 : PySem.W.kitOne K (.ref CT) (.ref CU) = some false) (G_refuter : OkX P w K mg base "refuter" ["form"] (n + 10) (spRefuter CT n)) : Ok P w K mg base "_law_large" ["form"] (n + 11) (spLarge n) := by
  refine D.ok sc_law_large (fun vs H Q E h => ?_) (fun f cdv A outer s H vs Q E hr h => ?_)
  · obtain ⟨v, f, rfl, _⟩ := h
    rfl
  obtain ⟨v, f, rfl, hf, ok, hd, hl, h8, q⟩ := h
  refine ⟨_, (pss_cut (ps_try ⟨rfl, rfl⟩ rfl (fun pins R => (pss_one (ps_expr (pe_okX G_refuter rfl hr (by omega) (by rfl) (pa_cons (pv 0) pa_nil))))) (ph_as (i := 1) sc_law_large.nd rfl rfl (by rfl) E_HallError.bound (fun ea => (pss_one (ps_ret (pe_and (pe_callB (call_isinstX (K := K) rfl) (by rfl) B.isinstance PyProof.Rows.boot_isinstance (pa_cons (pv 1) (pa_cons (pe_cls (by rfl) E_TooLarge.bound) pa_nil))) (pe_one (pe_not (pe_callB (call_isinstX (K := K) rfl) (by rfl) B.isinstance PyProof.Rows.boot_isinstance (pa_cons (pv 1) (pa_cons (pe_cls (by rfl) E_Unfit.bound) pa_nil))))))))) ph_nil))
    (pss_one (ps_ret pe_bl))), ?_⟩
  refine ⟨fun _ _ => False, ?_, fun _ _ z => z.elim⟩
  refine ⟨_, rfl, v, f, rfl, hf, ok, hd, hl, fun _ H1 s1 => ?_, fun z => absurd z (by omega)⟩
  refine ⟨true, x1, iteT fun ea he => ?_⟩
  have sx := same_new he (.ext (IsEx ea (.ref CT)))
  refine ⟨_, rfl, ea, _, _, _, _, rfl, upd_same, rfl, E_TooLarge.exk, k1, _, rfl, iteT ?_⟩
  refine ⟨_, rfl, ea, _, _, _, _, rfl, upd_same, rfl, E_TooLarge.exk, k2, _, rfl, ?_⟩
  exact q _ (s1.trans sx)
theorem fn_law {e : Addr} {ed : FuncData} {CT : Addr} (F : Fun K "law" "law" s_law e ed) (B : Blt mg) (G_law_names_by : Ok P w K mg base "_law_names_by" ["cell"] 3 spNames) (G_law_cell_at : Ok P w K mg base "_law_cell_at" ["script", "k"] 1 (spCell K))
    (G_law_next : Ok P w K mg base "_law_next" ["seed"] 1 spNext) (G_law_plain : Ok P w K mg base "_law_plain" ["seed", "deep", "names", "many"] 6 (spPlain 4)) (G_law_atom : Ok P w K mg base "_law_atom" ["number", "names"] 1 spAtom)
    (G_law_met : Ok P w K mg base "_law_met" ["form", "met"] 20 (spMet 20)) (G_atoms : Ok P w K mg base "atoms" ["form"] 21 (spAtoms 20)) (G_law_rows_like : Ok P w K mg base "_law_rows_like" ["found", "due"] 9 (spRows 8)) (G_law_large : Ok P w K mg base "_law_large" ["form"] 31 (spLarge 20))
    (G_law_first : Ok P w K mg base "_law_first" ["form", "met", "row"] 29 (spFirst 20 8)) (G_refuter : OkX P w K mg base "refuter" ["form"] 30 (spRefuter CT 20)) :
    FnOk P w K mg base CX0 70 e ed ["script"] (spLawT K []) := by
  refine F.ok sc_law (fun vs H Q E h => ?_) (fun cdv A outer s H vs Q E hr h => ?_)
  · obtain ⟨a, ns, rfl, _⟩ := h
    rfl
  obtain ⟨a, ns, rfl, hS, h63, hTT, q⟩ := h
  refine ⟨_, (pss_cons (ps_set (i := 1) sc_law.nd rfl (Or.inl rfl) (pe_ok G_law_names_by hr (by omega) rfl (pa_cons (pe_ok G_law_cell_at hr (by omega) rfl (pa_cons (pv 0) (pa_cons pe_int pa_nil))) pa_nil)))
    (pss_cons (ps_set (i := 2) sc_law.nd rfl (Or.inl rfl) (pe_ok G_law_plain hr (by omega) rfl (pa_cons (pe_ok G_law_next hr (by omega) rfl (pa_cons (pe_ok G_law_cell_at hr (by omega) rfl (pa_cons (pv 0) (pa_cons pe_int pa_nil))) pa_nil)) (pa_cons pe_int (pa_cons (pv 1) (pa_cons (pe_op op_add pe_int (pe_op op_mod (pe_ok G_law_cell_at hr (by omega) rfl (pa_cons (pv 0) (pa_cons pe_int pa_nil))) pe_int)) pa_nil))))))
    (pss_cut (ps_if (pt_cmpR op_eq (pe_op op_mod (pe_ok G_law_cell_at hr (by omega) rfl (pa_cons (pv 0) (pa_cons pe_int pa_nil))) pe_int) pe_int (nomark _)) (pss_one (ps_for PassesOwn.never rfl (pi_range1 (by rfl) B.range (pa_cons (pe_op op_add pe_int (pe_op op_mod (pe_op op_fdiv (pe_ok G_law_cell_at hr (by omega) rfl (pa_cons (pv 0) (pa_cons pe_int pa_nil))) pe_int) pe_int)) pa_nil)) (pg_name (i := 3) sc_law.nd rfl (Or.inl rfl)) (pss_one (ps_set (i := 2) sc_law.nd rfl (Or.inl rfl) (pe_tup (pa_cons pe_str (pa_cons (pe_ok G_law_atom hr (by omega) rfl (pa_cons (pe_op op_mod (pe_op op_add (pv 3) (pe_ok G_law_cell_at hr (by omega) rfl (pa_cons (pv 0) (pa_cons pe_int pa_nil)))) pe_int) (pa_cons (pv 1) pa_nil))) (pa_cons (pv 2) pa_nil)))))))) pss_nil)
    (pss_cons (ps_set (i := 4) sc_law.nd rfl (Or.inl rfl) (pe_ok G_law_met hr (by omega) rfl (pa_cons (pv 2) (pa_cons (pe_lst pa_nil) pa_nil))))
    (pss_cons (ps_if (pt_not (pt_val (pe_ok G_law_rows_like hr (by omega) rfl (pa_cons (pe_ok G_atoms hr (by omega) rfl (pa_cons (pv 2) pa_nil)) (pa_cons (pv 4) pa_nil))))) (pss_one (ps_ret pe_bl)) pss_nil)
    (pss_cons (ps_if (pt_cmpR op_gt (pe_callB call_len_seq (by rfl) B.len PySem.boot_len (pa_cons (pv 4) pa_nil)) pe_int (nomark _)) (pss_one (ps_ret (pe_ok G_law_large hr (by omega) rfl (pa_cons (pv 2) pa_nil)))) pss_nil)
    (pss_cons (ps_set (i := 5) sc_law.nd rfl (Or.inl rfl) (pe_ok G_law_first hr (by omega) rfl (pa_cons (pv 2) (pa_cons (pv 4) (pa_cons (pe_lst pa_nil) pa_nil)))))
    (pss_cons (ps_set (i := 6) sc_law.nd rfl (Or.inl rfl) (pe_ok (OkX.calm G_refuter) hr (by omega) rfl (pa_cons (pv 2) pa_nil)))
    (pss_cons (ps_if (PW.pt (pw_or (pt_cmpR op_isN (pv 5) pe_non (nomark _)) (pw_or1 (pt_cmpR op_isN (pv 6) pe_non (nomark _))))) (pss_one (ps_ret (pe_and (pe_cmpR op_isN (pv 5) pe_non (nomark _)) (pe_one (pe_cmpR op_isN (pv 6) pe_non (nomark _)))))) pss_nil)
    (pss_cons (ps_if (PW.pt (pw_or (pt_not (pt_val (pe_callB call_isinst (by rfl) B.isinstance PyProof.Rows.boot_isinstance (pa_cons (pv 6) (pa_cons (pe_ty_list B.list rfl) pa_nil))))) (pw_or1 (pt_cmpR op_ne (pe_callB call_len_seq (by rfl) B.len PySem.boot_len (pa_cons (pv 6) pa_nil)) (pe_callB call_len_seq (by rfl) B.len PySem.boot_len (pa_cons (pv 5) pa_nil)) (nomark _))))) (pss_one (ps_ret pe_bl)) pss_nil)
    (pss_cons (ps_for PassesOwn.never rfl (pi_list (pv 6)) (pg_name (i := 7) sc_law.nd rfl (Or.inl rfl)) (pss_one (ps_if (pt_not (pt_val (pe_callB call_isinst (by rfl) B.isinstance PyProof.Rows.boot_isinstance (pa_cons (pv 7) (pa_cons (pe_ty_bool B.bool rfl) pa_nil))))) (pss_one (ps_ret pe_bl)) pss_nil)))
    (pss_one (ps_ret (pe_cmpR (op_eqLB (hu2 hr)) (pv 6) (pv 5) (nomark _))))))))))))))), ?_⟩
  refine ⟨_, rfl, a, ns, 0, rfl, hS, (by decide), _, rfl, fun l x y z H1 s1 hx hy hz hl => ?_⟩
  have hN : Nms8 H1 l := ⟨x, y, z, hl⟩
  have h20 := Int.emod_nonneg (cellOf ns 2) (show (5 : Int) ≠ 0 by decide)
  refine ⟨_, rfl, a, ns, 1, rfl, s1.seq hS, (by decide), _, rfl, _, rfl, _, rfl, a, ns, 2, rfl, s1.seq hS, (by decide), _, _, rfl, rfl, (by show (0 : Int) < 5; decide), _, _, rfl, rfl, _, _, 4, l, rfl, (by omega), (by omega), hN, fun v f H2 s2 hv ok hd hlv => ?_⟩
  have s12 := s1.trans s2
  refine ⟨fun σ H3 => Same H2 H3 ∧ ∃ v f o, σ = [some (.ref a), some (.ref l), some v, o, none, none, none, none] ∧ RF H3 f v ∧ Fok f ∧ fdep f ≤ 15 ∧ leaves f ≤ 26, ?_, ?_⟩
  · refine ⟨_, rfl, a, ns, 3, rfl, s12.seq hS, (by decide), _, _, rfl, rfl, (by show (0 : Int) < 5; decide), rfl, _, rfl, ite2 (fun _ => ?_) (fun _ => ?_)⟩
    · have h0 := Int.emod_nonneg (cellOf ns 3 / 5) (show (5 : Int) ≠ 0 by decide)
      have h1 := Int.emod_lt_of_pos (cellOf ns 3 / 5) (show (0 : Int) < 5 by decide)
      refine ⟨_, rfl, a, ns, 3, rfl, s12.seq hS, (by decide), _, _, rfl, rfl, ⟨by decide, by decide⟩, _, _, rfl, rfl, (by show (0 : Int) < 5; decide), _, _, rfl, rfl, _, rfl, (by omega), (by omega), ?_⟩
      refine for_range (lo := 0) (n := (6 + cellOf ns 3 / 5 % 5).toNat) (fun i σ H3 => Same H2 H3 ∧ ∃ v f o, σ = [some (.ref a), some (.ref l), some v, o, none, none, none, none] ∧ RF H3 f v ∧ Fok f ∧ fdep f ≤ 5 + i ∧ leaves f ≤ 16 + i)
        ⟨Same.refl _, v, f, none, rfl, hv, ok, by omega, by omega⟩ (fun i σ H3 hi hP => ?_) (fun σ H3 hP => ?_)
      · obtain ⟨s3, v, f, o, rfl, hv, ok, hd, hlv⟩ := hP
        refine ⟨_, rfl, _, rfl, a, ns, 2, rfl, (s12.trans s3).seq hS, (by decide), _, _, rfl, rfl, _, _, rfl, rfl, (by show (0 : Int) < 10; decide), _, rfl, _, l, rfl, (hN.mono s2).mono s3, fun r d H4 s4 hr4 ha => ?_⟩
        refine ⟨_, rfl, (by show 3 ≤ sizeLine; decide), fun p hp => ?_⟩
        have s5 := same_new hp (.tup [.str "if", r, v])
        refine ⟨s3.trans (s4.trans s5), .ref p, .cond (.atom d) f, _, rfl, ⟨p, r, v, rfl, upd_same, Rd.mono (tk_of s5) hr4, hv.mono (tk_of (s4.trans s5))⟩, ⟨ha, ok⟩, ?_, ?_⟩
        · have := fdep_pos f
          simp only [fdep]; omega
        · simp only [leaves]; omega
      · obtain ⟨s3, v, f, o, rfl, hv, ok, hd, hlv⟩ := hP
        exact ⟨s3, v, f, o, rfl, hv, ok, by omega, by omega⟩
    · exact ⟨Same.refl _, v, f, none, rfl, hv, ok, by omega, by omega⟩
  clear hv ok hd hlv
  rintro σ H3 ⟨s3, v, f, o, rfl, hv, ok, hd, hlv⟩
  have s13 := s12.trans s3
  refine ⟨_, rfl, (by show 0 ≤ sizeLine; decide), fun pm hpm => ?_⟩
  have sm := same_new hpm (.lst [])
  refine ⟨v, pm, f, [], [], rfl, hv.mono (tk_of sm), ok, (by omega), upd_same, (by rw [Rds]), (fun d hd => by cases hd), (by simp; omega), fun lm xm H4 s4 hlm hrm => ?_⟩
  have s04 := sm.trans s4
  refine ⟨_, rfl, v, f, rfl, hv.mono (tk_of s04), ok, (by omega), (by omega), fun l5 x5 H5 s5 h5 r5 => ?_⟩
  refine ⟨_, rfl, l5, lm, x5, xm, met f [], rfl, h5, s5.at hlm, r5, hrm.mono (tk_of s5), atm_le (met_ok f ok (fun d hd => by cases hd)), fun H6 s6 => ⟨true, rfl, iteF ?_⟩⟩
  have s06 := s04.trans (s5.trans s6)
  have hlm6 := (s5.trans s6).at hlm
  have hrm6 := hrm.mono (tk_of (s5.trans s6))
  have hv6 := hv.mono (tk_of s06)
  have lx := hrm.length
  refine ⟨_, rfl, lm, xm, rfl, .inl (SqL.of hlm6), _, _, rfl, rfl, _, rfl, ite2 (fun c => ?_) (fun c => ?_)⟩
  · have c' := of_decide_eq_true c
    rw [lx] at c'
    exact ⟨_, rfl, v, f, rfl, hv6, ok, (by omega), (by omega), (by omega), fun H7 s7 => q H7⟩
  have c' := of_decide_eq_false (Bool.eq_false_iff.mpr c)
  rw [lx] at c'
  have hm8 : (met f []).length ≤ 8 := by omega
  refine ⟨_, rfl, _, rfl, (by show 0 ≤ sizeLine; decide), fun p0 hp0 => ?_⟩
  have s7 := same_new hp0 (.lst [])
  refine ⟨(met f []).length, hm8, v, lm, p0, f, xm, met f [], [], rfl, hv6.mono (tk_of s7), ok, (by omega), s7.at hlm6, hrm6.mono (tk_of s7), met_nodup f List.nodup_nil, met_ok f ok (fun d hd => by cases hd), (fun d hd => met_ats f [] hd), upd_same, (by simp), (by omega), fun en H8 s8 => ?_, fun bs es ld H8 s8 hld => ?_⟩
  · refine ⟨_, rfl, v, f, rfl, hv6.mono (tk_of (s7.trans s8)), ok, (by omega), (by omega), (fun z => absurd z (by omega)), fun _ => ⟨fun _ H9 s9 => ?_, (fun bs es => by rw [en] at es; cases es)⟩⟩
    refine ⟨_, rfl, rfl, _, rfl, iteT (iteT ?_)⟩
    refine ⟨_, rfl, rfl, true, rfl, iteT ⟨_, rfl, rfl, q H9⟩⟩
  · refine ⟨_, rfl, v, f, rfl, hv6.mono (tk_of (s7.trans s8)), ok, (by omega), (by omega), (fun z => absurd z (by omega)), fun _ => ⟨(fun en => by rw [es] at en; cases en), fun bs' es' lf H9 s9 hlf => ?_⟩⟩
    rw [es] at es'; cases es'
    have hld9 := s9.at hld
    refine ⟨_, rfl, rfl, _, rfl, iteF ⟨_, rfl, rfl, _, rfl, iteF ?_⟩⟩
    refine ⟨_, rfl, .ref lf, "list", .type "list", true, rfl, .lst hlf, kit_list_list, true, rfl, iteF ?_⟩
    refine ⟨_, rfl, lf, _, rfl, .inl (SqL.of hlf), _, rfl, ld, _, rfl, .inl (SqL.of hld9), rfl, _, rfl, iteNS rfl ?_⟩
    refine ⟨_, rfl, lf, rfl, ⟨_, SqL.of hlf⟩, ?_⟩
    refine for_list (xs := bs.map V.bl) (fun i σ H' => H' = H9 ∧ ∃ o1 o2 : Option V, σ = [some (.ref a), some (.ref l), some v, o1, some (.ref lm), some (.ref ld), some (.ref lf), o2]) ⟨rfl, _, _, rfl⟩ (fun i σ H' _ hP => by rw [hP.1]; exact SqL.of hlf) (fun i x σ H' hi hP => ?_) (fun σ H' hP => ?_)
    · obtain ⟨rfl, o1, o2, rfl⟩ := hP
      obtain ⟨b, _, rfl⟩ : ∃ b, bs[i]? = some b ∧ V.bl b = x := by
        rw [List.getElem?_map] at hi
        exact Option.map_eq_some_iff.mp hi
      refine ⟨_, rfl, .bl b, "bool", .type "bool", true, rfl, .bl b, kit_bool_bool, true, rfl, iteF ?_⟩
      exact ⟨rfl, _, _, rfl⟩
    · obtain ⟨rfl, o1, o2, rfl⟩ := hP
      refine ⟨_, rfl, _, rfl, lf, ld, bs, bs, rfl, rfl, SqL.of hlf, SqL.of hld9, rfl, ?_⟩
      rw [decide_eq_true rfl]
      exact q _
end
end Sh
namespace Sh
open PySem PySem.Spec PyProof.Rows L2
theorem all_mk {l : PySem.W.OpenLaw} {w : World} {K : PySem.W.Frag} {h : Heap} {mg : Str → Option Value} {fa : Addr} {q : Program} (X : K.In h) (G : h.Ns mainGlobals mg) (hfa : mg "law" = some (.ref fa))
    {C_HallError : Addr}
    {C_Unfit : Addr}
    {C_TooLarge : Addr}
    {f1 : Addr} {od1 an1 : Option Addr} {sl1 : Array (Option Value)} {oc1 kV1 dc1 pm1 ct1 : Value} {cd1 : Value}
    {f2 : Addr} {od2 an2 : Option Addr} {sl2 : Array (Option Value)} {oc2 kV2 dc2 pm2 ct2 : Value} {cd2 : Value}
    {f3 : Addr} {od3 an3 : Option Addr} {sl3 : Array (Option Value)} {oc3 kV3 dc3 pm3 ct3 : Value} {cd3 : Value}
    {f4 : Addr} {od4 an4 : Option Addr} {sl4 : Array (Option Value)} {oc4 kV4 dc4 pm4 ct4 : Value} {cd4 : Value}
    {f5 : Addr} {od5 an5 : Option Addr} {sl5 : Array (Option Value)} {oc5 kV5 dc5 pm5 ct5 : Value} {cd5 : Value}
    {f6 : Addr} {od6 an6 : Option Addr} {sl6 : Array (Option Value)} {oc6 kV6 dc6 pm6 ct6 : Value} {cd6 : Value}
    {f7 : Addr} {od7 an7 : Option Addr} {sl7 : Array (Option Value)} {oc7 kV7 dc7 pm7 ct7 : Value} {cd7 : Value}
    {f8 : Addr} {od8 an8 : Option Addr} {sl8 : Array (Option Value)} {oc8 kV8 dc8 pm8 ct8 : Value} {cd8 : Value}
    {f9 : Addr} {od9 an9 : Option Addr} {sl9 : Array (Option Value)} {oc9 kV9 dc9 pm9 ct9 : Value} {cd9 : Value}
    {f10 : Addr} {od10 an10 : Option Addr} {sl10 : Array (Option Value)} {oc10 kV10 dc10 pm10 ct10 : Value} {cd10 : Value}
    {f11 : Addr} {od11 an11 : Option Addr} {sl11 : Array (Option Value)} {oc11 kV11 dc11 pm11 ct11 : Value} {cd11 : Value}
    {f12 : Addr} {od12 an12 : Option Addr} {sl12 : Array (Option Value)} {oc12 kV12 dc12 pm12 ct12 : Value} {cd12 : Value}
    {f13 : Addr} {od13 an13 : Option Addr} {sl13 : Array (Option Value)} {oc13 kV13 dc13 pm13 ct13 : Value} {cd13 : Value}
    {f14 : Addr} {od14 an14 : Option Addr} {sl14 : Array (Option Value)} {oc14 kV14 dc14 pm14 ct14 : Value} {cd14 : Value}
    {f15 : Addr} {od15 an15 : Option Addr} {sl15 : Array (Option Value)} {oc15 kV15 dc15 pm15 ct15 : Value} {cd15 : Value}
    {f16 : Addr} {od16 an16 : Option Addr} {sl16 : Array (Option Value)} {oc16 kV16 dc16 pm16 ct16 : Value} {cd16 : Value}
    {f17 : Addr} {od17 an17 : Option Addr} {sl17 : Array (Option Value)} {oc17 kV17 dc17 pm17 ct17 : Value} {cd17 : Value}
    {f18 : Addr} {od18 an18 : Option Addr} {sl18 : Array (Option Value)} {oc18 kV18 dc18 pm18 ct18 : Value} {cd18 : Value}
    {f19 : Addr} {od19 an19 : Option Addr} {sl19 : Array (Option Value)} {oc19 kV19 dc19 pm19 ct19 : Value} {cd19 : Value}
    {tk_MOST_REFUTED : Tok}
    (e_HallError : PySem.W.nsIn K mainGlobals "HallError" = some (some (.ref C_HallError))) (x_HallError : PySem.W.excIn K C_HallError veMro "ValueError.__new__" = true) (ga_HallError : PySem.W.findIn K (.ref C_HallError) "__getattribute__" = some (some (.builtin "BaseException.__getattribute__"))) (gn_HallError : PySem.W.findIn K (.ref C_HallError) "__getattr__" = some none) (ca_HallError : PySem.W.findIn K (.ref C_HallError) "__class__" = some (some (.builtin "object.__class__"))) (ob_HallError : PySem.W.mroIn K C_HallError (.type "object") = some true) (be_HallError : PySem.W.mroIn K C_HallError (.type "BaseException") = some true)
    (e_Unfit : PySem.W.nsIn K mainGlobals "Unfit" = some (some (.ref C_Unfit))) (x_Unfit : PySem.W.excIn K C_Unfit veMro "ValueError.__new__" = true) (ga_Unfit : PySem.W.findIn K (.ref C_Unfit) "__getattribute__" = some (some (.builtin "BaseException.__getattribute__"))) (gn_Unfit : PySem.W.findIn K (.ref C_Unfit) "__getattr__" = some none) (ca_Unfit : PySem.W.findIn K (.ref C_Unfit) "__class__" = some (some (.builtin "object.__class__"))) (ob_Unfit : PySem.W.mroIn K C_Unfit (.type "object") = some true) (be_Unfit : PySem.W.mroIn K C_Unfit (.type "BaseException") = some true)
    (e_TooLarge : PySem.W.nsIn K mainGlobals "TooLarge" = some (some (.ref C_TooLarge))) (x_TooLarge : PySem.W.excIn K C_TooLarge veMro "ValueError.__new__" = true) (ga_TooLarge : PySem.W.findIn K (.ref C_TooLarge) "__getattribute__" = some (some (.builtin "BaseException.__getattribute__"))) (gn_TooLarge : PySem.W.findIn K (.ref C_TooLarge) "__getattr__" = some none) (ca_TooLarge : PySem.W.findIn K (.ref C_TooLarge) "__class__" = some (some (.builtin "object.__class__"))) (ob_TooLarge : PySem.W.mroIn K C_TooLarge (.type "object") = some true) (be_TooLarge : PySem.W.mroIn K C_TooLarge (.type "BaseException") = some true)
    (kit_TooLarge_TooLarge : PySem.W.kitOne K (.ref C_TooLarge) (.ref C_TooLarge) = some true)
    (kit_TooLarge_Unfit : PySem.W.kitOne K (.ref C_TooLarge) (.ref C_Unfit) = some false)
    (exm_TooLarge_HallError : PySem.W.exmOne K (.ref C_TooLarge) (.ref C_HallError) = some true)
    (a1 : PySem.W.nsIn K mainGlobals "atoms" = some (some (.ref f1))) (l1 : K.lookup f1 = some ⟨oc1, od1, .func (PySem.W.fnOf "atoms" "atoms" (defArgs s_atoms) (defBody s_atoms) (defScope s_atoms) .none kV1 dc1 pm1 an1 cd1 ct1), sl1⟩) (c_1 : PySem.W.codeIn K cd1 "atoms" = true) (k1 : PySem.W.keepIn K (.ref f1) = true)
    (a2 : PySem.W.nsIn K mainGlobals "gather" = some (some (.ref f2))) (l2 : K.lookup f2 = some ⟨oc2, od2, .func (PySem.W.fnOf "gather" "gather" (defArgs s_gather) (defBody s_gather) (defScope s_gather) .none kV2 dc2 pm2 an2 cd2 ct2), sl2⟩) (c_2 : PySem.W.codeIn K cd2 "gather" = true) (k2 : PySem.W.keepIn K (.ref f2) = true)
    (a3 : PySem.W.nsIn K mainGlobals "true_under" = some (some (.ref f3))) (l3 : K.lookup f3 = some ⟨oc3, od3, .func (PySem.W.fnOf "true_under" "true_under" (defArgs s_true_under) (defBody s_true_under) (defScope s_true_under) .none kV3 dc3 pm3 an3 cd3 ct3), sl3⟩) (c_3 : PySem.W.codeIn K cd3 "true_under" = true) (k3 : PySem.W.keepIn K (.ref f3) = true)
    (a4 : PySem.W.nsIn K mainGlobals "refuter" = some (some (.ref f4))) (l4 : K.lookup f4 = some ⟨oc4, od4, .func (PySem.W.fnOf "refuter" "refuter" (defArgs s_refuter) (defBody s_refuter) (defScope s_refuter) .none kV4 dc4 pm4 an4 cd4 ct4), sl4⟩) (c_4 : PySem.W.codeIn K cd4 "refuter" = true) (k4 : PySem.W.keepIn K (.ref f4) = true)
    (a5 : PySem.W.nsIn K mainGlobals "first_refuter" = some (some (.ref f5))) (l5 : K.lookup f5 = some ⟨oc5, od5, .func (PySem.W.fnOf "first_refuter" "first_refuter" (defArgs s_first_refuter) (defBody s_first_refuter) (defScope s_first_refuter) .none kV5 dc5 pm5 an5 cd5 ct5), sl5⟩) (c_5 : PySem.W.codeIn K cd5 "first_refuter" = true) (k5 : PySem.W.keepIn K (.ref f5) = true)
    (a6 : PySem.W.nsIn K mainGlobals "_law_cell_at" = some (some (.ref f6))) (l6 : K.lookup f6 = some ⟨oc6, od6, .func (PySem.W.fnOf "_law_cell_at" "_law_cell_at" (defArgs s_law_cell_at) (defBody s_law_cell_at) (defScope s_law_cell_at) .none kV6 dc6 pm6 an6 cd6 ct6), sl6⟩) (c_6 : PySem.W.codeIn K cd6 "_law_cell_at" = true) (k6 : PySem.W.keepIn K (.ref f6) = true)
    (a7 : PySem.W.nsIn K mainGlobals "_law_next" = some (some (.ref f7))) (l7 : K.lookup f7 = some ⟨oc7, od7, .func (PySem.W.fnOf "_law_next" "_law_next" (defArgs s_law_next) (defBody s_law_next) (defScope s_law_next) .none kV7 dc7 pm7 an7 cd7 ct7), sl7⟩) (c_7 : PySem.W.codeIn K cd7 "_law_next" = true) (k7 : PySem.W.keepIn K (.ref f7) = true)
    (a8 : PySem.W.nsIn K mainGlobals "_law_part" = some (some (.ref f8))) (l8 : K.lookup f8 = some ⟨oc8, od8, .func (PySem.W.fnOf "_law_part" "_law_part" (defArgs s_law_part) (defBody s_law_part) (defScope s_law_part) .none kV8 dc8 pm8 an8 cd8 ct8), sl8⟩) (c_8 : PySem.W.codeIn K cd8 "_law_part" = true) (k8 : PySem.W.keepIn K (.ref f8) = true)
    (a9 : PySem.W.nsIn K mainGlobals "_law_name_by" = some (some (.ref f9))) (l9 : K.lookup f9 = some ⟨oc9, od9, .func (PySem.W.fnOf "_law_name_by" "_law_name_by" (defArgs s_law_name_by) (defBody s_law_name_by) (defScope s_law_name_by) .none kV9 dc9 pm9 an9 cd9 ct9), sl9⟩) (c_9 : PySem.W.codeIn K cd9 "_law_name_by" = true) (k9 : PySem.W.keepIn K (.ref f9) = true)
    (a10 : PySem.W.nsIn K mainGlobals "_law_names_by" = some (some (.ref f10))) (l10 : K.lookup f10 = some ⟨oc10, od10, .func (PySem.W.fnOf "_law_names_by" "_law_names_by" (defArgs s_law_names_by) (defBody s_law_names_by) (defScope s_law_names_by) .none kV10 dc10 pm10 an10 cd10 ct10), sl10⟩) (c_10 : PySem.W.codeIn K cd10 "_law_names_by" = true) (k10 : PySem.W.keepIn K (.ref f10) = true)
    (a11 : PySem.W.nsIn K mainGlobals "_law_like" = some (some (.ref f11))) (l11 : K.lookup f11 = some ⟨oc11, od11, .func (PySem.W.fnOf "_law_like" "_law_like" (defArgs s_law_like) (defBody s_law_like) (defScope s_law_like) .none kV11 dc11 pm11 an11 cd11 ct11), sl11⟩) (c_11 : PySem.W.codeIn K cd11 "_law_like" = true) (k11 : PySem.W.keepIn K (.ref f11) = true)
    (a12 : PySem.W.nsIn K mainGlobals "_law_rows_like" = some (some (.ref f12))) (l12 : K.lookup f12 = some ⟨oc12, od12, .func (PySem.W.fnOf "_law_rows_like" "_law_rows_like" (defArgs s_law_rows_like) (defBody s_law_rows_like) (defScope s_law_rows_like) .none kV12 dc12 pm12 an12 cd12 ct12), sl12⟩) (c_12 : PySem.W.codeIn K cd12 "_law_rows_like" = true) (k12 : PySem.W.keepIn K (.ref f12) = true)
    (a13 : PySem.W.nsIn K mainGlobals "_law_atom" = some (some (.ref f13))) (l13 : K.lookup f13 = some ⟨oc13, od13, .func (PySem.W.fnOf "_law_atom" "_law_atom" (defArgs s_law_atom) (defBody s_law_atom) (defScope s_law_atom) .none kV13 dc13 pm13 an13 cd13 ct13), sl13⟩) (c_13 : PySem.W.codeIn K cd13 "_law_atom" = true) (k13 : PySem.W.keepIn K (.ref f13) = true)
    (a14 : PySem.W.nsIn K mainGlobals "_law_plain" = some (some (.ref f14))) (l14 : K.lookup f14 = some ⟨oc14, od14, .func (PySem.W.fnOf "_law_plain" "_law_plain" (defArgs s_law_plain) (defBody s_law_plain) (defScope s_law_plain) .none kV14 dc14 pm14 an14 cd14 ct14), sl14⟩) (c_14 : PySem.W.codeIn K cd14 "_law_plain" = true) (k14 : PySem.W.keepIn K (.ref f14) = true)
    (a15 : PySem.W.nsIn K mainGlobals "_law_met" = some (some (.ref f15))) (l15 : K.lookup f15 = some ⟨oc15, od15, .func (PySem.W.fnOf "_law_met" "_law_met" (defArgs s_law_met) (defBody s_law_met) (defScope s_law_met) .none kV15 dc15 pm15 an15 cd15 ct15), sl15⟩) (c_15 : PySem.W.codeIn K cd15 "_law_met" = true) (k15 : PySem.W.keepIn K (.ref f15) = true)
    (a16 : PySem.W.nsIn K mainGlobals "_law_so" = some (some (.ref f16))) (l16 : K.lookup f16 = some ⟨oc16, od16, .func (PySem.W.fnOf "_law_so" "_law_so" (defArgs s_law_so) (defBody s_law_so) (defScope s_law_so) .none kV16 dc16 pm16 an16 cd16 ct16), sl16⟩) (c_16 : PySem.W.codeIn K cd16 "_law_so" = true) (k16 : PySem.W.keepIn K (.ref f16) = true)
    (a17 : PySem.W.nsIn K mainGlobals "_law_first" = some (some (.ref f17))) (l17 : K.lookup f17 = some ⟨oc17, od17, .func (PySem.W.fnOf "_law_first" "_law_first" (defArgs s_law_first) (defBody s_law_first) (defScope s_law_first) .none kV17 dc17 pm17 an17 cd17 ct17), sl17⟩) (c_17 : PySem.W.codeIn K cd17 "_law_first" = true) (k17 : PySem.W.keepIn K (.ref f17) = true)
    (a18 : PySem.W.nsIn K mainGlobals "_law_large" = some (some (.ref f18))) (l18 : K.lookup f18 = some ⟨oc18, od18, .func (PySem.W.fnOf "_law_large" "_law_large" (defArgs s_law_large) (defBody s_law_large) (defScope s_law_large) .none kV18 dc18 pm18 an18 cd18 ct18), sl18⟩) (c_18 : PySem.W.codeIn K cd18 "_law_large" = true) (k18 : PySem.W.keepIn K (.ref f18) = true)
    (a19 : PySem.W.nsIn K mainGlobals "law" = some (some (.ref f19))) (l19 : K.lookup f19 = some ⟨oc19, od19, .func (PySem.W.fnOf "law" "law" (defArgs s_law) (defBody s_law) (defScope s_law) .none kV19 dc19 pm19 an19 cd19 ct19), sl19⟩) (c_19 : PySem.W.codeIn K cd19 "law" = true) (k19 : PySem.W.keepIn K (.ref f19) = true)
    (g_MOST_REFUTED : PySem.W.nsIn K mainGlobals "MOST_REFUTED" = some (some (.int 8 tk_MOST_REFUTED)))
    (z0 : PySem.W.nsIn K mainGlobals "len" = some none) (z1 : PySem.W.nsIn K mainGlobals "range" = some none) (z2 : PySem.W.nsIn K mainGlobals "int" = some none) (z3 : PySem.W.nsIn K mainGlobals "bool" = some none) (z4 : PySem.W.nsIn K mainGlobals "str" = some none) (z5 : PySem.W.nsIn K mainGlobals "tuple" = some none) (z6 : PySem.W.nsIn K mainGlobals "isinstance" = some none) (z7 : PySem.W.nsIn K mainGlobals "zip" = some none) (z8 : PySem.W.nsIn K mainGlobals "list" = some none) (z9 : PySem.W.nsIn K mainGlobals "sorted" = some none) (z10 : PySem.W.nsIn K mainGlobals "max" = some none) (z11 : PySem.W.nsIn K mainGlobals "min" = some none) (z12 : PySem.W.nsIn K mainGlobals "ord" = some none) (z13 : PySem.W.nsIn K mainGlobals "enumerate" = some none) (z14 : PySem.W.nsIn K mainGlobals "dict" = some none) (z15 : PySem.W.nsIn K mainGlobals "sum" = some none) (z16 : PySem.W.nsIn K mainGlobals "ValueError" = some none) :
    ∃ (fd : FuncData) (tabs : List (Addr × Addr)) (sp : Sp), (∀ (s : Shared) (v : Value), BindsTo s fd ⟨[v], []⟩ [("script", v)]) ∧ (∀ t ∈ tabs, ∃ y r, TabK K y t.1 t.2 ∧ (recsOf q).find? (fun e => e.name == y) = some r) ∧
      (∀ base : Heap, K.In base → base.Ns mainGlobals mg → (∀ t ∈ tabs, Tab base mg t.1 t.2) → FnOk l.prog w K mg base CX0 70 fa fd ["script"] sp) ∧
      ∀ (H : Hp) (a : Addr) (ns : List Int), ns.length ≤ 63 → SqL K H a (ns.map V.int) → (∀ t ∈ tabs, H t.2 = some (.tbl #[])) → sp [.ref a] H (fun v _ => v = .bl true) fun _ _ _ => False := by
  have e := hfa.symm.trans (PySem.W.mg_of X G a19)
  cases e
  have F_atoms := fun_mk (st := s_atoms) l1 c_1 k1
  have b_atoms := F_atoms.binds (ps := ["form"]) fun _ _ _ _ _ _ us hl => match us, hl with | [_], _ => rfl
  have D_atoms : Def K mg "atoms" s_atoms ["form"] := ⟨_, _, F_atoms, b_atoms, PySem.W.mg_of X G a1⟩
  have F_gather := fun_mk (st := s_gather) l2 c_2 k2
  have b_gather := F_gather.binds (ps := ["form", "found"]) fun _ _ _ _ _ _ us hl => match us, hl with | [_, _], _ => rfl
  have D_gather : Def K mg "gather" s_gather ["form", "found"] := ⟨_, _, F_gather, b_gather, PySem.W.mg_of X G a2⟩
  have F_true_under := fun_mk (st := s_true_under) l3 c_3 k3
  have b_true_under := F_true_under.binds (ps := ["form", "values"]) fun _ _ _ _ _ _ us hl => match us, hl with | [_, _], _ => rfl
  have D_true_under : Def K mg "true_under" s_true_under ["form", "values"] := ⟨_, _, F_true_under, b_true_under, PySem.W.mg_of X G a3⟩
  have F_refuter := fun_mk (st := s_refuter) l4 c_4 k4
  have b_refuter := F_refuter.binds (ps := ["form"]) fun _ _ _ _ _ _ us hl => match us, hl with | [_], _ => rfl
  have D_refuter : Def K mg "refuter" s_refuter ["form"] := ⟨_, _, F_refuter, b_refuter, PySem.W.mg_of X G a4⟩
  have F_first_refuter := fun_mk (st := s_first_refuter) l5 c_5 k5
  have b_first_refuter := F_first_refuter.binds (ps := ["form", "found", "answers"]) fun _ _ _ _ _ _ us hl => match us, hl with | [_, _, _], _ => rfl
  have D_first_refuter : Def K mg "first_refuter" s_first_refuter ["form", "found", "answers"] := ⟨_, _, F_first_refuter, b_first_refuter, PySem.W.mg_of X G a5⟩
  have F_law_cell_at := fun_mk (st := s_law_cell_at) l6 c_6 k6
  have b_law_cell_at := F_law_cell_at.binds (ps := ["script", "k"]) fun _ _ _ _ _ _ us hl => match us, hl with | [_, _], _ => rfl
  have D_law_cell_at : Def K mg "_law_cell_at" s_law_cell_at ["script", "k"] := ⟨_, _, F_law_cell_at, b_law_cell_at, PySem.W.mg_of X G a6⟩
  have F_law_next := fun_mk (st := s_law_next) l7 c_7 k7
  have b_law_next := F_law_next.binds (ps := ["seed"]) fun _ _ _ _ _ _ us hl => match us, hl with | [_], _ => rfl
  have D_law_next : Def K mg "_law_next" s_law_next ["seed"] := ⟨_, _, F_law_next, b_law_next, PySem.W.mg_of X G a7⟩
  have F_law_part := fun_mk (st := s_law_part) l8 c_8 k8
  have b_law_part := F_law_part.binds (ps := ["seed", "k"]) fun _ _ _ _ _ _ us hl => match us, hl with | [_, _], _ => rfl
  have D_law_part : Def K mg "_law_part" s_law_part ["seed", "k"] := ⟨_, _, F_law_part, b_law_part, PySem.W.mg_of X G a8⟩
  have F_law_name_by := fun_mk (st := s_law_name_by) l9 c_9 k9
  have b_law_name_by := F_law_name_by.binds (ps := ["cell"]) fun _ _ _ _ _ _ us hl => match us, hl with | [_], _ => rfl
  have D_law_name_by : Def K mg "_law_name_by" s_law_name_by ["cell"] := ⟨_, _, F_law_name_by, b_law_name_by, PySem.W.mg_of X G a9⟩
  have F_law_names_by := fun_mk (st := s_law_names_by) l10 c_10 k10
  have b_law_names_by := F_law_names_by.binds (ps := ["cell"]) fun _ _ _ _ _ _ us hl => match us, hl with | [_], _ => rfl
  have D_law_names_by : Def K mg "_law_names_by" s_law_names_by ["cell"] := ⟨_, _, F_law_names_by, b_law_names_by, PySem.W.mg_of X G a10⟩
  have F_law_like := fun_mk (st := s_law_like) l11 c_11 k11
  have b_law_like := F_law_like.binds (ps := ["found", "due"]) fun _ _ _ _ _ _ us hl => match us, hl with | [_, _], _ => rfl
  have D_law_like : Def K mg "_law_like" s_law_like ["found", "due"] := ⟨_, _, F_law_like, b_law_like, PySem.W.mg_of X G a11⟩
  have F_law_rows_like := fun_mk (st := s_law_rows_like) l12 c_12 k12
  have b_law_rows_like := F_law_rows_like.binds (ps := ["found", "due"]) fun _ _ _ _ _ _ us hl => match us, hl with | [_, _], _ => rfl
  have D_law_rows_like : Def K mg "_law_rows_like" s_law_rows_like ["found", "due"] := ⟨_, _, F_law_rows_like, b_law_rows_like, PySem.W.mg_of X G a12⟩
  have F_law_atom := fun_mk (st := s_law_atom) l13 c_13 k13
  have b_law_atom := F_law_atom.binds (ps := ["number", "names"]) fun _ _ _ _ _ _ us hl => match us, hl with | [_, _], _ => rfl
  have D_law_atom : Def K mg "_law_atom" s_law_atom ["number", "names"] := ⟨_, _, F_law_atom, b_law_atom, PySem.W.mg_of X G a13⟩
  have F_law_plain := fun_mk (st := s_law_plain) l14 c_14 k14
  have b_law_plain := F_law_plain.binds (ps := ["seed", "deep", "names", "many"]) fun _ _ _ _ _ _ us hl => match us, hl with | [_, _, _, _], _ => rfl
  have D_law_plain : Def K mg "_law_plain" s_law_plain ["seed", "deep", "names", "many"] := ⟨_, _, F_law_plain, b_law_plain, PySem.W.mg_of X G a14⟩
  have F_law_met := fun_mk (st := s_law_met) l15 c_15 k15
  have b_law_met := F_law_met.binds (ps := ["form", "met"]) fun _ _ _ _ _ _ us hl => match us, hl with | [_, _], _ => rfl
  have D_law_met : Def K mg "_law_met" s_law_met ["form", "met"] := ⟨_, _, F_law_met, b_law_met, PySem.W.mg_of X G a15⟩
  have F_law_so := fun_mk (st := s_law_so) l16 c_16 k16
  have b_law_so := F_law_so.binds (ps := ["form", "met", "row"]) fun _ _ _ _ _ _ us hl => match us, hl with | [_, _, _], _ => rfl
  have D_law_so : Def K mg "_law_so" s_law_so ["form", "met", "row"] := ⟨_, _, F_law_so, b_law_so, PySem.W.mg_of X G a16⟩
  have F_law_first := fun_mk (st := s_law_first) l17 c_17 k17
  have b_law_first := F_law_first.binds (ps := ["form", "met", "row"]) fun _ _ _ _ _ _ us hl => match us, hl with | [_, _, _], _ => rfl
  have D_law_first : Def K mg "_law_first" s_law_first ["form", "met", "row"] := ⟨_, _, F_law_first, b_law_first, PySem.W.mg_of X G a17⟩
  have F_law_large := fun_mk (st := s_law_large) l18 c_18 k18
  have b_law_large := F_law_large.binds (ps := ["form"]) fun _ _ _ _ _ _ us hl => match us, hl with | [_], _ => rfl
  have D_law_large : Def K mg "_law_large" s_law_large ["form"] := ⟨_, _, F_law_large, b_law_large, PySem.W.mg_of X G a18⟩
  have F_law := fun_mk (st := s_law) l19 c_19 k19
  have b_law := F_law.binds (ps := ["script"]) fun _ _ _ _ _ _ us hl => match us, hl with | [_], _ => rfl
  have D_law : Def K mg "law" s_law ["script"] := ⟨_, _, F_law, b_law, PySem.W.mg_of X G a19⟩
  have c_MOST_REFUTED := PySem.W.mg_of X G g_MOST_REFUTED
  have B : Blt mg := ⟨PySem.W.mg_none_of X G z0, PySem.W.mg_none_of X G z1, PySem.W.mg_none_of X G z2, PySem.W.mg_none_of X G z3, PySem.W.mg_none_of X G z4, PySem.W.mg_none_of X G z5, PySem.W.mg_none_of X G z6, PySem.W.mg_none_of X G z7, PySem.W.mg_none_of X G z8, PySem.W.mg_none_of X G z9, PySem.W.mg_none_of X G z10, PySem.W.mg_none_of X G z11, PySem.W.mg_none_of X G z12, PySem.W.mg_none_of X G z13, PySem.W.mg_none_of X G z14, PySem.W.mg_none_of X G z15, PySem.W.mg_none_of X G z16⟩
  letI : Inn := ⟨tabAt []⟩

  refine ⟨PySem.W.fnOf "law" "law" (defArgs s_law) (defBody s_law) (defScope s_law) .none kV19 dc19 pm19 an19 cd19 ct19, [], spLawT K [], fun s v => .of_eq rfl, ?_, fun base KB _ htab => ?_, fun H a ns hl hS hT => ⟨a, ns, rfl, hS, hl, ?_, fun _ => rfl⟩⟩
  · intro t ht
    simp only [List.mem_cons, List.not_mem_nil, or_false] at ht
    all_goals cases ht
  · skip
    have E_HallError : ECls K mg base "HallError" C_HallError := ecls_mk KB (PySem.W.mg_of X G e_HallError) x_HallError ga_HallError gn_HallError ca_HallError ob_HallError be_HallError
    have E_Unfit : ECls K mg base "Unfit" C_Unfit := ecls_mk KB (PySem.W.mg_of X G e_Unfit) x_Unfit ga_Unfit gn_Unfit ca_Unfit ob_Unfit be_Unfit
    have E_TooLarge : ECls K mg base "TooLarge" C_TooLarge := ecls_mk KB (PySem.W.mg_of X G e_TooLarge) x_TooLarge ga_TooLarge gn_TooLarge ca_TooLarge ob_TooLarge be_TooLarge
    have G_gather := ok_gather (P := l.prog) (w := w) (base := base) D_gather 20
    have G_atoms := ok_atoms D_atoms B G_gather
    have G_true_under := ok_true_under (P := l.prog) (w := w) (base := base) D_true_under 20
    have G_first_refuter := ok_first_refuter D_first_refuter B G_true_under 8
    have G_refuter := ok_refuter D_refuter B c_MOST_REFUTED E_TooLarge G_atoms G_first_refuter
    have G_next := ok_law_next (P := l.prog) (w := w) (base := base) D_law_next
    have G_part := ok_law_part (P := l.prog) (w := w) (base := base) D_law_part
    have G_atom := ok_law_atom (P := l.prog) (w := w) (base := base) D_law_atom
    have G_so := ok_law_so (P := l.prog) (w := w) (base := base) D_law_so 20
    have G_large := ok_law_large D_law_large B E_TooLarge E_Unfit E_HallError exm_TooLarge_HallError kit_TooLarge_TooLarge kit_TooLarge_Unfit G_refuter
    exact fn_law F_law B (ok_law_names_by D_law_names_by (ok_law_name_by D_law_name_by B G_next)) (ok_law_cell_at D_law_cell_at B) G_next (ok_law_plain D_law_plain G_part G_atom 4) G_atom (ok_law_met D_law_met 20) G_atoms (ok_law_rows_like D_law_rows_like B (ok_law_like D_law_like B 8)) G_large (ok_law_first D_law_first B G_so 8) G_refuter
  · intro T hTm
    simp only [List.mem_cons, List.not_mem_nil, or_false] at hTm
    all_goals cases hTm
end Sh
open PySem PySem.W PyProof.Rows
set_option maxRecDepth 100000 in
set_option maxHeartbeats 0 in
theorem PySem.Challenge.cw_surehall_k08_refuter_holds : PySem.Challenge.rw_surehall_k08_refuter.Holds := by
  w_on; o_law; k_head; (case hw => w_witness2)
  k_fill
  refine Sh.walk_T (l := PySem.Challenge.rw_surehall_k08_refuter) (k := 70) (x := "script") rfl rfl ⟨rfl, by decide, by decide⟩ (fun w h Y => by first | exact PySem.W.km_in_of Y | exact PySem.W.kIn_of Y) ?hKt ?F
  case hKt =>
    intro w
    first | kernel_rfl | (show PySem.W.noTabs _ = true; rfl) | decide +kernel
  case F =>
    intro w mg fa h KX G hmg
    refine' Sh.all_mk KX G hmg ?e_HallError ?x_HallError ?ga_HallError ?gn_HallError ?ca_HallError ?ob_HallError ?be_HallError ?e_Unfit ?x_Unfit ?ga_Unfit ?gn_Unfit ?ca_Unfit ?ob_Unfit ?be_Unfit ?e_TooLarge ?x_TooLarge ?ga_TooLarge ?gn_TooLarge ?ca_TooLarge ?ob_TooLarge ?be_TooLarge ?kit_TooLarge_TooLarge ?kit_TooLarge_Unfit ?exm_TooLarge_HallError ?a1 ?l1 ?c_1 ?k1 ?a2 ?l2 ?c_2 ?k2 ?a3 ?l3 ?c_3 ?k3 ?a4 ?l4 ?c_4 ?k4 ?a5 ?l5 ?c_5 ?k5 ?a6 ?l6 ?c_6 ?k6 ?a7 ?l7 ?c_7 ?k7 ?a8 ?l8 ?c_8 ?k8 ?a9 ?l9 ?c_9 ?k9 ?a10 ?l10 ?c_10 ?k10 ?a11 ?l11 ?c_11 ?k11 ?a12 ?l12 ?c_12 ?k12 ?a13 ?l13 ?c_13 ?k13 ?a14 ?l14 ?c_14 ?k14 ?a15 ?l15 ?c_15 ?k15 ?a16 ?l16 ?c_16 ?k16 ?a17 ?l17 ?c_17 ?k17 ?a18 ?l18 ?c_18 ?k18 ?a19 ?l19 ?c_19 ?k19 ?g_MOST_REFUTED ?z0 ?z1 ?z2 ?z3 ?z4 ?z5 ?z6 ?z7 ?z8 ?z9 ?z10 ?z11 ?z12 ?z13 ?z14 ?z15 ?z16
    (case e_HallError => k_is)
    (case x_HallError => k_exc)
    (case ga_HallError => k_is)
    (case gn_HallError => k_is)
    (case ca_HallError => k_is)
    (case ob_HallError => k_is)
    (case be_HallError => k_is)
    (case e_Unfit => k_is)
    (case x_Unfit => k_exc)
    (case ga_Unfit => k_is)
    (case gn_Unfit => k_is)
    (case ca_Unfit => k_is)
    (case ob_Unfit => k_is)
    (case be_Unfit => k_is)
    (case e_TooLarge => k_is)
    (case x_TooLarge => k_exc)
    (case ga_TooLarge => k_is)
    (case gn_TooLarge => k_is)
    (case ca_TooLarge => k_is)
    (case ob_TooLarge => k_is)
    (case be_TooLarge => k_is)
    (case kit_TooLarge_TooLarge => first | kernel_rfl | k_is)
    (case kit_TooLarge_Unfit => first | kernel_rfl | k_is)
    (case exm_TooLarge_HallError => first | kernel_rfl | k_is)
    (case a1 => k_is)
    (case l1 => k_is)
    (case c_1 => k_is)
    (case k1 => k_is)
    (case a2 => k_is)
    (case l2 => k_is)
    (case c_2 => k_is)
    (case k2 => k_is)
    (case a3 => k_is)
    (case l3 => k_is)
    (case c_3 => k_is)
    (case k3 => k_is)
    (case a4 => k_is)
    (case l4 => k_is)
    (case c_4 => k_is)
    (case k4 => k_is)
    (case a5 => k_is)
    (case l5 => k_is)
    (case c_5 => k_is)
    (case k5 => k_is)
    (case a6 => k_is)
    (case l6 => k_is)
    (case c_6 => k_is)
    (case k6 => k_is)
    (case a7 => k_is)
    (case l7 => k_is)
    (case c_7 => k_is)
    (case k7 => k_is)
    (case a8 => k_is)
    (case l8 => k_is)
    (case c_8 => k_is)
    (case k8 => k_is)
    (case a9 => k_is)
    (case l9 => k_is)
    (case c_9 => k_is)
    (case k9 => k_is)
    (case a10 => k_is)
    (case l10 => k_is)
    (case c_10 => k_is)
    (case k10 => k_is)
    (case a11 => k_is)
    (case l11 => k_is)
    (case c_11 => k_is)
    (case k11 => k_is)
    (case a12 => k_is)
    (case l12 => k_is)
    (case c_12 => k_is)
    (case k12 => k_is)
    (case a13 => k_is)
    (case l13 => k_is)
    (case c_13 => k_is)
    (case k13 => k_is)
    (case a14 => k_is)
    (case l14 => k_is)
    (case c_14 => k_is)
    (case k14 => k_is)
    (case a15 => k_is)
    (case l15 => k_is)
    (case c_15 => k_is)
    (case k15 => k_is)
    (case a16 => k_is)
    (case l16 => k_is)
    (case c_16 => k_is)
    (case k16 => k_is)
    (case a17 => k_is)
    (case l17 => k_is)
    (case c_17 => k_is)
    (case k17 => k_is)
    (case a18 => k_is)
    (case l18 => k_is)
    (case c_18 => k_is)
    (case k18 => k_is)
    (case a19 => k_is)
    (case l19 => k_is)
    (case c_19 => k_is)
    (case k19 => k_is)
    (case g_MOST_REFUTED => k_is)
    (case z0 => k_is); (case z1 => k_is); (case z2 => k_is); (case z3 => k_is); (case z4 => k_is); (case z5 => k_is); (case z6 => k_is); (case z7 => k_is); (case z8 => k_is); (case z9 => k_is); (case z10 => k_is); (case z11 => k_is); (case z12 => k_is); (case z13 => k_is); (case z14 => k_is); (case z15 => k_is); (case z16 => k_is)
#print axioms PySem.Challenge.cw_surehall_k08_refuter_holds

