import PyProof.Rows.All
import Wide.All
import OpenK.AllK
import Wide.FinOn
import Lean
import PyProof.EqAt
import PyProof.EqKinds
import PyProof.TupleCall
import PyProof.StrWalks
import PySem.Challenge.RW_surehall_k07_worlds
set_option Elab.async false
set_option linter.all false
set_option maxRecDepth 100000
/-! THE HAND LAYER, for ints, bools, texts, own classes, LISTS and tuples (index, slices, in, append, pop ..), calls, loops. Paste it whole ahead of your own text; what your proof does not reach may be deleted. -/
namespace L2
open PySem PySem.Spec PyProof.Rows

/-- a key: an int or a str -/
abbrev Key := Sum Int Str
def keyIs : Key → Value → Bool
  | .inl k, v => Value.isInt k v
  | .inr x, v => Value.isStrOf x v
def keyH (w : World) : Key → Int
  | .inl k => hashInt k
  | .inr x => hashStr w x
theorem keyIs_shape : ∀ {k : Key} {v : Value}, keyIs k v = true → (∃ i t, k = Sum.inl i ∧ v = Value.int i t) ∨ (∃ x t, k = Sum.inr x ∧ v = Value.str x t)
  | .inl i, v, h => by
    obtain ⟨t, e⟩ := Value.isInt_shape (k := i) (v := v) h
    exact .inl ⟨i, t, rfl, e⟩
  | .inr x, v, h => by
    obtain ⟨t, e⟩ := Value.isStrOf_shape (x := x) (v := v) h
    exact .inr ⟨x, t, rfl, e⟩
theorem key_ll (a b : Int) : decide ((Sum.inl a : Key) = Sum.inl b) = (a == b) := by
  by_cases e : a = b
  · subst e; simp
  · have h : ¬ (Sum.inl a : Key) = Sum.inl b := fun q => e (Sum.inl.inj q)
    rw [decide_eq_false h]
    exact (beq_eq_false_iff_ne.mpr e).symm
theorem key_rr (a b : Str) : decide ((Sum.inr a : Key) = Sum.inr b) = decide (a = b) := by
  by_cases e : a = b
  · subst e; simp
  · have h : ¬ (Sum.inr a : Key) = Sum.inr b := fun q => e (Sum.inr.inj q)
    rw [decide_eq_false h, decide_eq_false e]
theorem key_lr (a : Int) (b : Str) : decide ((Sum.inl a : Key) = Sum.inr b) = false := decide_eq_false (fun q => nomatch q)
theorem key_rl (a : Str) (b : Int) : decide ((Sum.inr a : Key) = Sum.inl b) = false := decide_eq_false (fun q => nomatch q)

def mixKind (prog : Program) (w : World) : PySem.KeyKind prog w Key where
  is := keyIs
  hash := keyH w
  inj := fun v a b ha hb => by
    rcases keyIs_shape ha with ⟨i, t, rfl, rfl⟩ | ⟨x, t, rfl, rfl⟩
    · rcases keyIs_shape hb with ⟨j, u, rfl, e⟩ | ⟨y, u, rfl, e⟩
      · injection e with e1 _; rw [e1]
      · exact nomatch e
    · rcases keyIs_shape hb with ⟨j, u, rfl, e⟩ | ⟨y, u, rfl, e⟩
      · exact nomatch e
      · injection e with e1 _; rw [e1]
  byValue := fun k v h => by
    rcases keyIs_shape h with ⟨i, t, rfl, rfl⟩ | ⟨x, t, rfl, rfl⟩ <;> rfl
  pyHash := fun hv h => by
    rcases keyIs_shape hv with ⟨i, t, rfl, rfl⟩ | ⟨x, t, rfl, rfl⟩
    · exact wpAny_pyHash_int h
    · exact wpAny_pyHash_str h
  eqBool := fun hu hv h => by
    rcases keyIs_shape hu with ⟨i, t, rfl, rfl⟩ | ⟨x, t, rfl, rfl⟩
    · rcases keyIs_shape hv with ⟨j, u, rfl, rfl⟩ | ⟨y, u, rfl, rfl⟩
      · rw [key_ll] at h; exact wpAny_eqBool_int h
      · rw [key_lr] at h; exact SeqAt.EqAt.int_str i t y u _ _ _ _ h
    · rcases keyIs_shape hv with ⟨j, u, rfl, rfl⟩ | ⟨y, u, rfl, rfl⟩
      · rw [key_rl] at h; exact SeqAt.EqAt.str_int x t j u _ _ _ _ h
      · rw [key_rr] at h; exact wpAny_eqBool_str h
  «strs» := fun k x t v h => by
    rcases keyIs_shape h with ⟨i, u, rfl, e⟩ | ⟨y, u, rfl, e⟩
    · exact nomatch e
    · injection e with e1 _
      subst e1
      cases v <;> rfl

end L2

namespace L2
open PySem PySem.Spec PyProof.Rows

/-- a value, without the heap -/
inductive V where
  | non | bl (b : Bool) | int (i : Int) | str (x : Str) | byt (b : Array UInt8) | flt (b : UInt64) | ref (a : Addr) | ty (n : String)
  deriving DecidableEq

def RelV : V → Value → Prop
  | .non, u => u = Value.none
  | .bl b, u => u = Value.bool b
  | .int i, u => ∃ t, u = Value.int i t
  | .str x, u => ∃ t, u = Value.str x t
  | .byt b, u => ∃ t, u = Value.bytes b t
  | .flt b, u => ∃ t, u = Value.float b t
  | .ref a, u => u = Value.ref a
  | .ty n, u => u = Value.type n

abbrev Vals : List V → List Value → Prop := Paired RelV
theorem Vals.length {xs : List V} {us : List Value} (r : Vals xs us) : xs.length = us.length := Paired.length r
theorem Vals.get : ∀ {xs : List V} {us : List Value} {i : Nat} {x : V}, Vals xs us → xs[i]? = some x → ∃ u, us[i]? = some u ∧ RelV x u
  | _, _, _, _, .nil, e => by simp at e
  | _, _, 0, _, .cons r _, e => by simp at e; subst e; exact ⟨_, rfl, r⟩
  | _, _, i + 1, x, .cons _ t, e => by
    obtain ⟨u, h1, h2⟩ := Vals.get (i := i) (x := x) t (by simpa using e)
    exact ⟨u, by simpa using h1, h2⟩
theorem Vals.set {x : V} {u : Value} (r : RelV x u) : ∀ {xs : List V} {us : List Value} (i : Nat), Vals xs us → Vals (xs.set i x) (us.set i u)
  | _, _, _, .nil => .nil
  | _, _, 0, .cons _ t => .cons r t
  | _, _, i + 1, .cons q t => .cons q (Vals.set r i t)
theorem Vals.append : ∀ {xs ys : List V} {us ws : List Value}, Vals xs us → Vals ys ws → Vals (xs ++ ys) (us ++ ws)
  | _, _, _, _, .nil, s => s
  | _, _, _, _, .cons r t, s => .cons r (Vals.append t s)
theorem Vals.take : ∀ {xs : List V} {us : List Value} (n : Nat), Vals xs us → Vals (xs.take n) (us.take n)
  | _, _, 0, _ => .nil
  | _, _, _ + 1, .nil => .nil
  | _, _, n + 1, .cons r t => .cons r (Vals.take n t)
theorem Vals.drop : ∀ {xs : List V} {us : List Value} (n : Nat), Vals xs us → Vals (xs.drop n) (us.drop n)
  | _, _, 0, r => r
  | _, _, _ + 1, .nil => .nil
  | _, _, n + 1, .cons _ t => Vals.drop n t
theorem Vals.none_of : ∀ {xs : List V} {us : List Value} {i : Nat}, Vals xs us → xs[i]? = none → us[i]? = none := fun {xs us i} r e => by
  have h1 := r.length
  have h2 : xs.length ≤ i := List.getElem?_eq_none_iff.mp e
  exact List.getElem?_eq_none_iff.mpr (by omega)

def RelO : Option V → Option Value → Prop
  | some v, some u => RelV v u
  | none, none => True
  | _, _ => False
def KV {κ : Type} : List (κ × V) → List (κ × Value) → Prop := Paired fun (p : κ × V) (q : κ × Value) => p.1 = q.1 ∧ RelV p.2 q.2

/-- a key of a dict (00_mix): an int or a text -/
def kV : Key → V
  | .inl i => .int i
  | .inr x => .str x

/-- what stands at a tracked address -/
inductive HO where
  /-- a list -/
  | lst (xs : List V)
  /-- a tuple (never changes) -/
  | tup (xs : List V)
  /-- a dict whose keys are ints and texts; one whose keys are tuples of ints and texts (the empty one is both) -/
  | dK (kvs : List (Key × V)) | dT (kvs : List (List Key × V))
  /-- a set of ints: its members, its size -/
  | set (S : Int → Bool) (n : Nat)
  /-- an instance of the class at C, its dict at dx, its attributes -/
  | ins (C dx : Addr) (fs : List (Str × V))
  /-- the dict of the instance at x -/
  | own (x : Addr)
  /-- the dict of an exception -/
  | xd (fs : List (Str × V))
  /-- a bound method, f of x -/
  | met (f x : Addr)
  /-- a range object lo, lo + 1, .. below hi -/
  | rng (lo hi : Int)
  /-- a thing that is known to the object (the script; a dict while a loop walks it): read, never written while it is so -/
  | frz (o : Obj) (u : HO)
  /-- a code object's table -/
  | tbl (ps : Array Value)
  /-- any other thing, by what is true of its one object (a def of one's own: SetO a S n := HO.ext fun h => ..) -/
  | ext (φ : Heap → Prop)

abbrev Hp := Addr → Option HO
def upd (H : Hp) (a : Addr) (o : HO) : Hp := fun b => if b = a then some o else H b
theorem upd_same {H : Hp} {a : Addr} {o : HO} : upd H a o a = some o := by unfold upd; rw [if_pos rfl]
theorem upd_ne {H : Hp} {a b : Addr} {o : HO} (h : b ≠ a) : upd H a o b = H b := by unfold upd; rw [if_neg h]
/-- two objects of different content stand apart -/
theorem ne_of {H : Hp} {a b : Addr} {o u : HO} (h : H a = some o) (h' : H b = some u) (d : o ≠ u) : a ≠ b := by
  intro e; subst e; rw [h] at h'; exact d (Option.some.inj h')
theorem ne_of_none {H : Hp} {a b : Addr} {o : HO} (h : H a = some o) (h' : H b = none) : a ≠ b := by
  intro e; subst e; rw [h] at h'; cases h'

section
variable (P : Program) (w : World)
def ObjOk (H : Hp) (h : Heap) (a : Addr) : HO → Prop
  | .lst xs => xs.length ≤ sizeLine ∧ ∃ (its : List Value) (n : Nat), Vals xs its ∧ h.get? a = some { cls := .type "list", data := .seq its.toArray n }
  | .tup xs => xs.length ≤ sizeLine ∧ ∃ its : List Value, Vals xs its ∧ IsTup h a its.toArray
  | .dK kvs => kvs.length ≤ sizeLine ∧ (a == sysModules) = false ∧ ∃ vs, KV kvs vs ∧ h.DictOf (mixKind P w) a vs
  | .dT kvs => kvs.length ≤ sizeLine ∧ (a == sysModules) = false ∧ ∃ xs : List (List Key × Addr × Value),
      Paired (fun (p : List Key × V) (q : List Key × Addr × Value) => p.1 = q.1 ∧ H q.2.1 = some (.tup (p.1.map kV)) ∧ RelV p.2 q.2.2) kvs xs ∧
      ∃ o es ep, h.get? a = some o ∧ o.ExactDict ∧ o.data = .dict es ep ∧ es.toList = xs.map (entryOfKey (tupleKind (mixKind P w))) ∧ (xs.map (·.1)).Nodup
  | .set S n => h.SetOf (intKind P w) a S n
  | .ins C dx fs => H dx = some (.own a) ∧ fs.length ≤ 1000 ∧ dx ≠ a ∧ h.get? a = some (PySem.W.instObj C dx) ∧
      ∃ mA, h.Ns1 dx mA ∧ (∀ f, RelO (fs.lookup f) (mA f)) ∧ PySem.Within mA (fs.map (·.1))
  | .own _ => ∃ o, h.get? a = some o
  | .xd fs => ∃ mA, h.Ns1 a mA ∧ ∀ f, RelO (fs.lookup f) (mA f)
  | .rng lo hi => ∃ t u v, h.get? a = some { cls := .type "range", data := .fields #[.int lo t, .int hi u, .int 1 v] }
  | .frz o u => h.get? a = some o ∧ ObjOk H h a u
  | .tbl ps => h.get? a = some { cls := .none, data := .fields ps }
  | .met f x => h.get? a = some (PySem.W.methodObj (.ref f) (.ref x))
  | .ext φ => φ h ∧ (∃ o, h.get? a = some o) ∧ ∀ h1 h2 : Heap, φ h1 → (∀ o, h1.get? a = some o → h2.get? a = some o) → φ h2
/-- the abstract heap is held -/
def HOk (H : Hp) (h : Heap) : Prop := ∀ a o, H a = some o → ObjOk P w H h a o
end

section
variable {P : Program} {w : World} {H H' : Hp} {h h' : Heap} {a : Addr} {o : HO}
theorem ObjOk.lt (x : ObjOk P w H h a o) : a < h.objs.size := by
  cases o with
  | lst xs => obtain ⟨_, _, _, _, e⟩ := x; exact Heap.lt_size e
  | tup xs => obtain ⟨_, _, _, p⟩ := x; exact p.lt
  | dK kvs => obtain ⟨_, _, _, _, o, _, _, e, _⟩ := x; exact Heap.lt_size e
  | dT kvs => obtain ⟨_, _, _, _, o, _, _, e, _⟩ := x; exact Heap.lt_size e
  | set S n => obtain ⟨o, _, _, _, e, _⟩ := x; exact Heap.lt_size e
  | ins C dx fs => obtain ⟨_, _, _, e, _⟩ := x; exact Heap.lt_size e
  | own y => obtain ⟨_, e⟩ := x; exact Heap.lt_size e
  | xd fs => obtain ⟨_, ⟨_, _, _, e, _⟩, _⟩ := x; exact Heap.lt_size e
  | rng lo hi => obtain ⟨_, _, _, e⟩ := x; exact Heap.lt_size e
  | frz ob u => obtain ⟨e, _⟩ := x; exact Heap.lt_size e
  | tbl ps => exact Heap.lt_size (show h.get? a = some _ from x)
  | met f y => exact Heap.lt_size (show h.get? a = some _ from x)
  | ext φ => obtain ⟨_, ⟨_, e⟩, _⟩ := x; exact Heap.lt_size e
theorem Paired.mapP {α β : Type} {F G : α → β → Prop} : ∀ {l₁ : List α} {l₂ : List β}, Paired F l₁ l₂ → (∀ a b, F a b → G a b) → Paired G l₁ l₂
  | _, _, .nil, _ => .nil
  | _, _, .cons r t, f => .cons (f _ _ r) (Paired.mapP t f)
/-- what an object's description leans on: its own object, its own dict, the tuples -/
theorem ObjOk.stay (x : ObjOk P w H h a o) (k : ∀ b u, (b = a ∨ H b = some (.own a)) → h.get? b = some u → h'.get? b = some u)
    (ho : ∀ b, H b = some (.own a) → H' b = some (.own a)) (ht : ∀ b xs, H b = some (.tup xs) → H' b = some (.tup xs)) : ObjOk P w H' h' a o := by
  induction o with
  | lst xs => obtain ⟨z, its, n, r, e⟩ := x; exact ⟨z, its, n, r, k _ _ (.inl rfl) e⟩
  | tup xs => obtain ⟨z, its, r, ob, e, c⟩ := x; exact ⟨z, its, r, ob, k _ _ (.inl rfl) e, c⟩
  | dK kvs => obtain ⟨z, y, vs, r, ob, es, ep, e, c⟩ := x; exact ⟨z, y, vs, r, ob, es, ep, k _ _ (.inl rfl) e, c⟩
  | dT kvs =>
    obtain ⟨z, y, xs, r, ob, es, ep, e, c⟩ := x
    exact ⟨z, y, xs, Paired.mapP r fun p q z => ⟨z.1, ht _ _ z.2.1, z.2.2⟩, ob, es, ep, k _ _ (.inl rfl) e, c⟩
  | set S n => obtain ⟨ob, es, ep, t, e, c⟩ := x; exact ⟨ob, es, ep, t, k _ _ (.inl rfl) e, c⟩
  | ins C dx fs =>
    obtain ⟨d, z, ne, e, mA, ⟨od, es, ep, e2, c⟩, r⟩ := x
    exact ⟨ho _ d, z, ne, k _ _ (.inl rfl) e, mA, ⟨od, es, ep, k _ _ (.inr d) e2, c⟩, r⟩
  | own y => obtain ⟨ob, e⟩ := x; exact ⟨ob, k _ _ (.inl rfl) e⟩
  | xd fs => obtain ⟨mA, ⟨od, es, ep, e, c⟩, r⟩ := x; exact ⟨mA, ⟨od, es, ep, k _ _ (.inl rfl) e, c⟩, r⟩
  | rng lo hi => obtain ⟨t, u, v, e⟩ := x; exact ⟨t, u, v, k _ _ (.inl rfl) e⟩
  | frz ob u ih => obtain ⟨e, q⟩ := x; exact ⟨k _ _ (.inl rfl) e, ih q⟩
  | tbl ps =>
    have e : h.get? a = some { cls := .none, data := .fields ps } := x
    show h'.get? a = some { cls := .none, data := .fields ps }
    exact k a _ (.inl rfl) e
  | met f y =>
    have e : h.get? a = some (PySem.W.methodObj (.ref f) (.ref y)) := x
    show h'.get? a = some (PySem.W.methodObj (.ref f) (.ref y))
    exact k a _ (.inl rfl) e
  | ext φ => obtain ⟨p, ⟨o, e⟩, st⟩ := x; exact ⟨st _ _ p fun o q => k _ _ (.inl rfl) q, ⟨o, k _ _ (.inl rfl) e⟩, st⟩
theorem HOk.lt (x : HOk P w H h) (e : H a = some o) : a < h.objs.size := (x a o e).lt
theorem HOk.fresh (x : HOk P w H h) (e : h.objs.size ≤ a) : H a = none := by
  cases q : H a with
  | none => rfl
  | some u => exact absurd (Nat.lt_of_lt_of_le (x.lt q) e) (Nat.lt_irrefl _)
/-- every object of the heap is kept -/
theorem HOk.kept (x : HOk P w H h) (k : ∀ b u, h.get? b = some u → h'.get? b = some u) : HOk P w H h' := fun a o e =>
  (x a o e).stay (fun b u _ q => k b u q) (fun _ q => q) fun _ _ q => q
/-- a new object is laid and tracked -/
theorem HOk.laid (x : HOk P w H h) (k : ∀ b u, h.get? b = some u → h'.get? b = some u) (hp : h.objs.size ≤ a) (new : ObjOk P w (upd H a o) h' a o) : HOk P w (upd H a o) h' := fun b u e => by
  have hn := x.fresh hp
  by_cases hb : b = a
  · subst hb; rw [upd_same] at e; cases e; exact new
  · rw [upd_ne hb] at e
    exact (x b u e).stay (fun c v _ q => k c v q) (fun c q => by rw [upd_ne (ne_of_none q hn)]; exact q) fun c xs q => by rw [upd_ne (ne_of_none q hn)]; exact q
end

/-- what may be read as u: it is u, or a known u -/
def Rd (H : Hp) (a : Addr) (u : HO) : Prop := H a = some u ∨ ∃ o, H a = some (.frz o u)
theorem Rd.of {H : Hp} {a : Addr} {u : HO} (h : H a = some u) : Rd H a u := .inl h
theorem Rd.ok {P : Program} {w : World} {H : Hp} {h : Heap} {a : Addr} {u : HO} (r : Rd H a u) (x : HOk P w H h) : ObjOk P w H h a u := by
  rcases r with r | ⟨o, r⟩
  · exact x a u r
  · obtain ⟨_, q⟩ := x a _ r
    exact q
/-- what may be written -/
def Mut : Option HO → Prop
  | some (.lst _) => True
  | some (.dK _) => True
  | some (.dT _) => True
  | some (.set _ _) => True
  | some (.ins _ _ _) => True
  | some (.ext _) => True
  | _ => False
section
variable {P : Program} {w : World} {H : Hp} {h h' : Heap} {x e : Addr} {o' : HO}
/-- the object at e is changed: x itself, or the dict of the instance x -/
theorem HOk.write (ok : HOk P w H h) (mu : Mut (H x)) (he : e = x ∨ H e = some (.own x)) (k : ∀ b u, b ≠ e → h.get? b = some u → h'.get? b = some u) (heo : ∃ u, h'.get? e = some u)
    (new : ObjOk P w (upd H x o') h' x o') : HOk P w (upd H x o') h' := fun b u q => by
  have nown : ∀ c y, H c = some (.own y) → c ≠ x := fun c y r z => by subst z; rw [r] at mu; exact mu
  have ntup : ∀ c xs, H c = some (.tup xs) → c ≠ x := fun c xs r z => by subst z; rw [r] at mu; exact mu
  by_cases hb : b = x
  · subst hb; rw [upd_same] at q; cases q; exact new
  · rw [upd_ne hb] at q
    by_cases hbe : b = e
    · have q' : H b = some (.own x) := by
        rcases he with z | z
        · exact absurd (hbe.trans z) hb
        · rw [hbe]; exact z
      rw [q] at q'; cases q'
      obtain ⟨v, hv⟩ := heo
      exact ⟨v, by rw [hbe]; exact hv⟩
    · refine (ok b u q).stay (fun c v hc r => k c v ?_ r) (fun c r => by rw [upd_ne (nown c b r)]; exact r) fun c xs r => by rw [upd_ne (ntup c xs r)]; exact r
      rcases hc with rfl | hc
      · exact hbe
      · rintro rfl
        rcases he with z | z
        · exact nown c b hc z
        · rw [hc] at z; cases z; exact hb rfl
end

/-! ### kept unless tracked; of the frames at fs (the callers') the slots may change (an exception that passes writes there); of the records at ex (iterators) nothing is said -/
structure Un (fs ex : List Addr) (H H' : Hp) (h h' : Heap) : Prop where
  keep : ∀ b o, h.get? b = some o → H b = none → b ∉ fs → b ∉ ex → h'.get? b = some o
  slot : ∀ b o, h.get? b = some o → H b = none → b ∈ fs → b ∉ ex → ∃ sl, h'.get? b = some { o with slots := sl }
  free : ∀ b o, h.get? b = some o → H b = none → b ∉ ex → H' b = none
  there : ∀ b o, h.get? b = some o → b ∉ ex → ∃ o', h'.get? b = some o'
  tups : ∀ b xs, H b = some (.tup xs) → H' b = some (.tup xs)
  frzs : ∀ b o u, H b = some (.frz o u) → H' b = some (.frz o u)
  tbls : ∀ b ps, H b = some (.tbl ps) → ∃ more, H' b = some (.tbl (ps ++ more))
section
variable {fs fs' ex ex' : List Addr} {H H1 H2 : Hp} {h h1 h2 h' : Heap} {a x e : Addr} {o : HO}
theorem Un.any (u : Un fs ex H H1 h h1) {b : Addr} {ob : Obj} (q : h.get? b = some ob) (n : H b = none) (hx : b ∉ ex) : ∃ sl, h1.get? b = some { ob with slots := sl } := by
  by_cases hb : b ∈ fs
  · exact u.slot b ob q n hb hx
  · exact ⟨ob.slots, u.keep b ob q n hb hx⟩
theorem Un.trans (a : Un fs ex H H1 h h1) (b : Un fs ex H1 H2 h1 h2) : Un fs ex H H2 h h2 where
  keep := fun c ob q n hc hx => b.keep c ob (a.keep c ob q n hc hx) (a.free c ob q n hx) hc hx
  slot := fun c ob q n hc hx => by
    obtain ⟨sl, e1⟩ := a.slot c ob q n hc hx
    obtain ⟨sl', e2⟩ := b.slot c _ e1 (a.free c ob q n hx) hc hx
    exact ⟨sl', e2⟩
  free := fun c ob q n hx => by
    obtain ⟨o', e1⟩ := a.there c ob q hx
    exact b.free c o' e1 (a.free c ob q n hx) hx
  there := fun c ob q hx => by
    obtain ⟨o', e1⟩ := a.there c ob q hx
    exact b.there c o' e1 hx
  tups := fun c xs q => b.tups c xs (a.tups c xs q)
  frzs := fun c ob xs q => b.frzs c ob xs (a.frzs c ob xs q)
  tbls := fun c ps q => by
    obtain ⟨m1, e1⟩ := a.tbls c ps q
    obtain ⟨m2, e2⟩ := b.tbls c _ e1
    exact ⟨m1 ++ m2, by rw [e2, Array.append_assoc]⟩
theorem Un.kept (k : ∀ b u, h.get? b = some u → h'.get? b = some u) : Un fs ex H H h h' :=
  ⟨fun b ob q _ _ _ => k b ob q, fun b ob q _ _ _ => ⟨ob.slots, k b ob q⟩, fun _ _ _ n _ => n, fun b ob q _ => ⟨ob, k b ob q⟩, fun _ _ q => q, fun _ _ _ q => q, fun _ ps q => ⟨#[], by rw [q]; simp⟩⟩
theorem Un.refl : Un fs ex H H h h := Un.kept fun _ _ q => q
theorem Un.laid (k : ∀ b u, h.get? b = some u → h'.get? b = some u) (hp : h.objs.size ≤ a) (hn : H a = none) : Un fs ex H (upd H a o) h h' where
  keep := fun b u q _ _ _ => k b u q
  slot := fun b u q _ _ _ => ⟨u.slots, k b u q⟩
  free := fun b u q n _ => by rw [upd_ne (Nat.ne_of_lt (Nat.lt_of_lt_of_le (Heap.lt_size q) hp))]; exact n
  there := fun b u q _ => ⟨u, k b u q⟩
  tups := fun b xs q => by rw [upd_ne (ne_of_none q hn)]; exact q
  frzs := fun b u xs q => by rw [upd_ne (ne_of_none q hn)]; exact q
  tbls := fun b ps q => ⟨#[], by rw [upd_ne (ne_of_none q hn), q]; simp⟩
theorem Un.write (mu : Mut (H x)) (he : e = x ∨ H e = some (.own x)) (k : ∀ b u, b ≠ e → h.get? b = some u → h'.get? b = some u) (heo : ∃ u, h'.get? e = some u) : Un fs ex H (upd H x o) h h' := by
  have hx : ∀ b, H b = none → b ≠ x := fun b n z => by subst z; rw [n] at mu; exact mu
  have hb : ∀ b, H b = none → b ≠ e := fun b n z => by
    subst z
    rcases he with r | r
    · exact hx b n r
    · rw [n] at r; cases r
  have hm : ∀ b u, H b = some u → ¬ Mut (some u) → b ≠ x := fun b u q nm z => by subst z; rw [q] at mu; exact nm mu
  refine ⟨fun b u q n _ _ => k b u (hb b n) q, fun b u q n _ _ => ⟨u.slots, k b u (hb b n) q⟩, fun b u q n _ => by rw [upd_ne (hx b n)]; exact n, fun b u q _ => ?_,
    fun b xs q => by rw [upd_ne (hm b _ q fun z => z)]; exact q, fun b u xs q => by rw [upd_ne (hm b _ q fun z => z)]; exact q, fun b ps q => ⟨#[], by rw [upd_ne (hm b _ q fun z => z), q]; simp⟩⟩
  by_cases hbe : b = e
  · subst hbe; exact heo
  · exact ⟨u, k b u hbe q⟩
theorem Un.mono (u : Un fs ex H H1 h h1) (hs : ∀ b ∈ fs, b ∈ fs') (hx : ∀ b ∈ ex, b ∈ ex') : Un fs' ex' H H1 h h1 :=
  ⟨fun b ob q n hb he => u.keep b ob q n (fun z => hb (hs b z)) fun z => he (hx b z), fun _ _ q n _ he => u.any q n fun z => he (hx _ z), fun b ob q n he => u.free b ob q n fun z => he (hx b z), fun b ob q he => u.there b ob q fun z => he (hx b z), u.tups, u.frzs, u.tbls⟩
end

/-! ### the heap without what is tracked -/
def trk (h : Heap) (H : Hp) : List Addr := (List.range h.objs.size).filter fun a => (H a).isSome
def hidT (h : Heap) (H : Hp) : Heap := PySem.W.hideAll h (trk h H)
theorem hidT_size (h : Heap) (H : Hp) : (hidT h H).objs.size = h.objs.size := PySem.W.hideAll_size _ _
theorem hidT_get {h : Heap} {H : Hp} {b : Addr} {o : Obj} (e : h.get? b = some o) (n : H b = none) : (hidT h H).get? b = some o :=
  PySem.W.hideAll_get _ e fun hm => by
    have q : (H b).isSome = true := (List.mem_filter.mp hm).2
    rw [n] at q; simp at q
theorem of_hidT {h : Heap} {H : Hp} {b : Addr} {o : Obj} (e : (hidT h H).get? b = some o) : h.get? b = some o ∧ H b = none := by
  have e' : h.get? b = some o := PySem.W.of_hideAll (trk h H) e
  refine ⟨e', ?_⟩
  cases q : H b with
  | none => rfl
  | some x =>
    have hm : b ∈ trk h H := List.mem_filter.mpr ⟨List.mem_range.mpr (Heap.lt_size e'), by simp [q]⟩
    have z : (hidT h H).get? b = none := PySem.W.hideAll_none (trk h H) hm
    rw [z] at e; cases e

/-! ### OpenK's ledger, filled with every new object but one -/
def allNews (g h : Heap) (L : Addr) : List (Addr × Obj) := (List.range h.objs.size).filterMap fun a => if a = L ∨ (g.get? a).isSome = true then none else (h.get? a).map fun o => (a, o)
def rest (g h : Heap) (L d : Addr) : List (Addr × Obj) := (allNews g h L).filter fun p => decide (p.1 ≠ d)
end L2

namespace L2
open PySem PySem.Spec PyProof.Rows

/-- the module's facts, over the base: the heap at the law's entry without what is tracked there -/
structure Mod (K : PySem.W.Frag) (mg : Str → Option Value) (base : Heap) : Prop where
  kin : K.In base
  glob : base.Ns mainGlobals mg
  blt : ∃ mb, base.Ns builtinsNs mb ∧ ∀ x : Str, x ≠ "__name__" → mb x = bootBuiltins x
  nolimit : base.NoLimit

/-- the context: a def's body (or a comprehension's block) running. base: fixed through the whole law; s₀, H₀: the entry; outer: the frames whose slots others may change (a def's callers); stack: all frames that run;
   ex: iterators that were made ahead of the entry and are walked here (a comprehension's); fn: the names whose cells were made at the entry (a def: all; a comprehension's block: its own); calm: not within an except suite; pn: pins that every state bears; xe: what is wanted of an exception that leaves the code -/
structure Cx where
  prog : Program
  w : World
  K : PySem.W.Frag
  mg : Str → Option Value
  base : Heap
  A : Around
  N : List Str
  s₀ : Shared
  H₀ : Hp
  env : Env
  outer : List Env
  stack : List Env
  ex : List Addr
  fn : Str → Bool
  calm : Bool
  pn : List (Addr × Obj)
  xe : Value → Shared → Prop
/-- the callers' frames -/
def frs (l : List Env) : List Addr := l.filterMap (·.frame)
abbrev Cx.fs (X : Cx) : List Addr := frs X.outer

def Vis (sc : Scope) (x : Str) : Prop := sc.names.lookup x = some .local ∨ sc.names.lookup x = some .cell ∨ sc.names.lookup x = some .free
def Loc (sc : Scope) (x : Str) : Prop := sc.names.lookup x = some .local ∨ sc.names.lookup x = some .cell
def Look (env : Env) (h : Heap) (m : Str → Option Value) (x : Str) (u : Value) : Prop :=
  (env.kindOf x = some .local ∧ m x = some u) ∨ ((env.kindOf x = some .cell ∨ env.kindOf x = some .free) ∧ ∃ c, env.cells.lookup x = some c ∧ h.IsCell c (some u))

structure Cx.Ok (X : Cx) : Prop where
  mod : Mod X.K X.mg X.base
  kind : X.env.scope.kind = .function
  glob : X.env.globals = mainGlobals
  blt : X.env.builtins = builtinsNs
  above : X.s₀.heap.objs.size ≤ X.env.locals
  inj : ∀ x y c, X.env.cells.lookup x = some c → X.env.cells.lookup y = some c → x = y
  has : ∀ x, (X.env.kindOf x = some .cell ∨ X.env.kindOf x = some .free) → ∃ c, X.env.cells.lookup x = some c
  cab : ∀ x c, X.fn x = true → X.env.cells.lookup x = some c → X.s₀.heap.objs.size ≤ c
  hd : X.calm = true → X.A.handled = none
  frames : X.A.frames = some X.stack
  stk : X.stack = X.outer ∨ (X.stack = X.env :: X.outer ∧ X.env.frame = some X.env.locals)
  exf : ∀ b ∈ X.ex, b ≠ X.env.locals ∧ ∀ x c, X.env.cells.lookup x = some c → c ≠ b
  bs : ∀ b o, X.base.get? b = some o → X.s₀.heap.get? b = some o ∧ X.H₀ b = none
  bsz : X.base.objs.size ≤ X.s₀.heap.objs.size
  noex : ∀ b o, X.base.get? b = some o → b ∉ X.ex
  exfs : ∀ b ∈ X.ex, b ∉ X.fs
  funs : X.s₀.heap.FunFrames X.base X.outer
  frf : ∀ b ∈ X.fs, X.H₀ b = none

structure Inv (X : Cx) (pins : List (Addr × Obj)) (σ : List (Option V)) (H : Hp) (s : Shared) : Prop where
  ok : X.Ok
  os : s.os = X.s₀.os
  bare : AllBare s.gens
  base : Un X.fs X.ex X.H₀ H X.s₀.heap s.heap
  loc : ∃ m, s.heap.Ns X.env.locals m ∧ ∀ (i : Nat) (x : Str) (v : V), X.N[i]? = some x → σ[i]? = some (some v) → Vis X.env.scope x → ∃ u, RelV v u ∧ Look X.env s.heap m x u
  cell : ∀ x c, X.env.cells.lookup x = some c → ∃ v, s.heap.IsCell c v
  free : H X.env.locals = none
  freeC : ∀ x c, X.env.cells.lookup x = some c → H c = none
  pin : ∀ p ∈ X.pn ++ pins, s.heap.get? p.1 = some p.2 ∧ H p.1 = none ∧ p.1 ≠ X.env.locals ∧ p.1 ∉ X.fs ∧ ∀ v, p.2.data ≠ .cell v
  hok : HOk X.prog X.w H s.heap
  len : σ.length = X.N.length

section
variable {X : Cx} {pins : List (Addr × Obj)} {σ : List (Option V)} {H H' : Hp} {s : Shared} {h' : Heap}

theorem Cx.Ok.nofr (ok : X.Ok) {b : Addr} {o : Obj} (e : X.base.get? b = some o) : b ∉ X.fs := fun hb => by
  have := (ok.funs.mem hb).1
  rw [e] at this; cases this
theorem Inv.bs (I : Inv X pins σ H s) : ∀ b o, X.base.get? b = some o → s.heap.get? b = some o ∧ H b = none := fun b o e =>
  ⟨I.base.keep b o (I.ok.bs b o e).1 (I.ok.bs b o e).2 (I.ok.nofr e) (I.ok.noex b o e), I.base.free b o (I.ok.bs b o e).1 (I.ok.bs b o e).2 (I.ok.noex b o e)⟩
theorem Inv.bk (I : Inv X pins σ H s) : ∀ b o, X.base.get? b = some o → s.heap.get? b = some o := fun b o e => (I.bs b o e).1
theorem Inv.mod (I : Inv X pins σ H s) : Mod X.K X.mg X.base := I.ok.mod
theorem Inv.kIn (I : Inv X pins σ H s) : X.K.In s.heap := I.ok.mod.kin.keeps I.bk
theorem Inv.nolimit (I : Inv X pins σ H s) : s.heap.NoLimit := I.ok.mod.nolimit.keeps I.bk
/-- the frame over the base: for OpenK's rules (K.In X.base is I.mod.kin) -/
theorem Inv.fr (I : Inv X pins σ H s) : ∃ m, Fr X.base X.env.locals s.heap m :=
  let ⟨m, hn, _⟩ := I.loc
  ⟨m, hn, I.bk, Nat.le_trans I.ok.bsz I.ok.above⟩
theorem Inv.lt (I : Inv X pins σ H s) : X.env.locals < s.heap.objs.size := let ⟨_, hn, _⟩ := I.loc; hn.lt
theorem Inv.sz (I : Inv X pins σ H s) : X.s₀.heap.objs.size ≤ s.heap.objs.size := Nat.le_trans I.ok.above (Nat.le_of_lt I.lt)
theorem Inv.nofs (I : Inv X pins σ H s) {a : Addr} (h : s.heap.objs.size ≤ a) : a ∉ X.fs := fun hb => by
  obtain ⟨_, o, ho, _⟩ := I.ok.funs.mem hb
  exact absurd (Nat.lt_of_lt_of_le (Heap.lt_size ho) (Nat.le_trans I.sz h)) (Nat.lt_irrefl _)
theorem Inv.cne (I : Inv X pins σ H s) : ∀ x c, X.env.cells.lookup x = some c → c ≠ X.env.locals := fun x c e z => by
  obtain ⟨v, o, ho, hd⟩ := I.cell x c e
  obtain ⟨m, ⟨o', es, ep, ho', hd', _⟩, _⟩ := I.loc
  rw [z, ho'] at ho; cases ho; rw [hd'] at hd; cases hd
theorem Inv.funs (I : Inv X pins σ H s) : s.heap.FunFrames X.base X.outer := by
  have all : ∀ (l : List Env), (∀ b ∈ frs l, b ∈ X.fs) → X.s₀.heap.FunFrames X.base l → s.heap.FunFrames X.base l := by
    intro l
    induction l with
    | nil => intro _ _; trivial
    | cons env r ih =>
      intro hs hl
      obtain ⟨hk, ⟨L, o, hf, hn, ho, hd⟩, hr⟩ := hl
      have hL : L ∈ X.fs := hs L (by unfold frs; rw [List.filterMap_cons, hf]; exact List.mem_cons_self)
      obtain ⟨sl, e⟩ := I.base.slot L o ho (I.ok.frf L hL) hL fun z => I.ok.exfs L z hL
      exact ⟨hk, ⟨L, _, hf, hn, e, hd⟩, ih (fun b hb => hs b (by unfold frs; rw [List.filterMap_cons, hf]; exact List.mem_cons_of_mem _ hb)) hr⟩
  exact all X.outer (fun _ hb => hb) I.ok.funs

/-- the frames that run, for a call -/
theorem Inv.stack (I : Inv X pins σ H s) : s.heap.FunFrames X.base X.stack := by
  rcases I.ok.stk with e | ⟨e, hf⟩
  · rw [e]; exact I.funs
  · rw [e]
    obtain ⟨m, hn, _⟩ := I.loc
    refine .cons (by rw [I.ok.kind]; decide) hf hn ?_ I.funs
    exact Heap.get?_none_of_le (Nat.le_trans I.ok.bsz I.ok.above)
theorem Inv.stkSub (I : Inv X pins σ H s) : ∀ b ∈ frs X.stack, b ∈ X.env.locals :: X.fs := fun b hb => by
  rcases I.ok.stk with e | ⟨e, hf⟩
  · rw [e] at hb; exact List.mem_cons_of_mem _ hb
  · rw [e] at hb
    unfold frs at hb
    rw [List.filterMap_cons, hf] at hb
    exact hb
theorem Inv.stkFree (I : Inv X pins σ H s) : ∀ b ∈ frs X.stack, H b = none := fun b hb => by
  rcases List.mem_cons.mp (I.stkSub b hb) with e | hb
  · rw [e]; exact I.free
  · obtain ⟨_, o, ho, _⟩ := I.ok.funs.mem hb
    exact I.base.free b o ho (I.ok.frf b hb) fun z => I.ok.exfs b z hb

/-- THE STEP: the untracked objects but the frame and the records at ch are kept (the callers' frames up to slots), the frame's map is kept, the new abstract heap is held -/
theorem Inv.step {g' : Array GenState} {t' : Nat} {d' : Drawn} {ch : List Addr} (I : Inv X pins σ H s)
    (hch : ∀ b ∈ ch, (b ∈ X.ex ∨ X.s₀.heap.objs.size ≤ b) ∧ b ≠ X.env.locals ∧ (∀ x c, X.env.cells.lookup x = some c → c ≠ b) ∧ ∀ p ∈ X.pn ++ pins, p.1 ≠ b)
    (keep : ∀ b o, b ≠ X.env.locals → b ∉ X.fs → b ∉ ch → s.heap.get? b = some o → H b = none → h'.get? b = some o)
    (slot : ∀ b o, b ≠ X.env.locals → b ∈ X.fs → b ∉ ch → s.heap.get? b = some o → H b = none → ∃ sl, h'.get? b = some { o with slots := sl }) (free : ∀ b o, b ∉ ch → s.heap.get? b = some o → H b = none → H' b = none)
    (there : ∀ b o, b ∉ ch → s.heap.get? b = some o → ∃ o', h'.get? b = some o')
    (tups : ∀ b xs, H b = some (.tup xs) → H' b = some (.tup xs)) (frzs : ∀ b o u, H b = some (.frz o u) → H' b = some (.frz o u)) (tbls : ∀ b ps, H b = some (.tbl ps) → ∃ more, H' b = some (.tbl (ps ++ more)))
    (ns : ∀ m, s.heap.Ns X.env.locals m → h'.Ns X.env.locals m) (hok : HOk X.prog X.w H' h') (hg : AllBare g') :
    Inv X pins σ H' { s with heap := h', gens := g', drawn := d', toks := t' } := by
  have neL : ∀ b o, X.s₀.heap.get? b = some o → b ≠ X.env.locals := fun b o e => Nat.ne_of_lt (Nat.lt_of_lt_of_le (Heap.lt_size e) I.ok.above)
  have neC : ∀ b o, X.s₀.heap.get? b = some o → b ∉ X.ex → b ∉ ch := fun b o e hx hb => by
    rcases (hch b hb).1 with z | z
    · exact hx z
    · exact absurd (Nat.lt_of_lt_of_le (Heap.lt_size e) z) (Nat.lt_irrefl _)
  have cellK : ∀ x c, X.env.cells.lookup x = some c → ∀ v, s.heap.IsCell c v → h'.IsCell c v := fun x c e v ⟨o, ho, hd⟩ => by
    have nch : c ∉ ch := fun z => (hch c z).2.2.1 x c e rfl
    by_cases hc : c ∈ X.fs
    · obtain ⟨sl, q⟩ := slot c o (I.cne x c e) hc nch ho (I.freeC x c e)
      exact ⟨_, q, hd⟩
    · exact ⟨o, keep c o (I.cne x c e) hc nch ho (I.freeC x c e), hd⟩
  refine ⟨I.ok, I.os, hg, ⟨fun b o e n hb hx => ?_, fun b o e n hb hx => ?_, fun b o e n hx => ?_, fun b o e hx => ?_, fun b xs e => tups b xs (I.base.tups b xs e), fun b o xs e => frzs b o xs (I.base.frzs b o xs e), fun b ps e => ?_⟩, ?_, fun x c e => ?_, ?_, fun x c e => ?_, fun p hp => ?_, hok, I.len⟩
  · exact keep b o (neL b o e) hb (neC b o e hx) (I.base.keep b o e n hb hx) (I.base.free b o e n hx)
  · obtain ⟨sl, e1⟩ := I.base.slot b o e n hb hx
    obtain ⟨sl', e2⟩ := slot b _ (neL b o e) hb (neC b o e hx) e1 (I.base.free b o e n hx)
    exact ⟨sl', e2⟩
  · obtain ⟨o', e1⟩ := I.base.there b o e hx
    exact free b o' (neC b o e hx) e1 (I.base.free b o e n hx)
  · obtain ⟨o', e1⟩ := I.base.there b o e hx
    exact there b o' (neC b o e hx) e1
  · obtain ⟨m1, e1⟩ := I.base.tbls b ps e
    obtain ⟨m2, e2⟩ := tbls b _ e1
    exact ⟨m1 ++ m2, by rw [e2, Array.append_assoc]⟩
  · obtain ⟨m, hn, hl⟩ := I.loc
    refine ⟨m, ns m hn, fun i x v e1 e2 e3 => ?_⟩
    obtain ⟨u, r, l⟩ := hl i x v e1 e2 e3
    refine ⟨u, r, ?_⟩
    rcases l with l | ⟨k, c, e, z⟩
    · exact .inl l
    · exact .inr ⟨k, c, e, cellK x c e _ z⟩
  · obtain ⟨v, z⟩ := I.cell x c e
    exact ⟨v, cellK x c e v z⟩
  · obtain ⟨m, ⟨o, _, _, ho, _⟩, _⟩ := I.loc
    exact free _ o (fun z => (hch _ z).2.1 rfl) ho I.free
  · obtain ⟨v, o, ho, hd⟩ := I.cell x c e
    exact free c o (fun z => (hch c z).2.2.1 x c e rfl) ho (I.freeC x c e)
  · obtain ⟨e, n, ne, nf, d⟩ := I.pin p hp
    have nch : p.1 ∉ ch := fun z => (hch p.1 z).2.2.2 p hp rfl
    exact ⟨keep p.1 p.2 ne nf nch e n, free p.1 p.2 nch e n, ne, nf, d⟩
/-- .. where the frame's own object is kept too -/
theorem Inv.un {t' : Nat} (I : Inv X pins σ H s) (u : Un X.fs [] H H' s.heap h') (hok : HOk X.prog X.w H' h') : Inv X pins σ H' { s with heap := h', toks := t' } := by
  obtain ⟨m, ⟨o, es, ep, ho, r⟩, _⟩ := id I.loc
  obtain ⟨sl, hL⟩ := u.any ho I.free (by simp)
  exact I.step (g' := s.gens) (d' := s.drawn) (ch := []) (fun _ z => nomatch z) (fun b o _ hb _ e n => u.keep b o e n hb (by simp)) (fun b o _ hb _ e n => u.slot b o e n hb (by simp)) (fun b o _ e n => u.free b o e n (by simp)) (fun b o _ e => u.there b o e (by simp)) u.tups u.frzs u.tbls (fun m' hm => by
    obtain ⟨o', es', ep', ho', r'⟩ := hm
    rw [ho] at ho'; cases ho'
    exact ⟨_, es', ep', hL, r'⟩) hok I.bare
/-- behind a call (or a comprehension's block): the slots of this frame may have changed too, the records at ch may have turned -/
theorem Inv.call {g' : Array GenState} {t' : Nat} {d' : Drawn} {ch : List Addr} (I : Inv X pins σ H s) (u : Un (frs X.stack) ch H H' s.heap h') (hok : HOk X.prog X.w H' h') (hg : AllBare g')
    (hch : ∀ b ∈ ch, (b ∈ X.ex ∨ X.s₀.heap.objs.size ≤ b) ∧ b ≠ X.env.locals ∧ (∀ x c, X.env.cells.lookup x = some c → c ≠ b) ∧ ∀ p ∈ X.pn ++ pins, p.1 ≠ b) :
    Inv X pins σ H' { s with heap := h', gens := g', drawn := d', toks := t' } := by
  obtain ⟨m, ⟨o, es, ep, ho, r⟩, _⟩ := id I.loc
  obtain ⟨sl, hL⟩ := u.any ho I.free fun z => (hch _ z).2.1 rfl
  exact I.step (ch := ch) hch (fun b o hL hb hc e n => u.keep b o e n (fun z => (List.mem_cons.mp (I.stkSub b z)).elim hL hb) hc) (fun b o _ _ hc e n => u.any e n hc) (fun b o hc e n => u.free b o e n hc) (fun b o hc e => u.there b o e hc) u.tups u.frzs u.tbls (fun m' hm => by
    obtain ⟨o', es', ep', ho', r'⟩ := hm
    rw [ho] at ho'; cases ho'
    exact ⟨_, es', ep', hL, r'⟩) hok hg
/-- an untracked record of ours (an iterator) has turned -/
theorem Inv.turned {t' : Nat} {it : Addr} (I : Inv X pins σ H s) (k : ∀ b o, b ≠ it → s.heap.get? b = some o → h'.get? b = some o) (hn : H it = none) (hL : it ≠ X.env.locals)
    (h1 : it ∈ X.ex ∨ X.s₀.heap.objs.size ≤ it) (h2 : ∀ x c, X.env.cells.lookup x = some c → c ≠ it) (h3 : ∀ p ∈ X.pn ++ pins, p.1 ≠ it) : Inv X pins σ H { s with heap := h', toks := t' } := by
  have nit : ∀ b u, H b = some u → b ≠ it := fun b u e z => by rw [z, hn] at e; cases e
  refine I.step (g' := s.gens) (d' := s.drawn) (ch := [it]) (fun b hb => ?_) (fun b o _ _ hc e _ => k b o (fun z => hc (by simp [z])) e) (fun b o _ _ hc e _ => ⟨o.slots, k b o (fun z => hc (by simp [z])) e⟩) (fun _ _ _ _ n => n)
    (fun b o hc e => ⟨o, k b o (fun z => hc (by simp [z])) e⟩) (fun _ _ e => e) (fun _ _ _ e => e) (fun b ps e => ⟨#[], by rw [e]; simp⟩) (fun m hm => ?_) (fun b u e => ?_) I.bare
  · have e : b = it := by simpa using hb
    subst e
    exact ⟨h1, hL, h2, h3⟩
  · obtain ⟨o, es, ep, ho, r⟩ := hm
    exact ⟨o, es, ep, k _ o (Ne.symm hL) ho, r⟩
  · refine (I.hok b u e).stay (fun c v hc q => k c v ?_ q) (fun _ q => q) fun _ _ q => q
    rcases hc with z | z
    · rw [z]; exact nit b u e
    · exact nit c _ z
theorem Inv.tok (I : Inv X pins σ H s) (t : Nat) : Inv X pins σ H { s with toks := t } := I.un (h' := s.heap) (t' := t) Un.refl I.hok
/-- all objects kept -/
theorem Inv.kept {t' : Nat} (I : Inv X pins σ H s) (k : ∀ b u, s.heap.get? b = some u → h'.get? b = some u) : Inv X pins σ H { s with heap := h', toks := t' } := I.un (Un.kept k) (I.hok.kept k)
/-- a new object laid and tracked -/
theorem Inv.laid {a : Addr} {o : HO} {t' : Nat} (I : Inv X pins σ H s) (k : ∀ b u, s.heap.get? b = some u → h'.get? b = some u) (hp : s.heap.objs.size ≤ a) (new : ObjOk X.prog X.w (upd H a o) h' a o) :
    Inv X pins σ (upd H a o) { s with heap := h', toks := t' } := I.un (Un.laid k hp (I.hok.fresh hp)) (I.hok.laid k hp new)
/-- an object written -/
theorem Inv.write {x e : Addr} {o : HO} {t' : Nat} (I : Inv X pins σ H s) (mu : Mut (H x)) (he : e = x ∨ H e = some (.own x)) (k : ∀ b u, b ≠ e → s.heap.get? b = some u → h'.get? b = some u) (heo : ∃ u, h'.get? e = some u)
    (new : ObjOk X.prog X.w (upd H x o) h' x o) : Inv X pins σ (upd H x o) { s with heap := h', toks := t' } := I.un (Un.write mu he k heo) (I.hok.write mu he k heo new)
theorem Inv.pins_of {pins' : List (Addr × Obj)} (I : Inv X pins σ H s) (h : ∀ p ∈ pins', s.heap.get? p.1 = some p.2 ∧ H p.1 = none ∧ p.1 ≠ X.env.locals ∧ p.1 ∉ X.fs ∧ ∀ v, p.2.data ≠ .cell v) : Inv X pins' σ H s :=
  ⟨I.ok, I.os, I.bare, I.base, I.loc, I.cell, I.free, I.freeC, fun p hp => (List.mem_append.mp hp).elim (fun z => I.pin p (List.mem_append_left _ z)) (h p), I.hok, I.len⟩

theorem nodup_ix {N : List Str} (hN : N.Nodup) {i j : Nat} {x : Str} (a : N[i]? = some x) (b : N[j]? = some x) : i = j := by
  obtain ⟨h1, e1⟩ := List.getElem?_eq_some_iff.mp a
  obtain ⟨h2, e2⟩ := List.getElem?_eq_some_iff.mp b
  exact (List.getElem_inj hN).mp (e1.trans e2.symm)

/-- a name is stored; what changed -/
theorem store_ok2 {M : Model} {A : Around} {E : Value → Shared → Prop} {i : Nat} {x : Str} {v : V} {u : Value} {Q : Unit → Shared → Prop} (I : Inv X pins σ H s) (hN : X.N.Nodup) (hi : X.N[i]? = some x) (hx : Loc X.env.scope x) (r : RelV v u)
    (h : ∀ s', Inv X pins (σ.set i (some v)) H s' → (∃ a, Heap.SameBut a s.heap s'.heap ∧ (a = X.env.locals ∨ X.env.cells.lookup x = some a)) → Q () s') (hf : X.fn x = true ∨ X.env.scope.names.lookup x = some .local := by first | exact .inl rfl | exact .inr rfl | assumption) : wpAny M A (storeName X.env x u) Q E s := by
  obtain ⟨m, hn, hl⟩ := id I.loc
  have hcls : (X.env.scope.kind == .class || (X.env.scope.kind == .module && X.env.locals != X.env.globals)) = false := by rw [I.ok.kind]; rfl
  have hiσ : i < σ.length := by rw [I.len]; exact (List.getElem?_eq_some_iff.mp hi).1
  have cne := I.cne
  have tracked : ∀ {a : Addr} {h' : Heap}, (∃ o, s.heap.get? a = some o ∧ H a = none) → Heap.SameBut a s.heap h' → HOk X.prog X.w H h' := fun {a h'} ha hs b ob e => by
    obtain ⟨_, _, hfree⟩ := ha
    refine (I.hok b ob e).stay (fun c w' hc q => (hs.2 c ?_).trans q) (fun _ q => q) fun _ _ q => q
    rintro rfl
    rcases hc with rfl | hc
    · rw [hfree] at e; cases e
    · rw [hfree] at hc; cases hc
  rcases hx with hk | hk
  · refine wpAny_storeName_local hk hn (fun h' hn' hs => ?_) hcls
    obtain ⟨oL, _, _, hoL, _⟩ := id hn
    refine h _ ⟨I.ok, I.os, I.bare, ⟨fun b o e n hb hx => ?_, fun b o e n hb hx => ?_, I.base.free, fun b o e hx => ?_, I.base.tups, I.base.frzs, I.base.tbls⟩, ⟨_, hn', fun j y v' e1 e2 e3 => ?_⟩, fun y c e => ?_, I.free, I.freeC, fun p hp => ?_, tracked ⟨oL, hoL, I.free⟩ hs, by simpa using I.len⟩ ⟨_, hs, .inl rfl⟩
    · exact (hs.2 b (Nat.ne_of_lt (Nat.lt_of_lt_of_le (Heap.lt_size e) I.ok.above))).trans (I.base.keep b o e n hb hx)
    · obtain ⟨sl, e1⟩ := I.base.slot b o e n hb hx
      exact ⟨sl, (hs.2 b (Nat.ne_of_lt (Nat.lt_of_lt_of_le (Heap.lt_size e) I.ok.above))).trans e1⟩
    · obtain ⟨o', e1⟩ := I.base.there b o e hx
      exact ⟨o', (hs.2 b (Nat.ne_of_lt (Nat.lt_of_lt_of_le (Heap.lt_size e) I.ok.above))).trans e1⟩
    · by_cases hj : j = i
      · subst hj
        rw [hi] at e1; cases e1
        rw [List.getElem?_set_self hiσ] at e2
        cases e2
        exact ⟨u, r, .inl ⟨hk, by simp⟩⟩
      · rw [List.getElem?_set_ne (Ne.symm hj)] at e2
        obtain ⟨u', r', q⟩ := hl j y v' e1 e2 e3
        refine ⟨u', r', ?_⟩
        rcases q with ⟨k, e⟩ | ⟨k, c, e, z⟩
        · refine .inl ⟨k, ?_⟩
          have : y ≠ x := fun e => hj (nodup_ix hN e1 (e ▸ hi))
          simp [this, e]
        · exact .inr ⟨k, c, e, z.sameBut hs (cne y c e)⟩
    · obtain ⟨w', z⟩ := I.cell y c e
      exact ⟨w', z.sameBut hs (cne y c e)⟩
    · obtain ⟨e, n, ne, nf, d⟩ := I.pin p hp
      exact ⟨(hs.2 p.1 ne).trans e, n, ne, nf, d⟩
  · have hfn : X.fn x = true := by
      rcases hf with z | z
      · exact z
      · rw [z] at hk; cases hk
    obtain ⟨c, hc⟩ := I.ok.has x (.inl hk)
    obtain ⟨w', z⟩ := I.cell x c hc
    refine wpAny_storeName_cell I.ok.kind hk hc z (fun h' hc' hs => ?_)
    obtain ⟨oc, hoc, hocd⟩ := id z
    refine h { s with heap := h' } ⟨I.ok, I.os, I.bare, ⟨fun b o e n hb hx => ?_, fun b o e n hb hx => ?_, I.base.free, fun b o e hx => ?_, I.base.tups, I.base.frzs, I.base.tbls⟩, ⟨m, hn.sameBut hs (Ne.symm (cne x c hc)), fun j y v' e1 e2 e3 => ?_⟩, fun y c' e => ?_, I.free, I.freeC, fun p hp => ?_, tracked ⟨oc, hoc, I.freeC x c hc⟩ hs, by simpa using I.len⟩ ⟨c, hs, .inr hc⟩
    · exact (hs.2 b (Nat.ne_of_lt (Nat.lt_of_lt_of_le (Heap.lt_size e) (I.ok.cab x c hfn hc)))).trans (I.base.keep b o e n hb hx)
    · obtain ⟨sl, e1⟩ := I.base.slot b o e n hb hx
      exact ⟨sl, (hs.2 b (Nat.ne_of_lt (Nat.lt_of_lt_of_le (Heap.lt_size e) (I.ok.cab x c hfn hc)))).trans e1⟩
    · obtain ⟨o', e1⟩ := I.base.there b o e hx
      exact ⟨o', (hs.2 b (Nat.ne_of_lt (Nat.lt_of_lt_of_le (Heap.lt_size e) (I.ok.cab x c hfn hc)))).trans e1⟩
    · by_cases hj : j = i
      · subst hj
        rw [hi] at e1; cases e1
        rw [List.getElem?_set_self hiσ] at e2
        cases e2
        exact ⟨u, r, .inr ⟨.inl hk, c, hc, hc'⟩⟩
      · rw [List.getElem?_set_ne (Ne.symm hj)] at e2
        obtain ⟨u', r', q⟩ := hl j y v' e1 e2 e3
        refine ⟨u', r', ?_⟩
        rcases q with q | ⟨k, c', e, z'⟩
        · exact .inl q
        · refine .inr ⟨k, c', e, z'.sameBut hs ?_⟩
          rintro rfl
          exact hj (nodup_ix hN e1 (I.ok.inj _ _ _ e hc ▸ hi))
    · by_cases hcc : c' = c
      · subst hcc; exact ⟨_, hc'⟩
      · obtain ⟨w2, z2⟩ := I.cell y c' e
        exact ⟨w2, z2.sameBut hs hcc⟩
    · obtain ⟨e, n, ne, nf, d⟩ := I.pin p hp
      refine ⟨(hs.2 p.1 ?_).trans e, n, ne, nf, d⟩
      intro q
      rw [q, hoc] at e
      have q' : oc = p.2 := Option.some.inj e
      exact d w' (by rw [← q']; exact hocd)
theorem store_ok {M : Model} {A : Around} {E : Value → Shared → Prop} {i : Nat} {x : Str} {v : V} {u : Value} {Q : Unit → Shared → Prop} (I : Inv X pins σ H s) (hN : X.N.Nodup) (hi : X.N[i]? = some x) (hx : Loc X.env.scope x) (r : RelV v u)
    (h : ∀ s', Inv X pins (σ.set i (some v)) H s' → Q () s') (hf : X.fn x = true ∨ X.env.scope.names.lookup x = some .local := by first | exact .inl rfl | exact .inr rfl | assumption) : wpAny M A (storeName X.env x u) Q E s :=
  store_ok2 I hN hi hx r (fun s' I' _ => h s' I') hf
/-- behind a call or a block, the state as it is -/
theorem Inv.call' {s' : Shared} {ch : List Addr} (I : Inv X pins σ H s) (ho : s'.os = s.os) (u : Un (frs X.stack) ch H H' s.heap s'.heap) (hok : HOk X.prog X.w H' s'.heap) (hg : AllBare s'.gens)
    (hch : ∀ b ∈ ch, (b ∈ X.ex ∨ X.s₀.heap.objs.size ≤ b) ∧ b ≠ X.env.locals ∧ (∀ x c, X.env.cells.lookup x = some c → c ≠ b) ∧ ∀ p ∈ X.pn ++ pins, p.1 ≠ b) : Inv X pins σ H' s' := by
  obtain ⟨h', g', d', t', o'⟩ := s'
  have e : o' = s.os := ho
  subst e
  exact I.call (g' := g') (t' := t') (d' := d') u hok hg hch
end

/-! ### the judgements -/
/-- an exception: its class, its own dict's address (where it has one), the abstract heap behind it -/
abbrev XK := Value → Option Addr → Hp → Prop
abbrev St := List (Option V)
abbrev VK := V → Hp → Prop
/-- an expression's reading; a test's; an argument list's -/
abbrev TE := St → Hp → VK → Prop
abbrev TT := St → Hp → (Bool → Hp → Prop) → Prop
abbrev TA := St → Hp → (List V → Hp → Prop) → Prop
/-- what is wanted behind a statement -/
structure Ends where
  nx : St → Hp → Prop
  rt : VK
  bk : St → Hp → Prop := fun _ _ => False
  ct : St → Hp → Prop := fun _ _ => False
abbrev TS := Ends → St → Hp → Prop

def EP (X : Cx) (pins : List (Addr × Obj)) (σ : St) (Q : VK) (u : Value) (s' : Shared) : Prop := ∃ v H', Inv X pins σ H' s' ∧ RelV v u ∧ Q v H'
def TP (X : Cx) (pins : List (Addr × Obj)) (σ : St) (Q : Bool → Hp → Prop) (b : Bool) (s' : Shared) : Prop := ∃ H', Inv X pins σ H' s' ∧ Q b H'
def AP (X : Cx) (pins : List (Addr × Obj)) (σ : St) (Q : List V → Hp → Prop) (us : List Value) (s' : Shared) : Prop := ∃ vs H', Inv X pins σ H' s' ∧ Vals vs us ∧ Q vs H'
def SP (X : Cx) (pins : List (Addr × Obj)) (D : Ends) (f : Flow) (s' : Shared) : Prop :=
  match f with
  | .next => ∃ σ' H', Inv X pins σ' H' s' ∧ D.nx σ' H'
  | .brk => ∃ σ' H', Inv X pins σ' H' s' ∧ D.bk σ' H'
  | .cont => ∃ σ' H', Inv X pins σ' H' s' ∧ D.ct σ' H'
  | .ret u => ∃ v σ' H', Inv X pins σ' H' s' ∧ RelV v u ∧ D.rt v H'

def PE (X : Cx) (e : Expr) (t : TE) : Prop :=
  ∀ (pins : List (Addr × Obj)) (s : Shared) (σ : St) (H : Hp) (Q : VK), Inv X pins σ H s → t σ H Q → wpAny (model X.prog X.w) X.A (eval e X.env) (EP X pins σ Q) X.xe s
def PT (X : Cx) (e : Expr) (t : TT) : Prop :=
  ∀ (pins : List (Addr × Obj)) (s : Shared) (σ : St) (H : Hp) (Q : Bool → Hp → Prop), Inv X pins σ H s → t σ H Q → wpAny (model X.prog X.w) X.A (isTrue e X.env (eval e X.env)) (TP X pins σ Q) X.xe s
/-- a test whatever its 'whole' is (and, or) -/
def PW (X : Cx) (e : Expr) (t : TT) : Prop :=
  ∀ (whole : Sem Value) (pins : List (Addr × Obj)) (s : Shared) (σ : St) (H : Hp) (Q : Bool → Hp → Prop), Inv X pins σ H s → t σ H Q → wpAny (model X.prog X.w) X.A (isTrue e X.env whole) (TP X pins σ Q) X.xe s
theorem PW.pt {X : Cx} {e : Expr} {t : TT} (h : PW X e t) : PT X e t := h _
/-- an argument list (no star), from the left -/
def PA (X : Cx) (es : List Expr) (t : TA) : Prop :=
  ∀ (pos : Pos) (pins : List (Addr × Obj)) (s : Shared) (σ : St) (H : Hp) (Q : List V → Hp → Prop), Inv X pins σ H s → t σ H Q → wpAny (model X.prog X.w) X.A (spliced (backTo pos (starEach es X.env))) (AP X pins σ Q) X.xe s
def PS (X : Cx) (st : Stmt) (t : TS) : Prop :=
  ∀ (pins : List (Addr × Obj)) (s : Shared) (σ : St) (H : Hp) (D : Ends), Inv X pins σ H s → t D σ H → wpAny (model X.prog X.w) X.A (exec st X.env) (SP X pins D) X.xe s
def PSs (X : Cx) (st : List Stmt) (t : TS) : Prop :=
  ∀ (pins : List (Addr × Obj)) (s : Shared) (σ : St) (H : Hp) (D : Ends), Inv X pins σ H s → t D σ H → wpAny (model X.prog X.w) X.A (execs st X.env) (SP X pins D) X.xe s
/-- weaken the end -/
theorem thn {α : Type} {t : Sem α} {Q Q' : α → Shared → Prop} {M : Model} {A : Around} {E : Value → Shared → Prop} {s : Shared} (h : wpAny M A t Q E s) (hQ : ∀ a s, Q a s → Q' a s) : wpAny M A t Q' E s := wpAny_mono h hQ fun _ _ x => x
end L2

namespace L2
open PySem PySem.Spec PyProof.Rows
section
variable {X : Cx}

/-! ### names and constants -/
def tVar (i : Nat) : TE := fun σ H Q => ∃ v, σ[i]? = some (some v) ∧ Q v H
def tC (v : V) : TE := fun _ H Q => Q v H
theorem pe_var {i : Nat} {x : Str} {pos : Pos} (hN : X.N[i]? = some x) (hv : Vis X.env.scope x) (hd : (x == ("__debug__" : Str)) = false := by decide) (hcd : (x == ("__classdict__" : Str)) = false := by decide) : PE X (.Name x pos) (tVar i) := by
  intro pins s σ H Q I h
  obtain ⟨v, e, h⟩ := h
  obtain ⟨m, hn, hl⟩ := I.loc
  obtain ⟨u, r, l⟩ := hl i x v hN e hv
  have fin : EP X pins σ Q u s := ⟨v, H, I, r, h⟩
  rcases l with ⟨hk, hm⟩ | ⟨hk, c, hc, hcell⟩
  · exact wpAny_Name (wpAny_loadName_local I.ok.kind hk hn hm fin) hd
  · rcases hk with hk | hk
    · exact wpAny_Name (wpAny_loadName_cell I.ok.kind hk hc hcell fin) hd
    · exact wpAny_Name (wpAny_loadName_free I.ok.kind hk hc hcell fin hcd) hd
theorem pe_int {i j pos} : PE X (.Constant (.int i) j pos) (tC (.int i)) := fun _ _ _ H _ I h => wpAny_Constant_int ⟨.int i, H, I.tok _, ⟨_, rfl⟩, h⟩
theorem pe_bl {b j pos} : PE X (.Constant (.bool b) j pos) (tC (.bl b)) := fun _ _ _ H _ I h => Constant_bool ⟨.bl b, H, I, rfl, h⟩
theorem pe_non {j pos} : PE X (.Constant .none j pos) (tC .non) := fun _ _ _ H _ I h => Constant_none ⟨.non, H, I, rfl, h⟩
theorem pe_str {x j pos} : PE X (.Constant (.str x) j pos) (tC (.str x)) := fun _ _ _ H _ I h => Calls.Constant_str ⟨.str x, H, I.tok _, ⟨_, rfl⟩, h⟩

/-- a global name of the def -/
def Gl (X : Cx) (x : Str) : Prop := X.env.kindOf x = some .globalImplicit
theorem ld_glob {E : Value → Shared → Prop} {pins : List (Addr × Obj)} {s : Shared} {σ : St} {H : Hp} {x : Str} {u : Value} {pos : Pos} {Q : Value → Shared → Prop} (I : Inv X pins σ H s) (hg : Gl X x) (hm : X.mg x = some u) (h : Q u s)
    (hd : (x == ("__debug__" : Str)) = false := by decide) : wpAny (model X.prog X.w) X.A (eval (.Name x pos) X.env) Q E s :=
  Calls.Name_function_global I.ok.kind hg (Calls.loadGlobal_global (by rw [I.ok.glob]; exact I.mod.glob.keeps I.bk) hm h) hd
theorem ld_blt {E : Value → Shared → Prop} {pins : List (Addr × Obj)} {s : Shared} {σ : St} {H : Hp} {x : Str} {u : Value} {pos : Pos} {Q : Value → Shared → Prop} (I : Inv X pins σ H s) (hg : Gl X x) (hm : X.mg x = none) (hv : bootBuiltins x = some u) (h : Q u s)
    (hn : x ≠ "__name__" := by decide) (hd : (x == ("__debug__" : Str)) = false := by decide) : wpAny (model X.prog X.w) X.A (eval (.Name x pos) X.env) Q E s := by
  obtain ⟨mb, h1, h2⟩ := I.mod.blt
  exact Calls.Name_function_global I.ok.kind hg (Calls.loadGlobal_builtin (by rw [I.ok.glob]; exact I.mod.glob.keeps I.bk) hm (by rw [I.ok.blt]; exact h1.keeps I.bk) ((h2 x hn).trans hv) h) hd
/-- a module's constant, a class, a function, as a value -/
theorem pe_glob {x : Str} {v : V} {u : Value} {pos : Pos} (hg : Gl X x) (hm : X.mg x = some u) (r : RelV v u) (hd : (x == ("__debug__" : Str)) = false := by decide) : PE X (.Name x pos) (tC v) :=
  fun _ _ _ H _ I h => ld_glob I hg hm ⟨v, H, I, r, h⟩ hd
theorem pe_bltn {x : Str} {v : V} {u : Value} {pos : Pos} (hg : Gl X x) (hm : X.mg x = none) (hv : bootBuiltins x = some u) (r : RelV v u) (hn : x ≠ "__name__" := by decide) (hd : (x == ("__debug__" : Str)) = false := by decide) : PE X (.Name x pos) (tC v) :=
  fun _ _ _ H _ I h => ld_blt I hg hm hv ⟨v, H, I, r, h⟩ hn hd

/-! ### arithmetic -/
/-- two ints -/
def t2I (ta tb : TE) (k : Int → Int → Hp → Prop) : St → Hp → Prop := fun σ H => ta σ H fun x H1 => tb σ H1 fun y H2 => ∃ i j, x = .int i ∧ y = .int j ∧ k i j H2
def tAdd (ta tb : TE) : TE := fun σ H Q => t2I ta tb (fun i j H2 => Q (.int (i + j)) H2) σ H
def tSub (ta tb : TE) : TE := fun σ H Q => t2I ta tb (fun i j H2 => Q (.int (i - j)) H2) σ H
/-- the left factor below 2^64 -/
def tMul (ta tb : TE) : TE := fun σ H Q => t2I ta tb (fun i j H2 => (-(2 ^ 64) < i ∧ i < 2 ^ 64) ∧ Q (.int (i * j)) H2) σ H
variable {a b : Expr} {ta tb : TE} {pos : Pos}
/-! ### comparisons -/
def PC (X : Cx) (op : CmpOp) (a b : Expr) (t : TE) : Prop :=
  ∀ (pins : List (Addr × Obj)) (s : Shared) (σ : St) (H : Hp) (Q : VK), Inv X pins σ H s → t σ H Q →
    wpAny (model X.prog X.w) X.A (eval a X.env) (fun v s₁ => wpAny (model X.prog X.w) X.A (eval b X.env) (fun u s₂ => wpAny (model X.prog X.w) X.A (compareOp op v u) (EP X pins σ Q) X.xe s₂) X.xe s₁) X.xe s
def tCmp (p : Int → Int → Bool) (ta tb : TE) : TE := fun σ H Q => t2I ta tb (fun i j H2 => Q (.bl (p i j)) H2) σ H
abbrev tLt : TE → TE → TE := tCmp fun i j => decide (i < j)
abbrev tLe : TE → TE → TE := tCmp fun i j => decide (i ≤ j)
abbrev tGt : TE → TE → TE := tCmp fun i j => decide (j < i)
abbrev tGe : TE → TE → TE := tCmp fun i j => decide (j ≤ i)
abbrev tEqI : TE → TE → TE := tCmp fun i j => decide (i = j)
abbrev tNeI : TE → TE → TE := tCmp fun i j => !decide (i = j)
/-- is None -/
def tIsN (ta : TE) : TE := fun σ H Q => ta σ H fun x H1 => Q (.bl (decide (x = .non))) H1
def tNotN (ta : TE) : TE := fun σ H Q => ta σ H fun x H1 => Q (.bl (!decide (x = .non))) H1
/-- a comparison as a value, as a test -/
def tB (t : TE) : TT := fun σ H Q => t σ H fun x H1 => ∃ c, x = .bl c ∧ Q c H1
/-- an expression whose value is a bool, as a test -/
theorem pt_val {e : Expr} {t : TE} (h : PE X e t) (he : ∀ whole, isTrue e X.env whole = (do let v ← whole; standAt e.pos; holding [v] (truthy v)) := by intro _; rfl) : PT X e (tB t) := by
  intro pins s σ H Q I hw
  refine isTrue_plain (thn (h pins s σ H _ I hw) fun v s1 ⟨x, H1, I1, r1, q1⟩ => ?_) (he _)
  obtain ⟨d, rfl, q⟩ := q1
  cases r1
  exact wpAny_truthy_bool ⟨H1, I1, q⟩

/-! ### and, or, not -/
variable {tA tB' : TT} {rest : List Expr}
def tAnd (t u : TT) : TT := fun σ H Q => t σ H fun c H1 => if c = true then u σ H1 Q else Q false H1
def tOr (t u : TT) : TT := fun σ H Q => t σ H fun c H1 => if c = true then Q true H1 else u σ H1 Q
def tNot (t : TT) : TT := fun σ H Q => t σ H fun c H1 => Q (!c) H1
theorem pw_and1 (ha : PT X a tA) : PW X (.BoolOp .And [a] pos) tA := by
  intro wh pins s σ H Q I h
  refine isTrue_and (thn (ha pins s σ H Q I h) fun c s1 e => ?_)
  cases c with
  | true => exact isTrue_and_nil e
  | false => exact e
theorem pw_or1 (ha : PT X a tA) : PW X (.BoolOp .Or [a] pos) tA := by
  intro wh pins s σ H Q I h
  refine isTrue_or (thn (ha pins s σ H Q I h) fun c s1 e => ?_)
  cases c with
  | false => exact isTrue_or_nil e
  | true => exact e
theorem pw_and (ha : PT X a tA) (hb : PW X (.BoolOp .And (b :: rest) pos) tB') : PW X (.BoolOp .And (a :: b :: rest) pos) (tAnd tA tB') := by
  intro wh pins s σ H Q I h
  refine isTrue_and (thn (ha pins s σ H _ I h) fun c s1 ⟨H1, I1, q1⟩ => ?_)
  cases c with
  | true => exact hb wh pins s1 σ H1 Q I1 q1
  | false => exact ⟨H1, I1, q1⟩
theorem pw_or (ha : PT X a tA) (hb : PW X (.BoolOp .Or (b :: rest) pos) tB') : PW X (.BoolOp .Or (a :: b :: rest) pos) (tOr tA tB') := by
  intro wh pins s σ H Q I h
  refine isTrue_or (thn (ha pins s σ H _ I h) fun c s1 ⟨H1, I1, q1⟩ => ?_)
  cases c with
  | true => exact ⟨H1, I1, q1⟩
  | false => exact hb wh pins s1 σ H1 Q I1 q1
theorem pt_not (ha : PT X a tA) : PT X (.UnaryOp .Not a pos) (tNot tA) := by
  intro pins s σ H Q I h
  exact isTrue_not (ha pins s σ H (fun c H1 => Q (!c) H1) I h)
/-- .. as values (bools) -/
def tAndV (ta tb : TE) : TE := fun σ H Q => ta σ H fun x H1 => ∃ c, x = .bl c ∧ if c = true then tb σ H1 Q else Q (.bl false) H1
def tOrV (ta tb : TE) : TE := fun σ H Q => ta σ H fun x H1 => ∃ c, x = .bl c ∧ if c = true then Q (.bl true) H1 else tb σ H1 Q
def tNotV (ta : TE) : TE := fun σ H Q => ta σ H fun x H1 => ∃ c, x = .bl c ∧ Q (.bl (!c)) H1
theorem pe_one {op} {t : TE} (h : PE X a t) : PE X (.BoolOp op [a] pos) t := fun pins s σ H Q I hw => BoolOp_one (h pins s σ H Q I hw)
theorem pe_and (ha : PE X a ta) (hb : PE X (.BoolOp .And (b :: rest) pos) tb) : PE X (.BoolOp .And (a :: b :: rest) pos) (tAndV ta tb) := by
  intro pins s σ H Q I h
  refine BoolOp_and (thn (ha pins s σ H _ I h) fun v s1 ⟨x, H1, I1, r1, q1⟩ => ?_)
  obtain ⟨c, rfl, q1⟩ := q1
  cases r1
  refine wpAny_truthy_bool ?_
  cases c with
  | true => exact hb pins s1 σ H1 Q I1 q1
  | false => exact ⟨.bl false, H1, I1, rfl, q1⟩
theorem pe_or (ha : PE X a ta) (hb : PE X (.BoolOp .Or (b :: rest) pos) tb) : PE X (.BoolOp .Or (a :: b :: rest) pos) (tOrV ta tb) := by
  intro pins s σ H Q I h
  refine BoolOp_or (thn (ha pins s σ H _ I h) fun v s1 ⟨x, H1, I1, r1, q1⟩ => ?_)
  obtain ⟨c, rfl, q1⟩ := q1
  cases r1
  refine wpAny_truthy_bool ?_
  cases c with
  | false => exact hb pins s1 σ H1 Q I1 q1
  | true => exact ⟨.bl true, H1, I1, rfl, q1⟩
theorem pe_not (ha : PE X a ta) : PE X (.UnaryOp .Not a pos) (tNotV ta) := by
  intro pins s σ H Q I h
  refine UnaryOp_ (thn (ha pins s σ H _ I h) fun v s1 ⟨x, H1, I1, r1, q1⟩ => ?_)
  obtain ⟨c, rfl, q1⟩ := q1
  cases r1
  exact not_of (wpAny_truthy_bool ⟨.bl (!c), H1, I1, rfl, q1⟩)
/-- a if t else b -/
def tIf (t : TT) (ta tb : TE) : TE := fun σ H Q => t σ H fun c H1 => if c = true then ta σ H1 Q else tb σ H1 Q
theorem pe_ifExp {c : Expr} (hc : PT X c tA) (ha : PE X a ta) (hb : PE X b tb) : PE X (.IfExp c a b pos) (tIf tA ta tb) := by
  intro pins s σ H Q I h
  refine wpAny_IfExp (thn (hc pins s σ H _ I h) fun d s1 ⟨H1, I1, q1⟩ => ?_)
  cases d with
  | true => exact ha pins s1 σ H1 Q I1 q1
  | false => exact hb pins s1 σ H1 Q I1 q1
end
end L2

namespace L2
open PySem PySem.Spec PyProof.Rows

/-! ### a list, a tuple that is read: tracked, frozen, or an object of the module -/
def SqL (K : PySem.W.Frag) (H : Hp) (a : Addr) (xs : List V) : Prop :=
  Rd H a (.lst xs) ∨
    ∃ (o : Obj) (its : Array Value) (n : Nat), K.lookup a = some o ∧ o.cls = .type "list" ∧ o.dict = none ∧ o.data = .seq its n ∧ its.size ≤ sizeLine ∧ Vals xs its.toList
def SqT (K : PySem.W.Frag) (H : Hp) (a : Addr) (xs : List V) : Prop :=
  Rd H a (.tup xs) ∨
    ∃ (o : Obj) (its : Array Value) (n : Nat), K.lookup a = some o ∧ o.cls = .type "tuple" ∧ o.data = .seq its n ∧ its.size ≤ sizeLine ∧ Vals xs its.toList
def absV : Value → Option V
  | .none => some .non
  | .bool b => some (.bl b)
  | .int i _ => some (.int i)
  | .str x _ => some (.str x)
  | .bytes b _ => some (.byt b)
  | .float b _ => some (.flt b)
  | .ref a => some (.ref a)
  | .type n => some (.ty n)
  | _ => none
theorem RelV.abs {x : V} {u : Value} (r : RelV x u) : absV u = some x := by
  cases x with
  | non => cases r; rfl
  | bl _ => cases r; rfl
  | int _ => obtain ⟨t, rfl⟩ := r; rfl
  | str _ => obtain ⟨t, rfl⟩ := r; rfl
  | byt _ => obtain ⟨t, rfl⟩ := r; rfl
  | flt _ => obtain ⟨t, rfl⟩ := r; rfl
  | ref _ => cases r; rfl
  | ty _ => cases r; rfl
theorem RelV.inj {x y : V} {u : Value} (r : RelV x u) (q : RelV y u) : x = y := Option.some.inj (r.abs.symm.trans q.abs)
theorem Vals.inj : ∀ {xs ys : List V} {us : List Value}, Vals xs us → Vals ys us → xs = ys
  | _, _, _, .nil, .nil => rfl
  | _, _, _, .cons r t, .cons r' t' => by rw [r.inj r', Vals.inj t t']
section
variable {X : Cx} {pins : List (Addr × Obj)} {σ : St} {H : Hp} {s : Shared} {a : Addr} {xs ys : List V}
theorem SqL.of {K : PySem.W.Frag} (h : H a = some (.lst xs)) : SqL K H a xs := .inl (.inl h)
theorem SqT.of {K : PySem.W.Frag} (h : H a = some (.tup xs)) : SqT K H a xs := .inl (.inl h)
theorem Inv.list (I : Inv X pins σ H s) (h : SqL X.K H a xs) : ∃ its : List Value, Vals xs its ∧ PlainL s.heap a its.toArray ∧ xs.length ≤ sizeLine := by
  rcases h with h | ⟨o, its, n, hk, hc, hd, hs, hz, r⟩
  · obtain ⟨z, its, n, r, e⟩ := h.ok I.hok
    exact ⟨its, r, ⟨_, n, e, rfl, rfl, rfl⟩, z⟩
  · refine ⟨its.toList, r, ⟨o, n, I.kIn a o hk, hc, hd, by simpa using hs⟩, ?_⟩
    have e := r.length
    simp only [Array.length_toList] at e
    omega
theorem Inv.tuple (I : Inv X pins σ H s) (h : SqT X.K H a xs) : ∃ its : List Value, Vals xs its ∧ IsTup s.heap a its.toArray ∧ xs.length ≤ sizeLine := by
  rcases h with h | ⟨o, its, n, hk, hc, hs, hz, r⟩
  · obtain ⟨z, its, r, p⟩ := h.ok I.hok
    exact ⟨its, r, p, z⟩
  · refine ⟨its.toList, r, ⟨o, I.kIn a o hk, hc, n, by simpa using hs⟩, ?_⟩
    have e := r.length
    simp only [Array.length_toList] at e
    omega
theorem Inv.list_inj (I : Inv X pins σ H s) (h : SqL X.K H a xs) (h' : SqL X.K H a ys) : xs = ys := by
  obtain ⟨its, r, ⟨o, n, e, _, _, d⟩, _⟩ := I.list h
  obtain ⟨its', r', ⟨o', n', e', _, _, d'⟩, _⟩ := I.list h'
  rw [e] at e'; cases e'
  rw [d] at d'
  injection d' with d1 _
  have : its = its' := by simpa using congrArg Array.toList d1
  subst this
  exact r.inj r'
theorem Inv.tuple_inj (I : Inv X pins σ H s) (h : SqT X.K H a xs) (h' : SqT X.K H a ys) : xs = ys := by
  obtain ⟨its, r, ⟨o, e, _, n, d⟩, _⟩ := I.tuple h
  obtain ⟨its', r', ⟨o', e', _, n', d'⟩, _⟩ := I.tuple h'
  rw [e] at e'; cases e'
  rw [d] at d'
  injection d' with d1 _
  have : its = its' := by simpa using congrArg Array.toList d1
  subst this
  exact r.inj r'
end

/-! ### another wish about exceptions -/
abbrev Cx.wish (X : Cx) (E : Value → Shared → Prop) : Cx := { X with xe := E }
/-- no exception leaves -/
abbrev Cx.nox (X : Cx) : Cx := X.wish fun _ _ => False
theorem Cx.Ok.wish {X : Cx} (ok : X.Ok) (E : Value → Shared → Prop) : (X.wish E).Ok :=
  ⟨ok.mod, ok.kind, ok.glob, ok.blt, ok.above, ok.inj, ok.has, ok.cab, ok.hd, ok.frames, ok.stk, ok.exf, ok.bs, ok.bsz, ok.noex, ok.exfs, ok.funs, ok.frf⟩
theorem Cx.Ok.unwish {X : Cx} {E : Value → Shared → Prop} (ok : (X.wish E).Ok) : X.Ok :=
  ⟨ok.mod, ok.kind, ok.glob, ok.blt, ok.above, ok.inj, ok.has, ok.cab, ok.hd, ok.frames, ok.stk, ok.exf, ok.bs, ok.bsz, ok.noex, ok.exfs, ok.funs, ok.frf⟩
section
variable {X : Cx} {pins : List (Addr × Obj)} {σ : St} {H : Hp} {s : Shared} {E : Value → Shared → Prop}
theorem Inv.wish (I : Inv X pins σ H s) (E : Value → Shared → Prop) : Inv (X.wish E) pins σ H s := ⟨I.ok.wish E, I.os, I.bare, I.base, I.loc, I.cell, I.free, I.freeC, I.pin, I.hok, I.len⟩
theorem Inv.unwish (I : Inv (X.wish E) pins σ H s) : Inv X pins σ H s := ⟨I.ok.unwish, I.os, I.bare, I.base, I.loc, I.cell, I.free, I.freeC, I.pin, I.hok, I.len⟩
theorem SP.unwish {D : Ends} {f : Flow} {s' : Shared} (h : SP (X.wish E) pins D f s') : SP X pins D f s' := by
  cases f with
  | next => obtain ⟨σ', H', I, q⟩ := h; exact ⟨σ', H', I.unwish, q⟩
  | brk => obtain ⟨σ', H', I, q⟩ := h; exact ⟨σ', H', I.unwish, q⟩
  | cont => obtain ⟨σ', H', I, q⟩ := h; exact ⟨σ', H', I.unwish, q⟩
  | ret u => obtain ⟨v, σ', H', I, r, q⟩ := h; exact ⟨v, σ', H', I.unwish, r, q⟩
theorem PE.nox {e : Expr} {t : TE} (h : PE X.nox e t) : PE X e t := fun pins s σ H Q I hw =>
  wpAny_mono (h pins s σ H Q (I.wish _) hw) (fun _ _ ⟨v, H', I', r, q⟩ => ⟨v, H', I'.unwish, r, q⟩) fun _ _ z => False.elim z
theorem PT.nox {e : Expr} {t : TT} (h : PT X.nox e t) : PT X e t := fun pins s σ H Q I hw =>
  wpAny_mono (h pins s σ H Q (I.wish _) hw) (fun _ _ ⟨H', I', q⟩ => ⟨H', I'.unwish, q⟩) fun _ _ z => False.elim z
theorem PSs.nox {st : List Stmt} {t : TS} (h : PSs X.nox st t) : PSs X st t := fun pins s σ H D I hw =>
  wpAny_mono (h pins s σ H D (I.wish _) hw) (fun _ _ q => q.unwish) fun _ _ z => False.elim z
end

/-! ### blocks and small statements -/
section
variable {X : Cx} {st : Stmt} {rest : List Stmt} {t u : TS} {e : Expr} {te : TE} {pos : Pos}
def tNext : TS := fun D σ H => D.nx σ H
def tSeq (t u : TS) : TS := fun D σ H => t { D with nx := u D } σ H
theorem pss_nil : PSs X [] tNext := fun _ _ σ H _ I h => wpAny_execs_nil ⟨σ, H, I, h⟩
theorem pss_cons (h1 : PS X st t) (h2 : PSs X rest u) : PSs X (st :: rest) (tSeq t u) := by
  intro pins s σ H D I h
  refine wpAny_execs_cons (thn (h1 pins s σ H { D with nx := u D } I h) fun f s1 q => ?_)
  cases f with
  | next =>
    obtain ⟨σ', H', I', q⟩ := q
    exact h2 pins s1 σ' H' D I' q
  | ret v => exact q
  | brk => exact q
  | cont => exact q
theorem pss_one (h1 : PS X st t) : PSs X [st] t := by
  intro pins s σ H D I h
  refine wpAny_execs_cons (thn (h1 pins s σ H D I h) fun f s1 q => ?_)
  cases f with
  | next => exact wpAny_execs_nil q
  | ret v => exact q
  | brk => exact q
  | cont => exact q
def tBreak : TS := fun D σ H => D.bk σ H
def tCont : TS := fun D σ H => D.ct σ H
/-- in a def's body nothing is shown -/
theorem Inv.quiet {pins : List (Addr × Obj)} {σ : St} {H : Hp} {s : Shared} (I : Inv X pins σ H s) : interactive X.env = false := by simp [interactive, I.ok.kind]
/-- an expression whose value is dropped -/
def tDrop (te : TE) : TS := fun D σ H => te σ H fun _ H1 => D.nx σ H1
theorem ps_expr (he : PE X e te) (hs : swapsWith e none pos.line X.env = pure false := by rfl) : PS X (.Expr e pos) (tDrop te) := by
  intro pins s σ H D I h
  exact wpAny_Expr_any (thn (he pins s σ H _ I h) fun v s1 ⟨x, H1, I1, r1, q1⟩ => ⟨σ, H1, I1, q1⟩) I.quiet hs
def tRet (te : TE) : TS := fun D σ H => te σ H D.rt
theorem ps_ret (he : PE X e te) : PS X (.Return (some e) pos) (tRet te) := by
  intro pins s σ H D I h
  exact wpAny_Return_some (thn (he pins s σ H _ I h) fun v s1 ⟨x, H1, I1, r1, q1⟩ => ⟨x, σ, H1, I1, r1, q1⟩)
def tRetN : TS := fun D _ H => D.rt .non H
def tIfS (c : TT) (t u : TS) : TS := fun D σ H => c σ H fun b H1 => if b = true then t D σ H1 else u D σ H1
theorem ps_if {c : Expr} {a b : List Stmt} {tc : TT} (hc : PT X c tc) (ha : PSs X a t) (hb : PSs X b u) : PS X (.If c a b pos) (tIfS tc t u) := by
  intro pins s σ H D I h
  refine wpAny_If (thn (hc pins s σ H _ I h) fun d s1 ⟨H1, I1, q1⟩ => ?_)
  cases d with
  | true => exact ha pins s1 σ H1 D I1 q1
  | false => exact hb pins s1 σ H1 D I1 q1
/-- code that the proof never comes to -/
def tNever : TS := fun _ _ _ => False
end

/-! ### targets -/
abbrev TG := V → St → Hp → (St → Hp → Prop) → Prop
abbrev TGs := List V → St → Hp → (St → Hp → Prop) → Prop
def PG (X : Cx) (target : Expr) (t : TG) : Prop :=
  ∀ (pins : List (Addr × Obj)) (s : Shared) (σ : St) (H : Hp) (v : V) (u : Value) (Q : St → Hp → Prop), Inv X pins σ H s → RelV v u → t v σ H Q →
    wpAny (model X.prog X.w) X.A (assign target X.env u) (fun _ s' => ∃ σ' H', Inv X pins σ' H' s' ∧ Q σ' H') X.xe s
/-- several targets, one after another -/
def PGs (X : Cx) (ts : List Expr) (t : TGs) : Prop :=
  ∀ (pins : List (Addr × Obj)) (s : Shared) (σ : St) (H : Hp) (vs : List V) (us : List Value) (Q : St → Hp → Prop), Inv X pins σ H s → Vals vs us → t vs σ H Q →
    wpAny (model X.prog X.w) X.A (assignInOrder ((assignEach ts X.env).map (·.2)) us) (fun _ s' => ∃ σ' H', Inv X pins σ' H' s' ∧ Q σ' H') X.xe s
/-- o[i] = v, by values -/
abbrev TSet := V → V → V → Hp → (Hp → Prop) → Prop
def PSet (X : Cx) (t : TSet) : Prop :=
  ∀ (pins : List (Addr × Obj)) (s : Shared) (σ : St) (H : Hp) (o i v : V) (ov iv u : Value) (Q : Hp → Prop), Inv X pins σ H s → RelV o ov → RelV i iv → RelV v u → t o i v H Q →
    wpAny (model X.prog X.w) X.A (setItem ov iv u) (fun _ s' => ∃ H', Inv X pins σ H' s' ∧ Q H') X.xe s
/-- a op= b, by values -/
abbrev TIp := V → V → Hp → VK → Prop
def PIp (X : Cx) (op : Operator) (t : TIp) : Prop :=
  ∀ (pins : List (Addr × Obj)) (s : Shared) (σ : St) (H : Hp) (x y : V) (v u : Value) (Q : VK), Inv X pins σ H s → RelV x v → RelV y u → t x y H Q →
    wpAny (model X.prog X.w) X.A (inplaceOp op v u) (EP X pins σ Q) X.xe s
section
variable {X : Cx} {pos : Pos}
def gName (i : Nat) : TG := fun v σ H Q => Q (σ.set i (some v)) H
theorem pg_name {i : Nat} {x : Str} (hN : X.N.Nodup) (hi : X.N[i]? = some x) (hx : Loc X.env.scope x) (hf : X.fn x = true ∨ X.env.scope.names.lookup x = some .local := by first | exact .inl rfl | exact .inr rfl | assumption) : PG X (.Name x pos) (gName i) := by
  intro pins s σ H v u Q I r h
  exact wpAny_assign_Name (store_ok I hN hi hx r (fun s' I' => ⟨_, H, I', h⟩) hf)
def gNil : TGs := fun vs σ H Q => vs = [] ∧ Q σ H
def gCons (t : TG) (u : TGs) : TGs := fun vs σ H Q => ∃ v r, vs = v :: r ∧ t v σ H fun σ' H' => u r σ' H' Q
/-- (a, b, ..) = a tuple of that length -/
def gTup (K : PySem.W.Frag) (n : Nat) (t : TGs) : TG := fun v σ H Q => ∃ a xs, v = .ref a ∧ SqT K H a xs ∧ xs.length = n ∧ t xs σ H Q
/-- o[i] = .. -/
def gSub (to ti : TE) (t : TSet) : TG := fun v σ H Q => to σ H fun o H1 => ti σ H1 fun i H2 => t o i v H2 fun H3 => Q σ H3
theorem pg_sub {o i : Expr} {to ti : TE} {t : TSet} (ho : PE X o to) (hi : PE X i ti) (hs : PSet X t)
    (ha : ∀ v, assign (.Subscript o i pos) X.env v = (do
      let ov ← holding [v] (eval o X.env)
      let iv ← holding [v, ov] (eval i X.env)
      standAt pos
      holding [v, ov, iv] (setItem ov iv v)
      release [v, ov, iv] []) := by intro _; rfl) : PG X (.Subscript o i pos) (gSub to ti t) := by
  intro pins s σ H v u Q I r h
  rw [ha]
  refine wpAny_bind (wpAny_holding (thn (ho pins s σ H _ I h) fun ov s1 ⟨x, H1, I1, r1, q1⟩ => ?_))
  refine wpAny_bind (wpAny_holding (thn (hi pins s1 σ H1 _ I1 q1) fun iv s2 ⟨y, H2, I2, r2, q2⟩ => ?_))
  refine wpAny_bind (wpAny_standAt (wpAny_bind (wpAny_holding (thn (hs pins s2 σ H2 x y v ov iv u _ I2 r1 r2 r q2) fun _ s3 ⟨H3, I3, q3⟩ => ?_))))
  exact wpAny_release ⟨σ, H3, I3, q3⟩
/-- target = value -/
def tAsg (te : TE) (g : TG) : TS := fun D σ H => te σ H fun x H1 => g x σ H1 D.nx
theorem ps_asg {tg e : Expr} {te : TE} {g : TG} (he : PE X e te) (hg : PG X tg g) (hs : swapsWithSole [tg] e pos.line X.env = pure false := by rfl) (hw : swappedStores [tg] e X.env = pure none := by rfl)
    (h1 : (assignEach [tg] X.env).map (·.2) = [assign tg X.env] := by rfl) : PS X (.Assign [tg] e pos) (tAsg te g) := by
  intro pins s σ H D I h
  refine wpAny_Assign_stores (thn (he pins s σ H _ I h) fun v s1 ⟨x, H1, I1, r1, q1⟩ => ?_) hs hw
  rw [h1]
  exact thn (hg pins s1 σ H1 x v _ I1 r1 q1) fun _ s2 q => q
/-- name = value -/
theorem ps_set {i : Nat} {x : Str} {e : Expr} {te : TE} {pos' : Pos} (hN : X.N.Nodup) (hi : X.N[i]? = some x) (hx : Loc X.env.scope x) (he : PE X e te) (hs : swapsWith e (some (.Name x pos')) pos.line X.env = pure false := by rfl) (hf : X.fn x = true ∨ X.env.scope.names.lookup x = some .local := by first | exact .inl rfl | exact .inr rfl | assumption) :
    PS X (.Assign [.Name x pos'] e pos) (tAsg te (gName i)) := by
  intro pins s σ H D I h
  refine wpAny_Assign_Name (thn (he pins s σ H _ I h) fun v s1 ⟨y, H1, I1, r1, q1⟩ => ?_) hs
  exact store_ok I1 hN hi hx r1 (fun s2 I2 => ⟨_, H1, I2, q1⟩) hf
/-- a, b = x, y with plain local names: stored from the right; the pair itself is not tracked (the opening rows as in PyProof/Rows/TupAssign.lean:23) -/
def tPar (i j : Nat) (ta : TA) : TS := fun D σ H => ta σ H fun vs H1 => ∃ v w, vs = [v, w] ∧ D.nx ((σ.set i (some v)).set j (some w)) H1
/-- name op= e -/
def tAug (i : Nat) (te : TE) (ti : TIp) : TS := fun D σ H => ∃ x, σ[i]? = some (some x) ∧ te σ H fun y H1 => ti x y H1 fun z H2 => D.nx (σ.set i (some z)) H2
/-- o[i] op= e -/
def tAugS (to ti te : TE) (tget : V → V → Hp → VK → Prop) (tip : TIp) (tset : TSet) : TS := fun D σ H => to σ H fun o H1 => ti σ H1 fun i H2 => tget o i H2 fun x H3 => te σ H3 fun y H4 => tip x y H4 fun z H5 => tset o i z H5 fun H6 => D.nx σ H6
/-- o[i], by values -/
def PGet (X : Cx) (t : V → V → Hp → VK → Prop) : Prop :=
  ∀ (pins : List (Addr × Obj)) (s : Shared) (σ : St) (H : Hp) (o i : V) (ov iv : Value) (Q : VK), Inv X pins σ H s → RelV o ov → RelV i iv → t o i H Q →
    wpAny (model X.prog X.w) X.A (getItem ov iv) (EP X pins σ Q) X.xe s
/-- ints -/
def ipI (f : Int → Int → Int) : TIp := fun x y H Q => ∃ i j, x = .int i ∧ y = .int j ∧ Q (.int (f i j)) H
end

/-! ### while -/
section
variable {X : Cx} {pos : Pos}
/-- the invariant W with its measure -/
def tWhile (c : TT) (tb : TS) : TS := fun D σ H => ∃ W : Nat → St → Hp → Prop, (∃ m, W m σ H) ∧ ∀ m σ H, W m σ H →
  c σ H fun b H1 => if b = true then ∃ N : St → Hp → Prop, (∀ σ' H', N σ' H' → ∃ m', m' < m ∧ W m' σ' H') ∧ tb { D with nx := N, ct := N, bk := D.nx } σ H1 else D.nx σ H1
end

/-! ### what a loop or a comprehension walks -/
/-- at turn i: it yields x (the heap may grow), or it stops -/
structure It where
  go : Nat → Hp → Prop
  yld : Nat → Hp → V → Hp → Prop
  stop : Nat → Hp → Prop
/-- the iterator's own objects may turn: they are not the frame's, not pinned, younger than the entry (or a comprehension's own) -/
def FpOk (X : Cx) (pins : List (Addr × Obj)) (H : Hp) (b : Addr) : Prop :=
  H b = none ∧ b ≠ X.env.locals ∧ b ∉ X.fs ∧ (b ∈ X.ex ∨ X.s₀.heap.objs.size ≤ b) ∧ (∀ x c, X.env.cells.lookup x = some c → c ≠ b) ∧ ∀ p ∈ X.pn ++ pins, p.1 ≠ b
theorem Inv.fpOk {X : Cx} {pins : List (Addr × Obj)} {σ : St} {H H' : Hp} {s : Shared} {b : Addr} (I : Inv X pins σ H s) (hb : s.heap.objs.size ≤ b) (hn : H' b = none) : FpOk X pins H' b := by
  refine ⟨hn, Nat.ne_of_gt (Nat.lt_of_lt_of_le I.lt hb), I.nofs hb, .inr (Nat.le_trans I.sz hb), fun x c e z => ?_, fun p hp z => ?_⟩
  · obtain ⟨v, q⟩ := I.cell x c e
    exact absurd (Nat.lt_of_lt_of_le q.lt (by rw [z]; exact hb)) (Nat.lt_irrefl _)
  · exact absurd (Nat.lt_of_lt_of_le (Heap.lt_size (I.pin p hp).1) (by rw [z]; exact hb)) (Nat.lt_irrefl _)
structure Turn (P : Program) (w : World) (K : PySem.W.Frag) (tg : Expr) (J : It) (fp : List Addr) (it : Addr) (tn : Nat → Heap → Prop) : Prop where
  mem : it ∈ fp
  obj : ∀ i h, tn i h → ∀ b ∈ fp, ∃ o, h.get? b = some o ∧ ∀ v, o.data ≠ .cell v
  keep : ∀ i h h', tn i h → (∀ b ∈ fp, ∀ o, h.get? b = some o → h'.get? b = some o) → tn i h'
  item : ∀ (X : Cx), X.prog = P → X.w = w → X.K = K → X.calm = true → ∀ (i : Nat) (pins : List (Addr × Obj)) (s : Shared) (σ : St) (H : Hp) (E : Value → Shared → Prop), Inv X pins σ H s → (∀ b ∈ fp, FpOk X pins H b) → tn i s.heap → J.go i H →
    wpAny (model P w) X.A (pyNext (.ref it)) (fun r s1 => ∃ u, r = some u ∧
      wpAny (model P w) X.A (letOwnedTupleGo tg (.ref it) u) (fun _ s2 => ∃ x H', Inv X pins σ H' s2 ∧ RelV x u ∧ J.yld i H x H' ∧ tn (i + 1) s2.heap ∧ ∀ b ∈ fp, H' b = none) E s1) E s
  done : ∀ (X : Cx), X.prog = P → X.w = w → X.K = K → X.calm = true → ∀ (i : Nat) (pins : List (Addr × Obj)) (s : Shared) (σ : St) (H : Hp) (E : Value → Shared → Prop), Inv X pins σ H s → (∀ b ∈ fp, FpOk X pins H b) → tn i s.heap → J.stop i H →
    wpAny (model P w) X.A (pyNext (.ref it)) (fun r s1 => r = none ∧ Inv X pins σ H s1) E s
  self : ∀ (A : Around) (i : Nat) (s : Shared) (Q : Value → Shared → Prop) (E : Value → Shared → Prop), tn i s.heap → Q (.ref it) s → wpAny (model P w) A (pyIter (.ref it)) Q E s
abbrev TI := St → Hp → (It → Hp → Prop) → Prop
/-- an iterator has come -/
def PIE (X : Cx) (pins : List (Addr × Obj)) (σ : St) (tg : Expr) (R : It → Hp → Prop) (itv : Value) (s2 : Shared) : Prop :=
  ∃ (it : Addr) (fp : List Addr) (tn : Nat → Heap → Prop) (J : It) (H' : Hp), itv = .ref it ∧ Inv X pins σ H' s2 ∧ Turn X.prog X.w X.K tg J fp it tn ∧ tn 0 s2.heap ∧ (∀ b ∈ fp, FpOk X pins H' b) ∧ R J H'
def PI (X : Cx) (tg iter : Expr) (wi : TI) : Prop :=
  ∀ (pins : List (Addr × Obj)) (s : Shared) (σ : St) (H : Hp) (R : It → Hp → Prop), Inv X pins σ H s → wi σ H R →
    wpAny (model X.prog X.w) X.A (eval iter X.env) (fun v s1 => wpAny (model X.prog X.w) X.A (pyIter v) (PIE X pins σ tg R) X.xe s1) X.xe s

/-- the step ahead of the store is nothing for an iterator that keeps no tuple -/
theorem go_of {M : Model} {A : Around} {E : Value → Shared → Prop} {s : Shared} {tg : Expr} {it : Addr} {u : Value} {o : Obj} {n : String} {vs : Array Value} {Q : Unit → Shared → Prop} (ho : s.heap.get? it = some o) (hc : o.cls = .type n) (hd : o.data = .fields vs)
    (hn : ["enumerate", "zip", "dict_itemiterator", "dict_reverseitemiterator", "odict_iterator", "itertools.zip_longest", "itertools.pairwise"].contains n = false) (hQ : Q () s) : wpAny M A (letOwnedTupleGo tg (.ref it) u) Q E s := by
  unfold letOwnedTupleGo
  cases tg <;> first
    | exact wpAny_pure hQ
    | (cases u <;> first
        | exact wpAny_pure hQ
        | (refine wpAny_bind (wpAny_load ho ?_)
           rw [hc, hd]
           show wpAny M A (if (["enumerate", "zip", "dict_itemiterator", "dict_reverseitemiterator", "odict_iterator", "itertools.zip_longest", "itertools.pairwise"].contains n && vs[0]? == some (rawInt _)) = true then _ else _) Q E s
           rw [if_neg (by intro h; rw [hn, Bool.false_and] at h; cases h)]
           exact wpAny_pure hQ))

/-- the list at a, as it stands at each turn (a loop may append to it) -/
def Itl (K : PySem.W.Frag) (a : Addr) : It :=
  ⟨fun i H => ∃ xs x, SqL K H a xs ∧ xs[i]? = some x, fun i H x H' => H' = H ∧ ∀ xs, SqL K H a xs → xs[i]? = some x, fun i H => ∃ xs, SqL K H a xs ∧ xs.length ≤ i⟩
def Itt (K : PySem.W.Frag) (a : Addr) : It :=
  ⟨fun i H => ∃ xs x, SqT K H a xs ∧ xs[i]? = some x, fun i H x H' => H' = H ∧ ∀ xs, SqT K H a xs → xs[i]? = some x, fun i H => ∃ xs, SqT K H a xs ∧ xs.length ≤ i⟩
/-- lo, lo + 1, .. (n of them) -/
def Itr (lo : Int) (n : Nat) : It := ⟨fun i _ => i < n, fun i H x H' => H' = H ∧ x = .int (lo + i), fun i _ => n ≤ i⟩
theorem turn_list {P : Program} {w : World} {K : PySem.W.Frag} {tg : Expr} (a it : Addr) : Turn P w K tg (Itl K a) [it] it (fun i h => h.IsListIter it a i) where
  mem := by simp
  obj := fun i h st b hb => by
    have e : b = it := by simpa using hb
    subst e
    obtain ⟨o, e, c, d⟩ := st
    exact ⟨o, e, fun v z => by rw [d] at z; cases z⟩
  keep := fun i h h' st k => st.at fun o e => k it (by simp) o e
  item := by
    intro X hP hw hK hc i pins s σ H E I hf st hg
    subst hP hw hK
    obtain ⟨xs, x, hq, hx⟩ := hg
    obtain ⟨its, rv, p, hz⟩ := I.list hq
    obtain ⟨u, hu, ru⟩ := rv.get hx
    obtain ⟨f0, f1, f2, f3, f4, f5⟩ := hf it (by simp)
    refine wpAny_pyNext_list_item st p.isList (x := u) (by simpa using hu) fun h' st' sb => ?_
    have I1 : Inv X pins σ H { s with heap := h' } := I.turned (t' := s.toks) (fun b o hb e => (sb.2 b hb).trans e) f0 f1 f3 f4 f5
    obtain ⟨o, e, c, d⟩ := id st'
    exact ⟨u, rfl, go_of (s := { s with heap := h' }) e c d (by decide) ⟨x, H, I1, ru, ⟨rfl, fun ys hy => by rw [I.list_inj hy hq]; exact hx⟩, st', fun b hb => (hf b hb).1⟩⟩
  done := by
    intro X hP hw hK hc i pins s σ H E I hf st hg
    subst hP hw hK
    obtain ⟨xs, hq, hx⟩ := hg
    obtain ⟨its, rv, p, hz⟩ := I.list hq
    obtain ⟨f0, f1, f2, f3, f4, f5⟩ := hf it (by simp)
    have hl := rv.length
    exact wpAny_pyNext_list_end (I.ok.hd hc) st p.isList (by simp; omega) fun h' eb => ⟨rfl, I.turned (t' := s.toks) (fun b o hb e => eb b o hb e) f0 f1 f3 f4 f5⟩
  self := fun _ _ _ _ _ st h => wpAny_pyIter_listiter st h
theorem turn_tuple {P : Program} {w : World} {K : PySem.W.Frag} {tg : Expr} (a it : Addr) : Turn P w K tg (Itt K a) [it] it (fun i h => h.IsTupleIter it a i) where
  mem := by simp
  obj := fun i h st b hb => by
    have e : b = it := by simpa using hb
    subst e
    obtain ⟨o, e, c, d⟩ := st
    exact ⟨o, e, fun v z => by rw [d] at z; cases z⟩
  keep := fun i h h' st k => st.at fun o e => k it (by simp) o e
  item := by
    intro X hP hw hK hc i pins s σ H E I hf st hg
    subst hP hw hK
    obtain ⟨xs, x, hq, hx⟩ := hg
    obtain ⟨its, rv, p, hz⟩ := I.tuple hq
    obtain ⟨u, hu, ru⟩ := rv.get hx
    obtain ⟨f0, f1, f2, f3, f4, f5⟩ := hf it (by simp)
    refine wpAny_pyNext_tuple_item st (show s.heap.IsTuple a its.toArray from p) (x := u) (by simpa using hu) fun h' st' sb => ?_
    have I1 : Inv X pins σ H { s with heap := h' } := I.turned (t' := s.toks) (fun b o hb e => (sb.2 b hb).trans e) f0 f1 f3 f4 f5
    obtain ⟨o, e, c, d⟩ := id st'
    exact ⟨u, rfl, go_of (s := { s with heap := h' }) e c d (by decide) ⟨x, H, I1, ru, ⟨rfl, fun ys hy => by rw [I.tuple_inj hy hq]; exact hx⟩, st', fun b hb => (hf b hb).1⟩⟩
  done := by
    intro X hP hw hK hc i pins s σ H E I hf st hg
    subst hP hw hK
    obtain ⟨xs, hq, hx⟩ := hg
    obtain ⟨its, rv, p, hz⟩ := I.tuple hq
    obtain ⟨f0, f1, f2, f3, f4, f5⟩ := hf it (by simp)
    have hl := rv.length
    exact wpAny_pyNext_tuple_end (I.ok.hd hc) st (show s.heap.IsTuple a its.toArray from p) (by simp; omega) fun h' eb => ⟨rfl, I.turned (t' := s.toks) (fun b o hb e => eb b o hb e) f0 f1 f3 f4 f5⟩
  self := fun _ _ _ _ _ st h => wpAny_pyIter_tupleiter st h
theorem turn_range {P : Program} {w : World} {K : PySem.W.Frag} {tg : Expr} (it : Addr) (lo : Int) (n : Nat) : Turn P w K tg (Itr lo n) [it] it (fun i h => IsRangeIter h it (lo + (i : Nat) * 1) ((n : Int) - (i : Nat)) 1) where
  mem := by simp
  obj := fun i h st b hb => by
    have e : b = it := by simpa using hb
    subst e
    exact ⟨_, st, fun v z => by
      have z' : Data.fields _ = Data.cell v := z
      cases z'⟩
  keep := fun i h h' st k => k it (by simp) _ st
  item := by
    intro X hP hw hK hc i pins s σ H E I hf st hg
    subst hP hw hK
    obtain ⟨f0, f1, f2, f3, f4, f5⟩ := hf it (by simp)
    have W := Walks.range (prog := X.prog) (w := X.w) (I.ok.hd hc) it lo 1 n
    refine W.item i s _ _ hg st fun v h' tk hv st' kk => ?_
    obtain ⟨t, rfl⟩ := hv
    have I1 : Inv X pins σ H { s with heap := h', toks := tk } := I.turned (fun b o hb e => kk b o (by simpa using hb) e) f0 f1 f3 f4 f5
    refine ⟨_, rfl, go_of (s := { s with heap := h', toks := tk }) (n := "range_iterator") st' rfl rfl (by decide) ⟨.int (lo + i), H, I1, ⟨t, ?_⟩, ⟨rfl, rfl⟩, st', fun b hb => (hf b hb).1⟩⟩
    rw [Int.mul_one]
  done := by
    intro X hP hw hK hc i pins s σ H E I hf st hg
    subst hP hw hK
    obtain ⟨f0, f1, f2, f3, f4, f5⟩ := hf it (by simp)
    exact wpAny_pyNext_range_end (I.ok.hd hc) st (by have : n ≤ i := hg; omega) fun h' eb => ⟨rfl, I.turned (t' := s.toks) (fun b o hb e => eb b o hb e) f0 f1 f3 f4 f5⟩
  self := fun _ _ _ _ _ st h => wpAny_pyIter_rangeiter st h
end L2

namespace L2
open PySem PySem.Spec PyProof.Rows
section
variable {X : Cx} {tg : Expr}
def iList (K : PySem.W.Frag) (tl : TE) : TI := fun σ H R => tl σ H fun x H1 => ∃ a, x = .ref a ∧ (∃ xs, SqL K H1 a xs) ∧ R (Itl K a) H1
def iTup (K : PySem.W.Frag) (tl : TE) : TI := fun σ H R => tl σ H fun x H1 => ∃ a, x = .ref a ∧ (∃ xs, SqT K H1 a xs) ∧ R (Itt K a) H1
theorem pi_list {l : Expr} {tl : TE} (hl : PE X l tl) : PI X tg l (iList X.K tl) := by
  intro pins s σ H R I h
  refine thn (hl pins s σ H _ I h) fun v s1 ⟨x, H1, I1, r1, q1⟩ => ?_
  obtain ⟨a, e, ⟨xs, hq⟩, q⟩ := q1
  subst e
  cases r1
  obtain ⟨its, rv, p, hz⟩ := I1.list hq
  refine wpAny_pyIter_list p.isList ?_
  refine ⟨s1.heap.objs.size, [s1.heap.objs.size], _, _, H1, rfl, I1.kept (t' := s1.toks) fun b o e => Heap.get?_push_of_some _ e, turn_list a _, ⟨_, Heap.get?_push_size _ rfl, rfl, rfl⟩, fun b hb => ?_, q⟩
  have e : b = s1.heap.objs.size := by simpa using hb
  subst e
  exact I1.fpOk (Nat.le_refl _) (I1.hok.fresh (Nat.le_refl _))
theorem pi_tup {l : Expr} {tl : TE} (hl : PE X l tl) : PI X tg l (iTup X.K tl) := by
  intro pins s σ H R I h
  refine thn (hl pins s σ H _ I h) fun v s1 ⟨x, H1, I1, r1, q1⟩ => ?_
  obtain ⟨a, e, ⟨xs, hq⟩, q⟩ := q1
  subst e
  cases r1
  obtain ⟨its, rv, p, hz⟩ := I1.tuple hq
  refine wpAny_pyIter_tuple (show s1.heap.IsTuple a its.toArray from p) ?_
  refine ⟨s1.heap.objs.size, [s1.heap.objs.size], _, _, H1, rfl, I1.kept (t' := s1.toks) fun b o e => Heap.get?_push_of_some _ e, turn_tuple a _, ⟨_, Heap.get?_push_size _ rfl, rfl, rfl⟩, fun b hb => ?_, q⟩
  have e : b = s1.heap.objs.size := by simpa using hb
  subst e
  exact I1.fpOk (Nat.le_refl _) (I1.hok.fresh (Nat.le_refl _))
/-- a range object just made, walked -/
theorem range_it {pins : List (Addr × Obj)} {σ : St} {H : Hp} {s : Shared} {R : It → Hp → Prop} {E : Value → Shared → Prop} {lo hi : Int} {t u v : Tok} {tk : Nat} (I : Inv X pins σ H s) (h1 : -(2 ^ 62) ≤ lo) (h2 : lo < 2 ^ 62) (h3 : -(2 ^ 62) ≤ hi) (h4 : hi < 2 ^ 62)
    (q : R (Itr lo (hi - lo).toNat) H) : wpAny (model X.prog X.w) X.A (pyIter (.ref s.heap.objs.size)) (PIE X pins σ tg R) E { s with heap := s.heap.push { cls := .type "range", data := .fields #[.int lo t, .int hi u, .int 1 v] }, toks := tk } := by
  refine wpAny_pyIter_range (IsRange.new ..) (small_one h1 h2 h3 h4) ?_
  have I1 : Inv X pins σ H { s with heap := s.heap.push { cls := .type "range", data := .fields #[.int lo t, .int hi u, .int 1 v] }, toks := tk } := I.kept fun b o e => Heap.get?_push_of_some _ e
  refine ⟨(s.heap.push { cls := .type "range", data := .fields #[.int lo t, .int hi u, .int 1 v] }).objs.size, [(s.heap.push { cls := .type "range", data := .fields #[.int lo t, .int hi u, .int 1 v] }).objs.size], _, _, H, rfl,
    I1.kept (t' := tk) fun b o e => Heap.get?_push_of_some _ e, turn_range _ lo (hi - lo).toNat, ?_, fun b hb => ?_, q⟩
  · have e1 : lo + ((0 : Nat) : Int) * 1 = lo := by simp
    have e2 : (((hi - lo).toNat : Nat) : Int) - ((0 : Nat) : Int) = Builtin.Range.rangeSize lo hi 1 := by rw [rangeSize_one]; split <;> omega
    show IsRangeIter _ _ (lo + ((0 : Nat) : Int) * 1) ((((hi - lo).toNat : Nat) : Int) - ((0 : Nat) : Int)) 1
    rw [e1, e2]
    exact Heap.get?_push_size _ rfl
  · have e : b = (s.heap.push { cls := .type "range", data := .fields #[.int lo t, .int hi u, .int 1 v] }).objs.size := by simpa using hb
    subst e
    exact I1.fpOk (Nat.le_refl _) (I1.hok.fresh (Nat.le_refl _))
def iRng1 (ta : TA) : TI := fun σ H R => ta σ H fun vs H1 => ∃ j : Int, vs = [.int j] ∧ -(2 ^ 62) ≤ j ∧ j < 2 ^ 62 ∧ R (Itr 0 j.toNat) H1
def iRng2 (ta : TA) : TI := fun σ H R => ta σ H fun vs H1 => ∃ i j : Int, vs = [.int i, .int j] ∧ (-(2 ^ 62) ≤ i ∧ i < 2 ^ 62 ∧ -(2 ^ 62) ≤ j ∧ j < 2 ^ 62) ∧ R (Itr i (j - i).toNat) H1
theorem pi_range1 {a : Expr} {ta : TA} {p pos : Pos} (hg : Gl X "range") (hm : X.mg "range" = none) (ha : PA X [a] ta) (hs : starEach [a] X.env = [(false, eval a X.env)] := by rfl) : PI X tg (.Call (.Name "range" p) [a] [] pos) (iRng1 ta) := by
  intro pins s σ H R I h
  refine Call_ (ld_blt I hg hm boot_range (PyProof.Rows.callWith_type1 (thn (ha pos pins s σ H _ I h) fun us s1 ⟨vs, H1, I1, r1, q1⟩ => ?_) hs rfl))
  obtain ⟨j, e, q1, q2, q⟩ := q1
  subst e
  cases r1 with
  | cons r rr =>
    cases rr
    obtain ⟨t, rfl⟩ := r
    exact call_range_1 (range_it I1 (by omega) (by omega) q1 q2 (by simpa using q))
/-! ### for -/
/-- W: the invariant by the turn and a measure; N: what the body is to reach -/
def tFor (wi : TI) (g : TG) (tb : TS) : TS := fun D σ H => wi σ H fun J H1 => ∃ W : Nat → Nat → St → Hp → Prop, (∃ m, W 0 m σ H1) ∧ ∀ i m σ H, W i m σ H →
  (J.stop i H ∧ D.nx σ H) ∨ (J.go i H ∧ ∃ N : St → Hp → Prop, (∀ σ' H', N σ' H' → ∃ m', m' < m ∧ W (i + 1) m' σ' H') ∧ ∀ x H', J.yld i H x H' → g x σ H' fun σ2 H2 => tb { D with nx := N, ct := N, bk := D.nx } σ2 H2)
/-- the records at fp as they stand -/
def pinsAt (fp : List Addr) (h : Heap) : List (Addr × Obj) := fp.filterMap fun b => (h.get? b).map fun o => (b, o)
theorem mem_pinsAt {fp : List Addr} {h : Heap} {b : Addr} {o : Obj} (hb : b ∈ fp) (e : h.get? b = some o) : (b, o) ∈ pinsAt fp h := List.mem_filterMap.mpr ⟨b, hb, by rw [e]; rfl⟩
theorem of_pinsAt {fp : List Addr} {h : Heap} {p : Addr × Obj} (hp : p ∈ pinsAt fp h) : p.1 ∈ fp ∧ h.get? p.1 = some p.2 := by
  obtain ⟨b, hb, e⟩ := List.mem_filterMap.mp hp
  cases q : h.get? b with
  | none => rw [q] at e; cases e
  | some o =>
    rw [q] at e
    have e' : (b, o) = p := Option.some.inj e
    subst e'
    exact ⟨hb, q⟩
theorem Inv.pinned {pins : List (Addr × Obj)} {σ : St} {H : Hp} {s : Shared} {fp : List Addr} (I : Inv X pins σ H s) (hf : ∀ b ∈ fp, FpOk X pins H b) (ho : ∀ b ∈ fp, ∃ o, s.heap.get? b = some o ∧ ∀ v, o.data ≠ .cell v) : Inv X (pins ++ pinsAt fp s.heap) σ H s :=
  I.pins_of fun p hp => (List.mem_append.mp hp).elim (fun z => I.pin p (List.mem_append_right _ z)) fun z => by
    obtain ⟨hb, e⟩ := of_pinsAt z
    obtain ⟨f0, f1, f2, _⟩ := hf p.1 hb
    obtain ⟨o, e', d⟩ := ho p.1 hb
    rw [e] at e'; cases e'
    exact ⟨e, f0, f1, f2, d⟩
theorem Inv.unpinned {pins pl : List (Addr × Obj)} {σ : St} {H : Hp} {s : Shared} (I : Inv X (pins ++ pl) σ H s) : Inv X pins σ H s := I.pins_of fun p hp => I.pin p (List.mem_append_right _ (List.mem_append_left _ hp))
theorem ps_for {iter : Expr} {body : List Stmt} {wi : TI} {g : TG} {tb : TS} {pos : Pos} (hp : PassesOwn (model X.prog X.w) X.A X.env X.xe) (hc : X.calm = true) (hi : PI X tg iter wi) (hg : PG X tg g) (hb : PSs X body tb)
    (hs : ∀ x, foldedSetIterable iter X.env x = pure x := by intro _; rfl) : PS X (.For tg iter body [] pos) (tFor wi g tb) := by
  intro pins s σ H D I h
  refine wpAny_For (thn (hi pins s σ H _ I h) fun v s1 h1 => thn h1 fun itv s2 h2 => ?_) hs
  obtain ⟨it, fp, tn, J, H2, e, I2, T, st2, f2, W, ⟨m0, w0⟩, turn⟩ := h2
  subst e
  -- what stays true of the iterator's objects through the loop
  have stat : ∀ {H' : Hp}, (∀ b ∈ fp, H' b = none) → ∀ b ∈ fp, FpOk X pins H' b := fun hn b hb => ⟨hn b hb, (f2 b hb).2⟩
  refine codeAny_forLoop_any (fun n s' => ∃ i σ' H', Inv X pins σ' H' s' ∧ tn i s'.heap ∧ (∀ b ∈ fp, H' b = none) ∧ W i n σ' H') ?_ m0 ⟨0, σ, H2, I2, st2, fun b hb => (f2 b hb).1, w0⟩
  rintro n s3 ⟨i, σ3, H3, I3, st3, fr3, w3⟩
  rcases turn i n σ3 H3 w3 with ⟨stop, qn⟩ | ⟨go, N, hN, step⟩
  · refine wpAny_passesOwn hp (thn (T.done X rfl rfl rfl hc i pins s3 σ3 H3 X.xe I3 (stat fr3) st3 stop) fun r s4 ⟨hr, I4⟩ => ?_)
    subst hr
    exact wpAny_execs_nil ⟨σ3, H3, I4, qn⟩
  · refine wpAny_passesOwn hp (thn (T.item X rfl rfl rfl hc i pins s3 σ3 H3 X.xe I3 (stat fr3) st3 go) fun r s4 ⟨u, hr, h4⟩ => ?_)
    subst hr
    refine wpAny_passesOwn hp (thn h4 fun _ s5 ⟨x, H5, I5, r5, y5, st5, fr5⟩ => ?_)
    have I5' := I5.pinned (stat fr5) (T.obj _ _ st5)
    refine wpAny_passesOwn hp (thn (hg _ s5 σ3 H5 x u _ I5' r5 (step x H5 y5)) fun _ s6 ⟨σ6, H6, I6, q6⟩ => ?_)
    refine wpAny_passesOwn hp (thn (hb _ s6 σ6 H6 _ I6 q6) fun f s7 q7 => ?_)
    have again : ∀ {σ7 : St} {H7 : Hp}, Inv X (pins ++ pinsAt fp s5.heap) σ7 H7 s7 → N σ7 H7 → ∃ m, m < n ∧ ∃ i σ' H', Inv X pins σ' H' s7 ∧ tn i s7.heap ∧ (∀ b ∈ fp, H' b = none) ∧ W i m σ' H' := fun {σ7 H7} I7 n7 => by
      obtain ⟨m', hm, w7⟩ := hN σ7 H7 n7
      refine ⟨m', hm, i + 1, σ7, H7, I7.unpinned, T.keep _ _ _ st5 fun b hb o e => (I7.pin (b, o) (List.mem_append_right _ (List.mem_append_right _ (mem_pinsAt hb e)))).1, fun b hb => ?_, w7⟩
      obtain ⟨o, e, d⟩ := T.obj _ _ st5 b hb
      exact (I7.pin (b, o) (List.mem_append_right _ (List.mem_append_right _ (mem_pinsAt hb e)))).2.1
    cases f with
    | next => obtain ⟨σ7, H7, I7, n7⟩ := q7; exact again I7 n7
    | cont => obtain ⟨σ7, H7, I7, n7⟩ := q7; exact again I7 n7
    | brk => obtain ⟨σ7, H7, I7, q7⟩ := q7; exact ⟨σ7, H7, I7.unpinned, q7⟩
    | ret v => obtain ⟨x7, σ7, H7, I7, r7, q7⟩ := q7; exact ⟨x7, σ7, H7, I7.unpinned, r7, q7⟩
end

/-! ### the forms one uses -/
/-- over a list that the body leaves as it is -/
theorem for_list {K : PySem.W.Frag} {a : Addr} {xs : List V} {g : TG} {tb : TS} {D : Ends} {σ : St} {H : Hp} (Pv : Nat → St → Hp → Prop) (h0 : Pv 0 σ H) (hl : ∀ i σ H, i ≤ xs.length → Pv i σ H → SqL K H a xs)
    (hs : ∀ i x σ H, xs[i]? = some x → Pv i σ H → g x σ H fun σ2 H2 => tb { D with nx := Pv (i + 1), ct := Pv (i + 1), bk := D.nx } σ2 H2) (hd : ∀ σ H, Pv xs.length σ H → D.nx σ H) :
    ∃ W : Nat → Nat → St → Hp → Prop, (∃ m, W 0 m σ H) ∧ ∀ i m σ H, W i m σ H →
      ((Itl K a).stop i H ∧ D.nx σ H) ∨ ((Itl K a).go i H ∧ ∃ N : St → Hp → Prop, (∀ σ' H', N σ' H' → ∃ m', m' < m ∧ W (i + 1) m' σ' H') ∧ ∀ x H', (Itl K a).yld i H x H' → g x σ H' fun σ2 H2 => tb { D with nx := N, ct := N, bk := D.nx } σ2 H2) := by
  refine ⟨fun i m σ H => m = xs.length - i ∧ i ≤ xs.length ∧ Pv i σ H, ⟨xs.length, by simp, Nat.zero_le _, h0⟩, ?_⟩
  rintro i m σ H ⟨rfl, hi, p⟩
  have q := hl i σ H hi p
  by_cases hlt : i < xs.length
  · refine .inr ⟨⟨xs, xs[i], q, by simp [hlt]⟩, Pv (i + 1), fun σ' H' p' => ⟨xs.length - (i + 1), by omega, rfl, hlt, p'⟩, fun x H' y => ?_⟩
    obtain ⟨e, y⟩ := y
    subst e
    exact hs i x σ _ (y xs q) p
  · have e : i = xs.length := by omega
    subst e
    exact .inl ⟨⟨xs, q, Nat.le_refl _⟩, hd σ H p⟩
theorem for_tup {K : PySem.W.Frag} {a : Addr} {xs : List V} {g : TG} {tb : TS} {D : Ends} {σ : St} {H : Hp} (Pv : Nat → St → Hp → Prop) (h0 : Pv 0 σ H) (hl : ∀ i σ H, i ≤ xs.length → Pv i σ H → SqT K H a xs)
    (hs : ∀ i x σ H, xs[i]? = some x → Pv i σ H → g x σ H fun σ2 H2 => tb { D with nx := Pv (i + 1), ct := Pv (i + 1), bk := D.nx } σ2 H2) (hd : ∀ σ H, Pv xs.length σ H → D.nx σ H) :
    ∃ W : Nat → Nat → St → Hp → Prop, (∃ m, W 0 m σ H) ∧ ∀ i m σ H, W i m σ H →
      ((Itt K a).stop i H ∧ D.nx σ H) ∨ ((Itt K a).go i H ∧ ∃ N : St → Hp → Prop, (∀ σ' H', N σ' H' → ∃ m', m' < m ∧ W (i + 1) m' σ' H') ∧ ∀ x H', (Itt K a).yld i H x H' → g x σ H' fun σ2 H2 => tb { D with nx := N, ct := N, bk := D.nx } σ2 H2) := by
  refine ⟨fun i m σ H => m = xs.length - i ∧ i ≤ xs.length ∧ Pv i σ H, ⟨xs.length, by simp, Nat.zero_le _, h0⟩, ?_⟩
  rintro i m σ H ⟨rfl, hi, p⟩
  have q := hl i σ H hi p
  by_cases hlt : i < xs.length
  · refine .inr ⟨⟨xs, xs[i], q, by simp [hlt]⟩, Pv (i + 1), fun σ' H' p' => ⟨xs.length - (i + 1), by omega, rfl, hlt, p'⟩, fun x H' y => ?_⟩
    obtain ⟨e, y⟩ := y
    subst e
    exact hs i x σ _ (y xs q) p
  · have e : i = xs.length := by omega
    subst e
    exact .inl ⟨⟨xs, q, Nat.le_refl _⟩, hd σ H p⟩
theorem for_range {lo : Int} {n : Nat} {g : TG} {tb : TS} {D : Ends} {σ : St} {H : Hp} (Pv : Nat → St → Hp → Prop) (h0 : Pv 0 σ H)
    (hs : ∀ i σ H, i < n → Pv i σ H → g (.int (lo + i)) σ H fun σ2 H2 => tb { D with nx := Pv (i + 1), ct := Pv (i + 1), bk := D.nx } σ2 H2) (hd : ∀ σ H, Pv n σ H → D.nx σ H) :
    ∃ W : Nat → Nat → St → Hp → Prop, (∃ m, W 0 m σ H) ∧ ∀ i m σ H, W i m σ H →
      ((Itr lo n).stop i H ∧ D.nx σ H) ∨ ((Itr lo n).go i H ∧ ∃ N : St → Hp → Prop, (∀ σ' H', N σ' H' → ∃ m', m' < m ∧ W (i + 1) m' σ' H') ∧ ∀ x H', (Itr lo n).yld i H x H' → g x σ H' fun σ2 H2 => tb { D with nx := N, ct := N, bk := D.nx } σ2 H2) := by
  refine ⟨fun i m σ H => m = n - i ∧ i ≤ n ∧ Pv i σ H, ⟨n, by simp, Nat.zero_le _, h0⟩, ?_⟩
  rintro i m σ H ⟨rfl, hi, p⟩
  by_cases hlt : i < n
  · refine .inr ⟨hlt, Pv (i + 1), fun σ' H' p' => ⟨n - (i + 1), by omega, rfl, hlt, p'⟩, fun x H' y => ?_⟩
    obtain ⟨e, y⟩ := y
    subst e y
    exact hs i σ _ hlt p
  · have e : i = n := by omega
    subst e
    exact .inl ⟨Nat.le_refl _, hd σ H p⟩
end L2

namespace L2
open PySem PySem.Spec PyProof.Rows

abbrev R2 := V → V → Hp → VK → Prop
/-- a two-place operation on values: f is binaryOp op, inplaceOp op or compareOp op -/
def OpR (X : Cx) (f : Value → Value → Sem Value) (r : R2) : Prop :=
  ∀ (pins : List (Addr × Obj)) (s : Shared) (σ : St) (H : Hp) (x y : V) (v u : Value) (Q : VK), Inv X pins σ H s → RelV x v → RelV y u → r x y H Q →
    wpAny (model X.prog X.w) X.A (f v u) (EP X pins σ Q) X.xe s
/-- a one-place operation -/
def UnR (X : Cx) (f : Value → Sem Value) (r : V → Hp → VK → Prop) : Prop :=
  ∀ (pins : List (Addr × Obj)) (s : Shared) (σ : St) (H : Hp) (x : V) (v : Value) (Q : VK), Inv X pins σ H s → RelV x v → r x H Q →
    wpAny (model X.prog X.w) X.A (f v) (EP X pins σ Q) X.xe s
/-- a call of a value that is known (a builtin, a type) with values -/
def CallR (X : Cx) (f : Value) (r : List V → Hp → VK → Prop) : Prop :=
  ∀ (pins : List (Addr × Obj)) (s : Shared) (σ : St) (H : Hp) (xs : List V) (us : List Value) (Q : VK), Inv X pins σ H s → Vals xs us → r xs H Q →
    wpAny (model X.prog X.w) X.A (call f us) (EP X pins σ Q) X.xe s
/-- a value's truth -/
def TruR (X : Cx) (r : V → Hp → (Bool → Hp → Prop) → Prop) : Prop :=
  ∀ (pins : List (Addr × Obj)) (s : Shared) (σ : St) (H : Hp) (x : V) (v : Value) (Q : Bool → Hp → Prop), Inv X pins σ H s → RelV x v → r x H Q →
    wpAny (model X.prog X.w) X.A (truthy v) (TP X pins σ Q) X.xe s

def tOp (r : R2) (ta tb : TE) : TE := fun σ H Q => ta σ H fun x H1 => tb σ H1 fun y H2 => r x y H2 Q
def tUn (r : V → Hp → VK → Prop) (ta : TE) : TE := fun σ H Q => ta σ H fun x H1 => r x H1 Q
/-- ints in, under C, and a value out -/
def rI (C : Int → Int → Prop) (g : Int → Int → V) : R2 := fun x y H Q => ∃ i j, x = .int i ∧ y = .int j ∧ C i j ∧ Q (g i j) H
def rI0 (g : Int → Int → V) : R2 := fun x y H Q => ∃ i j, x = .int i ∧ y = .int j ∧ Q (g i j) H
def rU (g : Int → V) : V → Hp → VK → Prop := fun x H Q => ∃ i, x = .int i ∧ Q (g i) H

section
variable {X : Cx} {a b c : Expr} {ta tb tc : TE} {pos : Pos}

theorem binT (ha : PE X a ta) (hb : PE X b tb) {pins : List (Addr × Obj)} {s : Shared} {σ : St} {H : Hp} {R : V → V → Hp → Prop} (I : Inv X pins σ H s)
    (h : ta σ H fun x H1 => tb σ H1 fun y H2 => R x y H2) {Q : Value → Shared → Prop} {f : Value → Value → Sem Value}
    (hf : ∀ v u s2 x y H2, Inv X pins σ H2 s2 → RelV x v → RelV y u → R x y H2 → wpAny (model X.prog X.w) X.A (f v u) Q X.xe s2) :
    wpAny (model X.prog X.w) X.A (eval a X.env) (fun v s₁ => wpAny (model X.prog X.w) X.A (eval b X.env) (fun u s₂ => wpAny (model X.prog X.w) X.A (f v u) Q X.xe s₂) X.xe s₁) X.xe s := by
  refine thn (ha pins s σ H _ I h) fun v s1 ⟨x, H1, I1, r1, q1⟩ => ?_
  refine thn (hb pins s1 σ H1 _ I1 q1) fun u s2 ⟨y, H2, I2, r2, q2⟩ => ?_
  exact hf v u s2 x y H2 I2 r1 r2 q2

theorem pe_op {op : Operator} {r : R2} (ho : OpR X (binaryOp op) r) (ha : PE X a ta) (hb : PE X b tb) : PE X (.BinOp a op b pos) (tOp r ta tb) := by
  intro pins s σ H Q I h
  exact wpAny_BinOp (binT ha hb I h fun v u s2 x y H2 I2 rx ry q => ho pins s2 σ H2 x y v u Q I2 rx ry q)
theorem pe_un {op : UnaryOp} {r : V → Hp → VK → Prop} (ho : UnR X (unaryOp op) r) (ha : PE X a ta) : PE X (.UnaryOp op a pos) (tUn r ta) := by
  intro pins s σ H Q I h
  exact UnaryOp_ (thn (ha pins s σ H _ I h) fun v s1 ⟨x, H1, I1, r1, q1⟩ => ho pins s1 σ H1 x v Q I1 r1 q1)
/-! ### ints -/
theorem opI {f : Value → Value → Sem Value} {C : Int → Int → Prop} {g : Int → Int → Int}
    (rule : ∀ (i j : Int) (t u : Tok) (s : Shared) (Q : Value → Shared → Prop) (E : Value → Shared → Prop), C i j → Q (.int (g i j) s.toks) { s with toks := s.toks + 1 } → wpAny (model X.prog X.w) X.A (f (.int i t) (.int j u)) Q E s) :
    OpR X f (rI C fun i j => .int (g i j)) := by
  intro pins s σ H x y v u Q I rx ry h
  obtain ⟨i, j, rfl, rfl, hc, q⟩ := h
  obtain ⟨t, rfl⟩ := rx
  obtain ⟨t', rfl⟩ := ry
  exact rule i j t t' s _ _ hc ⟨.int (g i j), H, I.tok _, ⟨_, rfl⟩, q⟩
theorem opI0 {f : Value → Value → Sem Value} {g : Int → Int → Int}
    (rule : ∀ (i j : Int) (t u : Tok) (s : Shared) (Q : Value → Shared → Prop) (E : Value → Shared → Prop), Q (.int (g i j) s.toks) { s with toks := s.toks + 1 } → wpAny (model X.prog X.w) X.A (f (.int i t) (.int j u)) Q E s) :
    OpR X f (rI0 fun i j => .int (g i j)) := by
  intro pins s σ H x y v u Q I rx ry h
  obtain ⟨i, j, rfl, rfl, q⟩ := h
  obtain ⟨t, rfl⟩ := rx
  obtain ⟨t', rfl⟩ := ry
  exact rule i j t t' s _ _ ⟨.int (g i j), H, I.tok _, ⟨_, rfl⟩, q⟩
theorem opB0 {f : Value → Value → Sem Value} {g : Int → Int → Bool}
    (rule : ∀ (i j : Int) (t u : Tok) (s : Shared) (Q : Value → Shared → Prop) (E : Value → Shared → Prop), Q (.bool (g i j)) s → wpAny (model X.prog X.w) X.A (f (.int i t) (.int j u)) Q E s) :
    OpR X f (rI0 fun i j => .bl (g i j)) := by
  intro pins s σ H x y v u Q I rx ry h
  obtain ⟨i, j, rfl, rfl, q⟩ := h
  obtain ⟨t, rfl⟩ := rx
  obtain ⟨t', rfl⟩ := ry
  exact rule i j t t' s _ _ ⟨.bl (g i j), H, I, rfl, q⟩

def CDiv (i j : Int) : Prop := 0 < j ∧ j < 1073741824
def CDivN (i j : Int) : Prop := j ≠ 0 ∧ j.natAbs < 1073741824
def CPow (i j : Int) : Prop := 0 ≤ j ∧ j ≤ 1000000 ∧ i.natAbs < 2 ^ 64
def CMul (i j : Int) : Prop := (-(2 ^ 64) < i ∧ i < 2 ^ 64) ∨ (-(2 ^ 64) < j ∧ j < 2 ^ 64)
theorem CMul.ok {i j : Int} (h : CMul i j) : IntMulOk i j := by
  rcases h with ⟨h1, h2⟩ | ⟨h1, h2⟩
  · exact .of_left (intBits_le_64 h1 h2)
  · exact .of_right (intBits_le_64 h1 h2)
theorem op_add : OpR X (binaryOp .Add) (rI0 fun i j => .int (i + j)) := opI0 fun _ _ _ _ _ _ _ q => add_int q
theorem op_sub : OpR X (binaryOp .Sub) (rI0 fun i j => .int (i - j)) := opI0 fun _ _ _ _ _ _ _ q => sub_int q
theorem op_mul : OpR X (binaryOp .Mult) (rI CMul fun i j => .int (i * j)) := opI fun _ _ _ _ _ _ _ hc q => mul_int q hc.ok
/-- // by a positive divisor -/
theorem op_fdiv : OpR X (binaryOp .FloorDiv) (rI CDiv fun i j => .int (i / j)) := opI fun i j _ _ _ _ _ hc q => by
  have h1 : (0 : Int) < j := hc.1
  have h2 : j < 1073741824 := hc.2
  exact floordiv_int (by omega) (by rw [Int.fdiv_eq_ediv_of_nonneg i (by omega)]; exact q) (.inl (PyProof.noPylong_small (by omega)))
/-- % by a positive divisor of any size -/
theorem op_mod : OpR X (binaryOp .Mod) (rI (fun _ j => 0 < j) fun i j => .int (i % j)) := opI fun i j _ _ _ _ _ hc q => by
  have h1 : (0 : Int) < j := hc
  exact mod_int' (by omega) (by rw [Int.fmod_eq_emod_of_nonneg i (by omega)]; exact q)
theorem unI {f : Value → Sem Value} {g : Int → Int}
    (rule : ∀ (i : Int) (t : Tok) (s : Shared) (Q : Value → Shared → Prop) (E : Value → Shared → Prop), Q (.int (g i) s.toks) { s with toks := s.toks + 1 } → wpAny (model X.prog X.w) X.A (f (.int i t)) Q E s) :
    UnR X f (rU fun i => .int (g i)) := by
  intro pins s σ H x v Q I rx h
  obtain ⟨i, rfl, q⟩ := h
  obtain ⟨t, rfl⟩ := rx
  exact rule i t s _ _ ⟨.int (g i), H, I.tok _, ⟨_, rfl⟩, q⟩
theorem un_neg : UnR X (unaryOp .USub) (rU fun i => .int (-i)) := unI fun _ _ _ _ _ q => neg_int q
/-! ### bools among ints: n += (a < b) -/
end

/-! ### comparisons -/
/-- the scalars that == tells apart as data does -/
def scal : V → V → Bool
  | .non, .non => true | .non, .int _ => true | .int _, .non => true | .non, .bl _ => true | .bl _, .non => true | .non, .str _ => true | .str _, .non => true
  | .int _, .int _ => true | .bl _, .bl _ => true | .str _, .str _ => true | .byt _, .byt _ => true
  | .int _, .str _ => true | .str _, .int _ => true | .bl _, .str _ => true | .str _, .bl _ => true
  | _, _ => false
def rEq : R2 := fun x y H Q => scal x y = true ∧ Q (.bl (decide (x = y))) H
def rNe : R2 := fun x y H Q => scal x y = true ∧ Q (.bl (!decide (x = y))) H

theorem dec_int {i j : Int} : decide (V.int i = V.int j) = (i == j) := by
  rw [Bool.eq_iff_iff]
  simp
theorem dec_bl {i j : Bool} : decide (V.bl i = V.bl j) = (i == j) := by
  rw [Bool.eq_iff_iff]
  simp
theorem dec_str {i j : Str} : decide (V.str i = V.str j) = (i == j) := by
  rw [Bool.eq_iff_iff]
  simp
theorem dec_byt {i j : Array UInt8} : decide (V.byt i = V.byt j) = (i.toList == j.toList) := by
  rw [Bool.eq_iff_iff]
  cases i
  cases j
  simp

section
variable {X : Cx} {a b c : Expr} {ta tb tc : TE} {pos : Pos}
theorem fin_bl {pins : List (Addr × Obj)} {σ : St} {H : Hp} {s : Shared} {Q : VK} {k k' : Bool} (I : Inv X pins σ H s) (q : Q (.bl k) H) (e : k = k') : EP X pins σ Q (.bool k') s := by
  subst e
  exact ⟨.bl k, H, I, rfl, q⟩
theorem op_eq : OpR X (compareOp .Eq) rEq := by
  intro pins s σ H x y v u Q I rx ry h
  obtain ⟨hs, q⟩ := h
  cases x with
  | non =>
    cases rx
    cases y with
    | non => cases ry; exact PySem.EqNone.eq_none_none (fin_bl I q (by simp))
    | bl j => cases ry; exact PySem.EqNone.eq_none_bool (fin_bl I q (by simp))
    | int j => obtain ⟨t', rfl⟩ := ry; exact PySem.EqNone.eq_none_int (fin_bl I q (by simp))
    | str j => obtain ⟨t', rfl⟩ := ry; exact PySem.EqNone.eq_none_str (fin_bl I q (by simp))
    | _ => exact absurd (show false = true from hs) Bool.false_ne_true
  | bl i =>
    cases rx
    cases y with
    | non => cases ry; exact PySem.EqNone.eq_bool_none (fin_bl I q (by simp))
    | bl j => cases ry; exact eq_bool (fin_bl I q dec_bl)
    | str j => obtain ⟨t', rfl⟩ := ry; exact PySem.EqMixed.eq_bool_str (fin_bl I q (by simp))
    | _ => exact absurd (show false = true from hs) Bool.false_ne_true
  | int i =>
    obtain ⟨t, rfl⟩ := rx
    cases y with
    | non => cases ry; exact PySem.EqNone.eq_int_none (fin_bl I q (by simp))
    | int j => obtain ⟨t', rfl⟩ := ry; exact eq_int (fin_bl I q dec_int)
    | str j => obtain ⟨t', rfl⟩ := ry; exact PySem.EqMixed.eq_int_str (fin_bl I q (by simp))
    | _ => exact absurd (show false = true from hs) Bool.false_ne_true
  | str i =>
    obtain ⟨t, rfl⟩ := rx
    cases y with
    | non => cases ry; exact PySem.EqNone.eq_str_none (fin_bl I q (by simp))
    | bl j => cases ry; exact PySem.EqMixed.eq_str_bool (fin_bl I q (by simp))
    | int j => obtain ⟨t', rfl⟩ := ry; exact PySem.EqMixed.eq_str_int (fin_bl I q (by simp))
    | str j => obtain ⟨t', rfl⟩ := ry; exact eq_str (fin_bl I q dec_str)
    | _ => exact absurd (show false = true from hs) Bool.false_ne_true
  | byt i =>
    obtain ⟨t, rfl⟩ := rx
    cases y with
    | byt j => obtain ⟨t', rfl⟩ := ry; exact PySem.W.eq_bytes (fin_bl I q dec_byt)
    | _ => exact absurd (show false = true from hs) Bool.false_ne_true
  | _ => cases y <;> exact absurd (show false = true from hs) Bool.false_ne_true
theorem op_ne : OpR X (compareOp .NotEq) rNe := by
  intro pins s σ H x y v u Q I rx ry h
  obtain ⟨hs, q⟩ := h
  cases x with
  | non =>
    cases rx
    cases y with
    | non => cases ry; exact PySem.EqNone.ne_none_none (fin_bl I q (by simp))
    | bl j => cases ry; exact PySem.EqNone.ne_none_bool (fin_bl I q (by simp))
    | int j => obtain ⟨t', rfl⟩ := ry; exact PySem.EqNone.ne_none_int (fin_bl I q (by simp))
    | str j => obtain ⟨t', rfl⟩ := ry; exact PySem.EqNone.ne_none_str (fin_bl I q (by simp))
    | _ => exact absurd (show false = true from hs) Bool.false_ne_true
  | bl i =>
    cases rx
    cases y with
    | non => cases ry; exact PySem.EqNone.ne_bool_none (fin_bl I q (by simp))
    | bl j => cases ry; exact ne_bool (fin_bl I q (congrArg not dec_bl))
    | str j => obtain ⟨t', rfl⟩ := ry; exact PySem.EqMixed.ne_bool_str (fin_bl I q (by simp))
    | _ => exact absurd (show false = true from hs) Bool.false_ne_true
  | int i =>
    obtain ⟨t, rfl⟩ := rx
    cases y with
    | non => cases ry; exact PySem.EqNone.ne_int_none (fin_bl I q (by simp))
    | int j => obtain ⟨t', rfl⟩ := ry; exact ne_int (fin_bl I q (congrArg not dec_int))
    | str j => obtain ⟨t', rfl⟩ := ry; exact PySem.EqMixed.ne_int_str (fin_bl I q (by simp))
    | _ => exact absurd (show false = true from hs) Bool.false_ne_true
  | str i =>
    obtain ⟨t, rfl⟩ := rx
    cases y with
    | non => cases ry; exact PySem.EqNone.ne_str_none (fin_bl I q (by simp))
    | bl j => cases ry; exact PySem.EqMixed.ne_str_bool (fin_bl I q (by simp))
    | int j => obtain ⟨t', rfl⟩ := ry; exact PySem.EqMixed.ne_str_int (fin_bl I q (by simp))
    | str j => obtain ⟨t', rfl⟩ := ry; exact ne_str (fin_bl I q (congrArg not dec_str))
    | _ => exact absurd (show false = true from hs) Bool.false_ne_true
  | byt i =>
    obtain ⟨t, rfl⟩ := rx
    cases y with
    | byt j => obtain ⟨t', rfl⟩ := ry; exact PySem.W.ne_bytes (fin_bl I q (congrArg not dec_byt))
    | _ => exact absurd (show false = true from hs) Bool.false_ne_true
  | _ => cases y <;> exact absurd (show false = true from hs) Bool.false_ne_true

theorem op_lt : OpR X (compareOp .Lt) (rI0 fun i j => .bl (decide (i < j))) := opB0 fun _ _ _ _ _ _ _ q => lt_int q
theorem op_gt : OpR X (compareOp .Gt) (rI0 fun i j => .bl (decide (j < i))) := opB0 fun _ _ _ _ _ _ _ q => gt_int q
theorem op_ge : OpR X (compareOp .GtE) (rI0 fun i j => .bl (decide (j ≤ i))) := opB0 fun _ _ _ _ _ _ _ q => ge_int q
/-- is None, is not None: the right side a value none -/
theorem op_isN : OpR X (compareOp .Is) (fun x y H Q => y = .non ∧ Q (.bl (decide (x = .non))) H) := by
  intro pins s σ H x y v u Q I rx ry h
  obtain ⟨rfl, q⟩ := h
  cases ry
  refine is_none_gen (fin_bl I q ?_)
  cases x <;> first
    | (cases rx; rfl)
    | (obtain ⟨t, rfl⟩ := rx; rfl)
/-- is, is not of two objects that are tracked lists or instances -/
def isObj : HO → Bool
  | .lst _ => true
  | .ins _ _ _ => true
  | _ => false
/-- two rules for one operation: by cases -/
theorem OpR.or {f : Value → Value → Sem Value} {r r' : R2} (h : OpR X f r) (h' : OpR X f r') : OpR X f (fun x y H Q => r x y H Q ∨ r' x y H Q) := by
  intro pins s σ H x y v u Q I rx ry q
  rcases q with q | q
  · exact h pins s σ H x y v u Q I rx ry q
  · exact h' pins s σ H x y v u Q I rx ry q

theorem nomark (b : Expr) {op : CmpOp} (h : op ≠ .In := by decide) (h2 : op ≠ .NotIn := by decide) : behindInMarks op b = false := by
  have e1 : (op == CmpOp.In) = false := by cases op <;> first | rfl | exact absurd rfl h
  have e2 : (op == CmpOp.NotIn) = false := by cases op <;> first | rfl | exact absurd rfl h2
  cases b <;> simp [behindInMarks, e1, e2]
/-- a comparison as a value; hm: nomark b, or (for in, not in) by with_unfolding_all rfl -/
theorem pe_cmpR {op : CmpOp} {r : R2} (ho : OpR X (compareOp op) r) (ha : PE X a ta) (hb : PE X b tb) (hm : behindInMarks op b = false) : PE X (.Compare a [op] [b] pos) (tOp r ta tb) := by
  intro pins s σ H Q I h
  exact wpAny_Compare1 (binT ha hb I h fun v u s2 x y H2 I2 rx ry q => ho pins s2 σ H2 x y v u Q I2 rx ry q) hm
/-- a reading of a value as a test -/
def tTest (t : TE) : TT := fun σ H Q => t σ H fun x H' => ∃ k, x = .bl k ∧ Q k H'
theorem pt_cmpR {op : CmpOp} {r : R2} (ho : OpR X (compareOp op) r) (ha : PE X a ta) (hb : PE X b tb) (hm : behindInMarks op b = false) : PT X (.Compare a [op] [b] pos) (tTest (tOp r ta tb)) := by
  intro pins s σ H Q I h
  refine wpAny_isTrue_Compare1 (thn (ha pins s σ H _ I h) fun v s1 ⟨x, H1, I1, r1, q1⟩ => thn (hb pins s1 σ H1 _ I1 q1) fun u s2 ⟨y, H2, I2, r2, q2⟩ =>
    thn (ho pins s2 σ H2 x y v u _ I2 r1 r2 q2) fun c s3 ⟨z, H3, I3, r3, k, e, q3⟩ => ?_) hm
  subst e
  cases r3
  exact wpAny_truthy_bool ⟨H3, I3, q3⟩
/-- a op1 b op2 c -/
def tChain (r r' : R2) (ta tb tc : TE) : TE := fun σ H Q => ta σ H fun x H1 => tb σ H1 fun y H2 => r x y H2 fun z H3 => ∃ k, z = .bl k ∧
  (if k = true then tc σ H3 fun w' H4 => r' y w' H4 Q else Q (.bl false) H3)
/-! ### truth -/
/-- a value's truth by the abstract heap -/
def TruV (K : PySem.W.Frag) (x : V) (H : Hp) (k : Bool) : Prop :=
  match x with
  | .non => k = false
  | .bl b => k = b
  | .int i => k = (i != 0)
  | .str y => y.length ≤ sizeLine ∧ k = ((y.length : Int) != 0)
  | .byt y => y.size ≤ sizeLine ∧ k = ((y.size : Int) != 0)
  | .ref p => (∃ xs, SqL K H p xs ∧ k = !xs.isEmpty) ∨ (∃ xs, SqT K H p xs ∧ k = !xs.isEmpty) ∨ ∃ kvs, H p = some (.dK kvs) ∧ k = !kvs.isEmpty
  | _ => False
theorem line63 : (sizeLine : Nat) < 2 ^ 63 := by rw [sizeLine_eq]; decide
/-! ### strs and bytes -/
theorem op_add_str : OpR X (binaryOp .Add) (fun x y H Q => ∃ i j, x = .str i ∧ y = .str j ∧ i.length + j.length ≤ sizeLine ∧ Q (.str (i ++ j)) H) := by
  intro pins s σ H x y v u Q I rx ry h
  obtain ⟨i, j, rfl, rfl, hz, q⟩ := h
  obtain ⟨t, rfl⟩ := rx
  obtain ⟨t', rfl⟩ := ry
  exact add_str (fun t' tk => ⟨.str (i ++ j), H, I.tok _, ⟨_, rfl⟩, q⟩) hz
def PlainIxT (b : Expr) : Prop := ∀ o i, subscripted b false o i = operate [o, i] (getItem o i)
/-! ### scalar builtins, by CallR -/
theorem vals1 {x : V} {us : List Value} (r : Vals [x] us) : ∃ u, us = [u] ∧ RelV x u := by
  cases r with
  | cons r1 r2 => cases r2; exact ⟨_, rfl, r1⟩
theorem vals2 {x y : V} {us : List Value} (r : Vals [x, y] us) : ∃ u w', us = [u, w'] ∧ RelV x u ∧ RelV y w' := by
  cases r with
  | cons r1 r2 =>
    cases r2 with
    | cons r3 r4 => cases r4; exact ⟨_, _, rfl, r1, r3⟩
theorem call_int1 : CallR X (.type "int") (fun xs H Q => (∃ i, xs = [.int i] ∧ Q (.int i) H) ∨ ∃ k, xs = [.bl k] ∧ Q (.int (if k then 1 else 0)) H) := by
  intro pins s σ H xs us Q I r h
  rcases h with ⟨i, rfl, q⟩ | ⟨k, rfl, q⟩
  · obtain ⟨u, rfl, t, rfl⟩ := vals1 r
    exact call_int_int ⟨.int i, H, I, ⟨_, rfl⟩, q⟩
  · obtain ⟨u, rfl, r1⟩ := vals1 r
    cases r1
    exact call_int_bool ⟨.int (if k then 1 else 0), H, I.tok _, ⟨_, rfl⟩, q⟩
/-- len of a str, a bytes, a list, a tuple -/
def LenV (K : PySem.W.Frag) (x : V) (H : Hp) (n : Nat) : Prop :=
  match x with
  | .str y => y.length ≤ sizeLine ∧ n = y.length
  | .byt y => y.size ≤ sizeLine ∧ n = y.size
  | .ref p => (∃ xs, SqL K H p xs ∧ n = xs.length) ∨ ∃ xs, SqT K H p xs ∧ n = xs.length
  | _ => False
end
end L2

namespace L2
open PySem PySem.Spec PyProof.Rows

/-! ### an instance, its attributes a map -/
structure ObjM (h : Heap) (x dx C : Addr) (mA : Str → Option Value) : Prop where
  obj : h.get? x = some (PySem.W.instObj C dx)
  ns : h.Ns1 dx mA
  ne : dx ≠ x

theorem lookIn_ns {h : Heap} {dx : Addr} {mA : Str → Option Value} (n : h.Ns1 dx mA) : ∃ od, h.get? dx = some od ∧ ∀ name, PySem.W.lookIn name od = some (mA name) := by
  obtain ⟨o, es, ep, ho, hd, hk, _, hm⟩ := n
  refine ⟨o, ho, fun name => ?_⟩
  have e := hm name
  unfold nsFind findBy at e
  rw [← Array.find?_toList] at e
  unfold PySem.W.lookIn
  rw [hd]
  dsimp only
  split
  · rename_i y q
    rw [q] at e
    exact congrArg some e
  · rename_i q
    rw [q] at e
    have a : es.toList.any (·.refKey) = false := by
      rw [List.any_eq_false]
      intro y hy
      obtain ⟨z, t, hkey⟩ := hk y (Array.mem_toList_iff.mp hy)
      simp [DictEntry.refKey, hkey]
    have a' : ¬ es.toList.any (·.refKey) = true := by rw [a]; exact Bool.false_ne_true
    rw [if_neg a']
    exact congrArg some e

theorem ObjM.look {h : Heap} {x dx C : Addr} {mA : Str → Option Value} (I : ObjM h x dx C mA) : ∃ od, PySem.W.InstAt h x (PySem.W.instObj C dx) C (some od) ∧ ∀ name, PySem.W.lookIn name od = some (mA name) :=
  let ⟨od, ho, hl⟩ := lookIn_ns I.ns
  ⟨od, ⟨I.obj, rfl, rfl, ho⟩, hl⟩

section
variable {prog : Program} {w : World} {A : Around} {E : Value → Shared → Prop} {s : Shared} {K : PySem.W.Frag} {x dx C f : Addr} {mA : Str → Option Value} {name : Str} {v : Value}

theorem get_map {expr : Bool} {Q : Value → Shared → Prop} (X : K.In s.heap) (I : ObjM s.heap x dx C mA) (hg : PySem.W.plainGet K C name = true) (hh : PySem.W.hasDictIn K C = true)
    (ha : PySem.W.findIn K (.ref C) name = some none) (hv : mA name = some v) (hv' : PySem.W.handedIn v = true) (h : Q v { s with toks := s.toks + 1 }) :
    wpAny (model prog w) A (getAttr (.ref x) name expr) Q E s := by
  obtain ⟨od, J, hl⟩ := I.look
  exact PySem.W.get_value X J (PySem.W.plainGet_of hg).1 (PySem.W.findObj_own hh ha rfl (by rw [hl, hv])) hv' h

theorem get_meth {pl : Sem Bool} {Q : Value × List Value → Shared → Prop} (X : K.In s.heap) (I : ObjM s.heap x dx C mA) (hg : PySem.W.plainGet K C name = true)
    (hf : PySem.W.findIn K (.ref C) name = some (some (.ref f))) (ht : PySem.W.isFn K (.ref f) = true) (hv : mA name = none) (h : Q (.ref f, [.ref x]) s) :
    wpAny (model prog w) A (getMethod (.ref x) name pl) Q E s := by
  obtain ⟨od, J, hl⟩ := I.look
  exact PySem.W.method_fn X J (PySem.W.plainGet_of hg).1 (PySem.W.plainGet_of hg).2 hf (beq_iff_eq.mp ht) (by show (PySem.W.lookIn name od).map (·.isSome) = some false; rw [hl, hv]; rfl) h

theorem set_map {ns : List Str} {Q : Unit → Shared → Prop} (X : K.In s.heap) (I : ObjM s.heap x dx C mA)
    (hs : PySem.W.findIn K (.ref C) "__setattr__" = some (some (.builtin "object.__setattr__"))) (hp : PySem.W.plainOver K C = true) (ht : PySem.W.takerIn K C name = some none) (hh : PySem.W.hasDictIn K C = true)
    (hw : PySem.Within mA ns) (hsz : ns.length ≤ sizeLine)
    (h : ∀ h', ObjM h' x dx C (fun y => if y = name then some v else mA y) → Heap.SameBut dx s.heap h' → Q () { s with heap := h', toks := s.toks + 2 }) :
    wpAny (model prog w) A (setAttr (.ref x) name v) Q E s := by
  obtain ⟨od, J, hl⟩ := I.look
  refine PySem.W.set_plain X J hs (PySem.W.osa_open (s := { s with toks := s.toks + 1 }) (r := none) X J hp ht fun b => ?_)
  obtain ⟨cd, hc, hd'⟩ := PySem.W.any_some hh
  have hx : s.heap.get? x = some ⟨.ref C, some dx, .plain, #[]⟩ := I.obj
  refine wpAny_bind (wpAny_pure (wpAny_bind (wpAny_bind (wpAny_loadPart hx (wpAny_bind (PySem.W.Looks.here (s := { s with toks := s.toks + 1 }) (PySem.W.looks_clsIn X hc) ?_))))))
  rw [hd']
  refine wpAny_pure (a := some dx) (wpAny_bind (wpAny_pure (wpAny_bind ?_)))
  refine wpAny_nsSet1 (s := { s with toks := s.toks + 1 }) I.ns fun h' hn2 hs2 => ?_
  obtain ⟨oD, esD, epD, hoD, hdD, hcD⟩ := hn2.count (PySem.Within.cons name v hw)
  refine wpAny_bind (wpAny_lookBehind hoD (by rw [hdD]; exact pastItsLine_dict (Nat.le_trans hcD (by rw [List.length_cons]; omega))) ?_)
  exact wpAny_pure (h _ ⟨(hs2.2 _ (Ne.symm I.ne)).trans I.obj, hn2, I.ne⟩ hs2)

/-- C(..): the dict at the heap's end, the instance behind it; then its __init__ -/
theorem make_map {R : Result → Shared → Prop} {vs : List Value} {kw : List (Str × Value)} (X : K.In s.heap) (hm : PySem.W.makesIn K C = true)
    (hi : PySem.W.findIn K (.ref C) "__init__" = some (some (.ref f))) (hf : PySem.W.typeIn K (.ref f) = some (.type "function"))
    (h : codeAny (model prog w) (A.under (.builtin "type.__call__" ⟨.ref C :: vs, kw⟩)) (.call (.ref f) ⟨.ref (s.heap.objs.size + 1) :: vs, kw⟩) (PySem.W.InitBack (s.heap.objs.size + 1) R)
      { s with heap := (s.heap.push PySem.W.emptyDict).push (PySem.W.instObj C s.heap.objs.size) }) :
    codeAny (model prog w) A (.call (.ref C) ⟨vs, kw⟩) R s := by
  obtain ⟨hh, g, d, t, os⟩ := s
  exact PySem.W.make_core (PySem.W.makes_of X hm) (PySem.W.looks_findIn X hi) (fun self => PySem.W.bind_fn X self hf) (.inl rfl) h
end

/-! ### the attributes as a list of pairs -/
def putF (f : Str) (v : V) : List (Str × V) → List (Str × V)
  | [] => [(f, v)]
  | (g, x) :: r => if g = f then (g, v) :: r else (g, x) :: putF f v r
theorem lookup_putF (f g : Str) (v : V) : ∀ fs : List (Str × V), (putF f v fs).lookup g = if g = f then some v else fs.lookup g
  | [] => by
    show List.lookup g [(f, v)] = _
    by_cases h : g = f
    · have hb : (g == f) = true := beq_iff_eq.mpr h
      simp only [List.lookup, hb, if_pos h]
    · have hb : (g == f) = false := beq_eq_false_iff_ne.mpr h
      simp only [List.lookup, hb, if_neg h]
  | (k, x) :: r => by
    have ih := lookup_putF f g v r
    rw [show putF f v ((k, x) :: r) = (if k = f then (k, v) :: r else (k, x) :: putF f v r) from rfl]
    by_cases hk : k = f
    · rw [if_pos hk]
      by_cases h : g = k
      · have hb : (g == k) = true := beq_iff_eq.mpr h
        simp only [List.lookup, hb, if_pos (h.trans hk)]
      · have hb : (g == k) = false := beq_eq_false_iff_ne.mpr h
        simp only [List.lookup, hb, if_neg (fun e : g = f => h (e.trans hk.symm))]
    · rw [if_neg hk]
      by_cases h : g = k
      · have hb : (g == k) = true := beq_iff_eq.mpr h
        simp only [List.lookup, hb, if_neg (fun e : g = f => hk (h.symm.trans e))]
      · have hb : (g == k) = false := beq_eq_false_iff_ne.mpr h
        simp only [List.lookup, hb]
        exact ih
theorem keys_putF (f : Str) (v : V) : ∀ fs : List (Str × V), f ∈ (putF f v fs).map (·.1) ∧ ∀ g, g ∈ fs.map (·.1) → g ∈ (putF f v fs).map (·.1)
  | [] => ⟨by simp [putF], fun g h => by simp at h⟩
  | (k, x) :: r => by
    obtain ⟨i1, i2⟩ := keys_putF f v r
    rw [show putF f v ((k, x) :: r) = (if k = f then (k, v) :: r else (k, x) :: putF f v r) from rfl]
    by_cases hk : k = f
    · rw [if_pos hk]
      subst hk
      exact ⟨by simp, fun g h => by simpa using h⟩
    · rw [if_neg hk]
      refine ⟨?_, fun g h => ?_⟩
      · rw [List.map_cons]
        exact List.mem_cons_of_mem _ i1
      · rw [List.map_cons] at h ⊢
        rcases List.mem_cons.mp h with e | e
        · exact List.mem_cons.mpr (.inl e)
        · exact List.mem_cons_of_mem _ (i2 g e)
theorem length_putF (f : Str) (v : V) : ∀ fs : List (Str × V), (putF f v fs).length ≤ fs.length + 1
  | [] => by simp [putF]
  | (k, x) :: r => by
    have ih := length_putF f v r
    rw [show putF f v ((k, x) :: r) = (if k = f then (k, v) :: r else (k, x) :: putF f v r) from rfl]
    by_cases hk : k = f
    · rw [if_pos hk, List.length_cons, List.length_cons]; omega
    · rw [if_neg hk, List.length_cons, List.length_cons]; omega

theorem RelO.some_of {v : V} {o : Option Value} (r : RelO (some v) o) : ∃ u, o = some u ∧ RelV v u := by
  cases o with
  | none => exact (show False from r).elim
  | some u => exact ⟨u, rfl, r⟩
theorem RelO.none_of {o : Option Value} (r : RelO none o) : o = none := by
  cases o with
  | none => rfl
  | some u => exact (show False from r).elim
theorem handed_of {v : V} {u : Value} (r : RelV v u) : PySem.W.handedIn u = true := by
  cases v with
  | non => cases (show u = Value.none from r); rfl
  | bl b => cases (show u = Value.bool b from r); rfl
  | int i => obtain ⟨t, e⟩ := (show ∃ t, u = Value.int i t from r); cases e; rfl
  | str x => obtain ⟨t, e⟩ := (show ∃ t, u = Value.str x t from r); cases e; rfl
  | byt b => obtain ⟨t, e⟩ := (show ∃ t, u = Value.bytes b t from r); cases e; rfl
  | flt b => obtain ⟨t, e⟩ := (show ∃ t, u = Value.float b t from r); cases e; rfl
  | ref a => cases (show u = Value.ref a from r); rfl
  | ty n => cases (show u = Value.type n from r); rfl

section
variable {P : Program} {w : World} {H H' : Hp} {h h' : Heap} {a C dx : Addr} {fs fs' : List (Str × V)}
theorem ins_get (hok : HOk P w H h) (e : H a = some (.ins C dx fs)) : ∃ mA, ObjM h a dx C mA ∧ (∀ f, RelO (fs.lookup f) (mA f)) ∧ PySem.Within mA (fs.map (·.1)) ∧ fs.length ≤ 1000 ∧ H dx = some (.own a) := by
  obtain ⟨d, z, ne, ob, mA, n, r, q⟩ := (show ObjOk P w H h a (.ins C dx fs) from hok a _ e)
  exact ⟨mA, ⟨ob, n, ne⟩, r, q, z, d⟩
end

/-! ### what of the text a class must have -/
structure Cls (K : PySem.W.Frag) (C : Addr) : Prop where
  pg : PySem.W.plainGet K C Str.empty = true
  hd : PySem.W.hasDictIn K C = true
  po : PySem.W.plainOver K C = true
  sa : PySem.W.findIn K (.ref C) "__setattr__" = some (some (.builtin "object.__setattr__"))
theorem Cls.get {K : PySem.W.Frag} {C : Addr} (c : Cls K C) (f : Str) : PySem.W.plainGet K C f = true := c.pg
/-- no class of it has the name -/
def NoAttr (K : PySem.W.Frag) (C : Addr) (f : Str) : Prop := PySem.W.findIn K (.ref C) f = some none
theorem NoAttr.taker {K : PySem.W.Frag} {C : Addr} {f : Str} (n : NoAttr K C f) : PySem.W.takerIn K C f = some none := by
  unfold PySem.W.takerIn
  rw [show PySem.W.findIn K (.ref C) f = some none from n]
  rfl
/-- a constant of the class -/
structure Con (K : PySem.W.Frag) (C : Addr) (f : Str) (v : V) (u : Value) : Prop where
  at_ : PySem.W.findIn K (.ref C) f = some (some u)
  rel : RelV v u
  get : PySem.W.specialIn K u "__get__" = some none
  cp : PySem.W.copiedNames.contains f = false
/-- a method: a plain def of the class or of one above it -/
structure Meth (K : PySem.W.Frag) (C : Addr) (m : Str) (f : Addr) : Prop where
  at_ : PySem.W.findIn K (.ref C) m = some (some (.ref f))
  fn : PySem.W.isFn K (.ref f) = true
  kp : PySem.W.keepIn K (.ref f) = true

section
variable {X : Cx} {pins : List (Addr × Obj)} {σ : St} {H : Hp} {s : Shared} {a C dx : Addr} {fs : List (Str × V)} {f : Str} {v : V} {A : Around} {E : Value → Shared → Prop}

theorem getattr_ok {b : Bool} {Q : Value → Shared → Prop} (I : Inv X pins σ H s) (e : H a = some (.ins C dx fs)) (c : Cls X.K C) (n : NoAttr X.K C f) (l : fs.lookup f = some v)
    (h : ∀ u s', Inv X pins σ H s' → RelV v u → Q u s') : wpAny (model X.prog X.w) A (getAttr (.ref a) f b) Q E s := by
  obtain ⟨mA, O, r, _, _, _⟩ := ins_get I.hok e
  obtain ⟨u, hu, ru⟩ := RelO.some_of (v := v) (o := mA f) (by rw [← l]; exact r f)
  exact get_map I.kIn O (c.get f) c.hd n hu (handed_of ru) (h u _ (I.tok _) ru)

theorem getmeth_ok {m : Str} {g : Addr} {pl : Sem Bool} {Q : Value × List Value → Shared → Prop} (I : Inv X pins σ H s) (e : H a = some (.ins C dx fs)) (c : Cls X.K C) (k : Meth X.K C m g) (l : fs.lookup m = none)
    (h : Q (.ref g, [.ref a]) s) : wpAny (model X.prog X.w) A (getMethod (.ref a) m pl) Q E s := by
  obtain ⟨mA, O, r, _, _, _⟩ := ins_get I.hok e
  have hn : mA m = none := RelO.none_of (by rw [← l]; exact r m)
  exact get_meth I.kIn O (c.get m) k.at_ k.fn hn h

theorem setattr_ok {y : V} {u : Value} {Q : Unit → Shared → Prop} (I : Inv X pins σ H s) (e : H a = some (.ins C dx fs)) (c : Cls X.K C) (n : NoAttr X.K C f) (hl : fs.length < 1000) (ry : RelV y u)
    (h : ∀ s', Inv X pins σ (upd H a (.ins C dx (putF f y fs))) s' → Q () s') : wpAny (model X.prog X.w) A (setAttr (.ref a) f u) Q E s := by
  obtain ⟨mA, O, r, wi, _, ho⟩ := ins_get I.hok e
  have hz : (fs.map (·.1)).length ≤ sizeLine := by rw [List.length_map, sizeLine_eq]; omega
  refine set_map I.kIn O c.sa c.po n.taker c.hd wi hz fun h' O' sb => h _ ?_
  have hd : ∃ o, h'.get? dx = some o := let ⟨o, _, _, e', _⟩ := O'.ns; ⟨o, e'⟩
  refine I.write (x := a) (e := dx) (by rw [e]; exact True.intro) (.inr ho) (fun b q hb z => (sb.2 b hb).trans z) hd ?_
  refine ⟨by rw [upd_ne O.ne]; exact ho, ?_, O.ne, O'.obj, _, O'.ns, fun g => ?_, fun g hg => ?_⟩
  · have := length_putF f y fs; omega
  · show RelO ((putF f y fs).lookup g) (if g = f then some u else mA g)
    rw [lookup_putF]
    by_cases q : g = f
    · rw [if_pos q, if_pos q]; exact ry
    · rw [if_neg q, if_neg q]; exact r g
  · by_cases q : g = f
    · rw [q]; exact (keys_putF f y fs).1
    · refine (keys_putF f y fs).2 g (wi g fun z => hg ?_)
      show (if g = f then some u else mA g) = none
      rw [if_neg q]; exact z

/-- a new instance, tracked, without attributes -/
theorem Inv.made (I : Inv X pins σ H s) : Inv X pins σ (upd (upd H s.heap.objs.size (.own (s.heap.objs.size + 1))) (s.heap.objs.size + 1) (.ins C s.heap.objs.size []))
    { s with heap := (s.heap.push PySem.W.emptyDict).push (PySem.W.instObj C s.heap.objs.size) } := by
  have e1 : (s.heap.push PySem.W.emptyDict).get? s.heap.objs.size = some PySem.W.emptyDict := Heap.get?_push_size s.heap rfl
  have e2 : ((s.heap.push PySem.W.emptyDict).push (PySem.W.instObj C s.heap.objs.size)).get? (s.heap.objs.size + 1) = some (PySem.W.instObj C s.heap.objs.size) := by
    have := Heap.get?_push_size (s.heap.push PySem.W.emptyDict) (o := PySem.W.instObj C s.heap.objs.size) rfl
    rwa [Heap.size_push] at this
  have e3 : (s.heap.push PySem.W.emptyDict).Ns s.heap.objs.size (fun _ => none) := ⟨PySem.W.emptyDict, #[], _, e1, rfl, (fun e he => absurd he (by simp)), fun _ => rfl⟩
  have I1 := I.laid (a := s.heap.objs.size) (o := .own (s.heap.objs.size + 1)) (h' := s.heap.push PySem.W.emptyDict) (t' := s.toks) (fun b u q => Heap.get?_push_of_some _ q) (Nat.le_refl _) ⟨_, e1⟩
  refine I1.laid (a := s.heap.objs.size + 1) (o := .ins C s.heap.objs.size []) (t' := s.toks) (fun b u q => Heap.get?_push_of_some _ q) (Nat.le_of_eq (Heap.size_push _ _)) ?_
  have ne : s.heap.objs.size ≠ s.heap.objs.size + 1 := Nat.ne_of_lt (Nat.lt_succ_self _)
  refine ⟨by rw [upd_ne ne, upd_same], Nat.zero_le _, ne, e2, fun _ => none, (Heap.Ns1.of_empty e3).at fun o q => Heap.get?_push_of_some _ q, fun _ => True.intro, fun y hy => absurd rfl hy⟩

/-- e.f where nothing but the object is asked: through attributeBase (super) and the last hold -/
theorem attr_of {prog : Program} {w : World} {env : Env} {e : Expr} {f : Str} {pos : Pos} {s : Shared} {Q : Value → Shared → Prop} (hb : attributeBase e f env (eval e env) = eval e env)
    (h : wpAny (model prog w) A (eval e env) (fun o s₁ => wpAny (model prog w) A (getAttr o f true) Q E s₁) E s) : wpAny (model prog w) A (eval (.Attribute e f pos) env) Q E s :=
  Attribute_any_ h (by rw [arm_eval_Attribute, hb])
end

/-! ### readings and rules -/
/-- e.f, an attribute of the instance -/
def tFld (K : PySem.W.Frag) (ta : TE) (f : Str) : TE := fun σ H Q => ta σ H fun x H1 => ∃ a C dx fs v, x = .ref a ∧ H1 a = some (.ins C dx fs) ∧ Cls K C ∧ NoAttr K C f ∧ fs.lookup f = some v ∧ Q v H1
/-- e.f, a constant of the class -/
def tCon (K : PySem.W.Frag) (ta : TE) (f : Str) : TE := fun σ H Q => ta σ H fun x H1 => ∃ a C dx fs v u, x = .ref a ∧ H1 a = some (.ins C dx fs) ∧ Cls K C ∧ Con K C f v u ∧ fs.lookup f = none ∧ Q v H1
/-- e.f = value -/
def sFld (K : PySem.W.Frag) (ta tv : TE) (f : Str) : TS := fun D σ H => tv σ H fun y H1 => ta σ H1 fun x H2 => ∃ a C dx fs, x = .ref a ∧ H2 a = some (.ins C dx fs) ∧ Cls K C ∧ NoAttr K C f ∧ fs.length < 1000 ∧
  D.nx σ (upd H2 a (.ins C dx (putF f y fs)))
/-- an augmented operator on two values -/
def InOp (X : Cx) (op : Operator) (rd : V → V → Hp → VK → Prop) : Prop :=
  ∀ (pins : List (Addr × Obj)) (s : Shared) (σ : St) (H : Hp) (x y : V) (u v : Value) (Q : VK), Inv X pins σ H s → RelV x u → RelV y v → rd x y H Q → wpAny (model X.prog X.w) X.A (inplaceOp op u v) (EP X pins σ Q) X.xe s
/-- e.f op= value -/
def sFldAug (K : PySem.W.Frag) (ta tv : TE) (rd : V → V → Hp → VK → Prop) (f : Str) : TS := fun D σ H => ta σ H fun x H1 => ∃ a C dx fs v, x = .ref a ∧ H1 a = some (.ins C dx fs) ∧ Cls K C ∧ NoAttr K C f ∧ fs.lookup f = some v ∧
  tv σ H1 fun y H2 => rd v y H2 fun z H3 => ∃ dx' fs', H3 a = some (.ins C dx' fs') ∧ fs'.length < 1000 ∧ D.nx σ (upd H3 a (.ins C dx' (putF f z fs')))

section
variable {X : Cx} {o e value : Expr} {f : Str} {pos pos' tpos : Pos} {ta tv : TE}
theorem pe_fld (he : PE X e ta) (hb : attributeBase e f X.env (eval e X.env) = eval e X.env) : PE X (.Attribute e f pos) (tFld X.K ta f) := by
  intro pins s σ H Q I h
  refine attr_of hb (thn (he pins s σ H _ I h) fun u s1 ⟨x, H1, I1, rx, a, C, dx, fs, v, ex, ea, c, n, l, q⟩ => ?_)
  subst ex
  obtain rfl : u = Value.ref a := rx
  exact getattr_ok I1 ea c n l fun u' s2 I2 ru => ⟨v, H1, I2, ru, q⟩
theorem ps_fld (ha : PE X o ta) (hv : PE X value tv) (hs : swapsWith value (some (.Attribute o f pos')) pos.line X.env = pure false) : PS X (.Assign [.Attribute o f pos'] value pos) (sFld X.K ta tv f) := by
  intro pins s σ H D I h
  refine plainObj_wpAny_Assign_Attribute (thn (hv pins s σ H _ I h) fun u s1 ⟨y, H1, I1, ry, q⟩ => thn (ha pins s1 σ H1 _ I1 q) fun ov s2 ⟨x, H2, I2, rx, a, C, dx, fs, ex, ea, c, n, l, q2⟩ => ?_) hs
  subst ex
  obtain rfl : ov = Value.ref a := rx
  exact setattr_ok I2 ea c n l ry fun s3 I3 => ⟨σ, _, I3, q2⟩
def rAdd : V → V → Hp → VK → Prop := fun x y H Q => ∃ i j, x = .int i ∧ y = .int j ∧ Q (.int (i + j)) H
def rSub : V → V → Hp → VK → Prop := fun x y H Q => ∃ i j, x = .int i ∧ y = .int j ∧ Q (.int (i - j)) H
end

/-! ### isinstance -/
section
variable {X : Cx} {pins : List (Addr × Obj)} {σ : St} {H : Hp} {s : Shared} {A : Around} {E : Value → Shared → Prop} {Q : Value → Shared → Prop} {c : Value} {b : Bool}
/-- the type of a value, as the fragment's deciders take it; for an instance its class -/
inductive TyOf (K : PySem.W.Frag) (H : Hp) : V → Value → Prop where
  | non : TyOf K H .non (.type "NoneType")
  | bl (x : Bool) : TyOf K H (.bl x) (.type "bool")
  | int (i : Int) : TyOf K H (.int i) (.type "int")
  | str (x : Str) : TyOf K H (.str x) (.type "str")
  | flt (x : UInt64) : TyOf K H (.flt x) (.type "float")
  | lst {a : Addr} {xs : List V} (e : H a = some (.lst xs)) : TyOf K H (.ref a) (.type "list")
  | frz {a : Addr} {o : Obj} {xs : List V} (e : H a = some (.frz o (.lst xs))) : TyOf K H (.ref a) (.type "list")
  | tup {a : Addr} {xs : List V} (e : H a = some (.tup xs)) : TyOf K H (.ref a) (.type "tuple")
  | dK {a : Addr} {kvs : List (Key × V)} (e : H a = some (.dK kvs)) : TyOf K H (.ref a) (.type "dict")
  | dT {a : Addr} {kvs : List (List Key × V)} (e : H a = some (.dT kvs)) : TyOf K H (.ref a) (.type "dict")
  | ins {a C dx : Addr} {fs : List (Str × V)} (e : H a = some (.ins C dx fs)) (cl : Cls K C) (ha : PySem.W.findIn K (.ref C) "__class__" = some (some (.builtin "object.__class__")))
      (hn : PySem.W.specialIn K (.builtin "object.__class__") "__get__" = some (some (.builtin "getset_descriptor.__get__"))) (htk : PySem.W.takesIn K (.builtin "object.__class__") = some true)
      (hm : PySem.W.mroIn K C (.type "object") = some true) : TyOf K H (.ref a) (.ref C)
/-- isinstance(x, c) for one class c, a built-in or an own one: kitOne's answer -/
theorem isinst_ok {x : V} {u t : Value} (I : Inv X pins σ H s) (rx : RelV x u) (ty : TyOf X.K H x t) (e : PySem.W.kitOne X.K t c = some b) (h : ∀ tk, Q (.bool b) { s with toks := tk }) :
    wpAny (model X.prog X.w) A (call (.builtin "isinstance") [u, c]) Q E s := by
  cases ty with
  | non => cases (show u = Value.none from rx); exact PySem.W.kia_one PySem.W.kitx_none I.kIn True.intro e (fun z => nomatch z) h
  | bl y => cases (show u = Value.bool y from rx); exact PySem.W.kia_one PySem.W.kitx_bool I.kIn True.intro e (fun z => nomatch z) h
  | int i => obtain ⟨t, q⟩ := (show ∃ t, u = Value.int i t from rx); cases q; exact PySem.W.kia_one PySem.W.kitx_int I.kIn True.intro e (fun z => nomatch z) h
  | str y => obtain ⟨t, q⟩ := (show ∃ t, u = Value.str y t from rx); cases q; exact PySem.W.kia_one PySem.W.kitx_str I.kIn True.intro e (fun z => nomatch z) h
  | flt y => obtain ⟨t, q⟩ := (show ∃ t, u = Value.float y t from rx); cases q; exact PySem.W.kia_one PySem.W.kitx_float I.kIn True.intro e (fun z => nomatch z) h
  | @lst a xs ea =>
    cases (show u = Value.ref a from rx)
    obtain ⟨_, _, n, _, h1⟩ := (show ObjOk X.prog X.w H s.heap a (.lst xs) from I.hok a _ ea)
    exact PySem.W.kia_one PySem.W.kitx_list I.kIn ⟨_, h1, rfl⟩ e (fun z => nomatch z) h
  | @frz a ob xs ea =>
    cases (show u = Value.ref a from rx)
    obtain ⟨_, _, _, n, _, h1⟩ := (show ObjOk X.prog X.w H s.heap a (.frz ob (.lst xs)) from I.hok a _ ea)
    exact PySem.W.kia_one PySem.W.kitx_list I.kIn ⟨_, h1, rfl⟩ e (fun z => nomatch z) h
  | @tup a xs ea =>
    cases (show u = Value.ref a from rx)
    obtain ⟨_, _, _, p⟩ := (show ObjOk X.prog X.w H s.heap a (.tup xs) from I.hok a _ ea)
    obtain ⟨o, h1, h2, _⟩ := p
    exact PySem.W.kia_one PySem.W.kitx_tuple I.kIn ⟨o, h1, h2⟩ e (fun z => nomatch z) h
  | @dK a kvs ea =>
    cases (show u = Value.ref a from rx)
    obtain ⟨_, _, vs, _, p⟩ := (show ObjOk X.prog X.w H s.heap a (.dK kvs) from I.hok a _ ea)
    obtain ⟨o, es, ep, h1, h2, _⟩ := p
    exact PySem.W.kia_one PySem.W.kitx_dict I.kIn ⟨o, h1, h2.1⟩ e (fun z => nomatch z) h
  | @dT a kvs ea =>
    cases (show u = Value.ref a from rx)
    obtain ⟨_, _, xs, _, o, es, ep, h1, h2, _⟩ := (show ObjOk X.prog X.w H s.heap a (.dT kvs) from I.hok a _ ea)
    exact PySem.W.kia_one PySem.W.kitx_dict I.kIn ⟨o, h1, h2.1⟩ e (fun z => nomatch z) h
  | @ins a C dx fs ea cl ha hn htk hm =>
    cases (show u = Value.ref a from rx)
    obtain ⟨mA, O, _⟩ := ins_get I.hok ea
    obtain ⟨od, J, _⟩ := O.look
    exact PySem.W.kia_one (PySem.W.kitx_own (cl.get _) cl.hd ha hn htk hm) I.kIn J e (fun z => nomatch z) h
end
end L2

namespace L2
open PySem PySem.Spec PyProof.Rows

/-! ### room -/
structure Room (k : Nat) (A : Around) : Prop where
  hd : A.handled = none
  dp : A.depth + 3 * k + 5 < recursionLimit
  un : A.units + 16 * k + 200 < cLine
theorem Room.mono {j k : Nat} {A : Around} (r : Room k A) (h : j ≤ k) : Room j A := ⟨r.hd, by have := r.dp; omega, by have := r.un; omega⟩
theorem Room.deeper {k : Nat} {A : Around} (r : Room (k + 1) A) (env : Env) : Room k (A.deeper env) :=
  ⟨r.hd, by have := r.dp; show A.depth + 1 + 3 * k + 5 < _; omega, by have := r.un; show A.units + 3 + 16 * k + 200 < _; omega⟩
theorem Room.in1 {k : Nat} {A : Around} (r : Room (k + 1) A) : Room k A.in1 :=
  ⟨r.hd, by have := r.dp; show A.depth + 3 * k + 5 < _; omega, by have := r.un; show A.units + 1 + 16 * k + 200 < _; omega⟩
theorem make_depth {A : Around} {C : Addr} {us : List Value} {kw : List (Str × Value)} : (A.under (.builtin "type.__call__" ⟨.ref C :: us, kw⟩)).depth = A.depth + 1 := by
  first | rfl | simp [Around.under, Code.weight, Code.isCreation, Code.isGuard, Code.isCaller, Code.frames, Code.isFrame, guardIds]
theorem make_units {A : Around} {C : Addr} {us : List Value} {kw : List (Str × Value)} : (A.under (.builtin "type.__call__" ⟨.ref C :: us, kw⟩)).units = A.units + 1 := by
  first | rfl | simp [Around.under, Code.cUnits, Code.frames, Code.isFrame]
theorem Room.make {k : Nat} {A : Around} (r : Room (k + 1) A) (C : Addr) (us : List Value) (kw : List (Str × Value)) : Room k (A.under (.builtin "type.__call__" ⟨.ref C :: us, kw⟩)) :=
  ⟨r.hd, by have := r.dp; rw [make_depth]; omega, by have := r.un; rw [make_units]; omega⟩
theorem Room.depth {k : Nat} {A : Around} (r : Room k A) : A.depth < recursionLimit := by have := r.dp; omega
theorem Room.units {k : Nat} {A : Around} (r : Room k A) : A.units + 64 < cLine := by have := r.un; omega
/-! ### argument lists and displays -/
def tNil : TA := fun _ H Q => Q [] H
def tCons (ta : TE) (tr : TA) : TA := fun σ H Q => ta σ H fun x H1 => tr σ H1 fun xs H2 => Q (x :: xs) H2
section
variable {X : Cx} {e : Expr} {es : List Expr} {te : TE} {t : TA} {pos : Pos}
theorem pa_nil : PA X [] tNil := fun _ _ _ _ H Q I h => Calls.spliced_nil ⟨[], H, I, .nil, h⟩
theorem pa_cons (ha : PE X e te) (hr : PA X es t) (hs : starEach (e :: es) X.env = (false, eval e X.env) :: starEach es X.env := by rfl) : PA X (e :: es) (tCons te t) := by
  intro pos pins s σ H Q I h
  rw [hs]
  show wpAny _ _ (spliced ((false, eval e X.env) :: backTo pos (starEach es X.env))) _ _ s
  refine Calls.spliced_cons (thn (ha pins s σ H _ I h) fun u s1 ⟨x, H1, I1, r1, q1⟩ => ?_)
  exact thn (hr pos pins s1 σ H1 _ I1 q1) fun us s2 ⟨xs, H2, I2, r2, q2⟩ => ⟨x :: xs, H2, I2, .cons r1 r2, q2⟩

/-- a tuple, a list of written items -/
def tTup (t : TA) : TE := fun σ H Q => t σ H fun xs H1 => xs.length ≤ sizeLine ∧ ∀ p, H1 p = none → Q (.ref p) (upd H1 p (.tup xs))
def tLst (t : TA) : TE := fun σ H Q => t σ H fun xs H1 => xs.length ≤ sizeLine ∧ ∀ p, H1 p = none → Q (.ref p) (upd H1 p (.lst xs))
theorem pe_tup {x1} (h : PA X es t) : PE X (.Tuple es x1 pos) (tTup t) := by
  intro pins s σ H Q I hq
  refine wpAny_Tuple_spliced (thn (h pos pins s σ H _ I hq) fun us s1 ⟨xs, H1, I1, r, z, q⟩ => ⟨by rw [← r.length]; exact z, ?_⟩)
  have hf : H1 s1.heap.objs.size = none := I1.hok.fresh (Nat.le_refl _)
  refine ⟨.ref s1.heap.objs.size, upd H1 s1.heap.objs.size (.tup xs), I1.laid (t' := s1.toks) (fun b u e => Heap.get?_push_of_some _ e) (Nat.le_refl _) ?_, rfl, q _ hf⟩
  exact ⟨z, us, r, ⟨_, Heap.get?_push_size _ rfl, rfl, _, rfl⟩⟩
theorem pe_lst (h : PA X es t) : PE X (.List es pos) (tLst t) := by
  intro pins s σ H Q I hq
  refine wpAny_List_spliced (thn (h pos pins s σ H _ I hq) fun us s1 ⟨xs, H1, I1, r, z, q⟩ => ⟨by rw [← r.length]; exact z, ?_⟩)
  have hf : H1 s1.heap.objs.size = none := I1.hok.fresh (Nat.le_refl _)
  refine ⟨.ref s1.heap.objs.size, upd H1 s1.heap.objs.size (.lst xs), I1.laid (t' := s1.toks) (fun b u e => Heap.get?_push_of_some _ e) (Nat.le_refl _) ?_, rfl, q _ hf⟩
  exact ⟨z, us, 0, r, Heap.get?_push_size _ rfl⟩
end

/-! ### what a def promises -/
/-- a def's promise: the bound arguments in the parameters' order, the heap, the wanted end, the wanted exception -/
abbrev Sp := List V → Hp → VK → XK → Prop
/-- how an exception lies behind a call (file 08 gives it): the callers' frames, abstract heap and state ahead of the call, the wish, the exception, the state -/
abbrev CXT := List Env → Hp → Shared → XK → Value → Shared → Prop

/-- the state at a call -/
structure Env0 (P : Program) (w : World) (K : PySem.W.Frag) (mg : Str → Option Value) (base : Heap) (A : Around) (outer : List Env) (s : Shared) (H : Hp) : Prop where
  frames : A.frames = some outer
  mod : Mod K mg base
  bs : ∀ b o, base.get? b = some o → s.heap.get? b = some o ∧ H b = none
  bsz : base.objs.size ≤ s.heap.objs.size
  funs : s.heap.FunFrames base outer
  frf : ∀ b ∈ frs outer, H b = none
  hok : HOk P w H s.heap
  bare : AllBare s.gens
/-- a call's end -/
def CE (outer : List Env) (P : Program) (w : World) (H : Hp) (s : Shared) (Q : VK) (u : Value) (s' : Shared) : Prop :=
  ∃ v H', s'.os = s.os ∧ AllBare s'.gens ∧ Un (frs outer) [] H H' s.heap s'.heap ∧ HOk P w H' s'.heap ∧ RelV v u ∧ Q v H'
def CR (CX : CXT) (outer : List Env) (P : Program) (w : World) (H : Hp) (s : Shared) (Q : VK) (E : XK) (r : Result) (s' : Shared) : Prop :=
  match r with
  | .ok (.ret u) => CE outer P w H s Q u s'
  | .ok _ => False
  | .error e => CX outer H s E e s'
structure FnOk (P : Program) (w : World) (K : PySem.W.Frag) (mg : Str → Option Value) (base : Heap) (CX : CXT) (k : Nat) (f : Addr) (fd : FuncData) (ps : List Str) (sp : Sp) : Prop where
  len : ∀ vs H Q E, sp vs H Q E → vs.length = ps.length
  run : ∀ (A : Around) (outer : List Env) (s : Shared) (H : Hp) (args : Args) (us : List Value) (vs : List V) (Q : VK) (E : XK), Room k A → Env0 P w K mg base A outer s H → BindsTo s fd args (ps.zip us) → Vals vs us → sp vs H Q E →
    codeAny (model P w) A (.call (.ref f) args) (CR CX outer P w H s Q E) s
theorem FnOk.mono {P : Program} {w : World} {K : PySem.W.Frag} {mg : Str → Option Value} {base : Heap} {CX : CXT} {j k : Nat} {f : Addr} {fd : FuncData} {ps : List Str} {sp : Sp} (F : FnOk P w K mg base CX j f fd ps sp) (h : j ≤ k) :
    FnOk P w K mg base CX k f fd ps sp := ⟨F.len, fun A outer s H args us vs Q E hr => F.run A outer s H args us vs Q E (hr.mono h)⟩
/-- a weaker promise -/
theorem FnOk.imp {P : Program} {w : World} {K : PySem.W.Frag} {mg : Str → Option Value} {base : Heap} {CX : CXT} {k : Nat} {f : Addr} {fd : FuncData} {ps : List Str} {sp sp' : Sp} (F : FnOk P w K mg base CX k f fd ps sp)
    (h : ∀ vs H Q E, sp' vs H Q E → sp vs H Q E) : FnOk P w K mg base CX k f fd ps sp' :=
  ⟨fun vs H Q E q => F.len vs H Q E (h _ _ _ _ q), fun A outer s H args us vs Q E hr he hb hv hs => F.run A outer s H args us vs Q E hr he hb hv (h _ _ _ _ hs)⟩

theorem Env0.make {P : Program} {w : World} {K : PySem.W.Frag} {mg : Str → Option Value} {base : Heap} {A : Around} {outer : List Env} {s : Shared} {H : Hp} (e : Env0 P w K mg base A outer s H) (C : Addr) (us : List Value) (kw : List (Str × Value)) :
    Env0 P w K mg base (A.under (.builtin "type.__call__" ⟨.ref C :: us, kw⟩)) outer s H := ⟨by first | exact e.frames | (simpa [Around.under, Code.envs, Code.isFrame, pushEnvs] using e.frames), e.mod, e.bs, e.bsz, e.funs, e.frf, e.hok, e.bare⟩
theorem Env0.in1 {P : Program} {w : World} {K : PySem.W.Frag} {mg : Str → Option Value} {base : Heap} {A : Around} {outer : List Env} {s : Shared} {H : Hp} (e : Env0 P w K mg base A outer s H) :
    Env0 P w K mg base A.in1 outer s H := ⟨e.frames, e.mod, e.bs, e.bsz, e.funs, e.frf, e.hok, e.bare⟩

section
variable {X : Cx} {pins : List (Addr × Obj)} {σ : St} {H : Hp} {s s' : Shared}
/-- from a body: what a callee wants -/
theorem Inv.env0 (I : Inv X pins σ H s) : Env0 X.prog X.w X.K X.mg X.base X.A X.stack s H :=
  ⟨I.ok.frames, I.ok.mod, I.bs, Nat.le_trans I.ok.bsz I.sz, I.stack, I.stkFree, I.hok, I.bare⟩
/-- behind a call -/
theorem Inv.after {Q : VK} {u : Value} (I : Inv X pins σ H s) (h : CE X.stack X.prog X.w H s Q u s') : EP X pins σ Q u s' := by
  obtain ⟨v, H', os, bare, un, hok, r, q⟩ := h
  obtain ⟨hh, g, d, t, os'⟩ := s'
  obtain rfl : os' = s.os := os
  exact ⟨v, H', I.call (h' := hh) (g' := g) (d' := d) (t' := t) (ch := []) un hok bare (fun b z => absurd z (by simp)), r, q⟩
end

/-! ### calls -/
/-- f(..): the written arguments, then the defaults dvs; E: what is wanted of an exception -/
def tCall (sp : Sp) (dvs : List V) (E : XK) (t : TA) : TE := fun σ H Q => t σ H fun vs H1 => sp (vs ++ dvs) H1 Q E
/-- o.m(..) of an instance of the class at C -/
def tMeth (C : Addr) (m : Str) (sp : Sp) (dvs : List V) (E : XK) (ta : TE) (t : TA) : TE := fun σ H Q => ta σ H fun x H1 => ∃ a dx fs, x = .ref a ∧ H1 a = some (.ins C dx fs) ∧ fs.lookup m = none ∧
  t σ H1 fun vs H2 => sp (x :: (vs ++ dvs)) H2 Q E
/-- C(..): a new instance and its dict, then __init__ -/
def tMake (C : Addr) (sp : Sp) (dvs : List V) (E : XK) (t : TA) : TE := fun σ H Q => t σ H fun vs H1 => ∀ x dx, H1 x = none → H1 dx = none → dx ≠ x →
  sp (.ref x :: (vs ++ dvs)) (upd (upd H1 dx (.own x)) x (.ins C dx [])) (fun v H2 => v = .non ∧ Q (.ref x) H2) E

/-- how the parameters are bound: us the positional arguments, kw the keywords' values by name, ds the defaults that fill up -/
def Binds (K : PySem.W.Frag) (fd : FuncData) (ps : List Str) (ds : List Value) : Prop :=
  ∀ (s : Shared) (us : List Value), K.In s.heap → (us ++ ds).length = ps.length → BindsTo s fd ⟨us, []⟩ (ps.zip (us ++ ds))
/-- every parameter is given -/
theorem Binds.all {K : PySem.W.Frag} {fd : FuncData} {ps : List Str} (h : ∀ us : List Value, us.length = ps.length → bindArgs fd ⟨us, []⟩ = pure (ps.zip us)) : Binds K fd ps [] := fun s us _ hl => by
  rw [List.append_nil] at hl ⊢
  exact .of_eq (h us hl)

/-- an exception of a callee reaches what this body wants of exceptions -/
def Passes (CX : CXT) (X : Cx) (E : XK) : Prop := ∀ (pins : List (Addr × Obj)) (σ : St) (H : Hp) (s : Shared) (e : Value) (s' : Shared), Inv X pins σ H s → CX X.stack H s E e s' → X.xe e s'

section
variable {X : Cx} {CX : CXT} {k : Nat} {f C : Addr} {fd : FuncData} {ps : List Str} {sp : Sp} {dvs : List V} {ds : List Value} {E : XK} {x m : Str} {p pos apos : Pos} {e o : Expr} {es : List Expr} {ta : TE} {t : TA}

/-- the callee runs -/
theorem run_fn {pins : List (Addr × Obj)} {σ : St} {H : Hp} {s : Shared} {Q : VK} {us : List Value} {vs : List V} (F : FnOk X.prog X.w X.K X.mg X.base CX k f fd ps sp) (hr : Room k X.A) (hb : Binds X.K fd ps ds) (hd : Vals dvs ds) (hx : Passes CX X E)
    (I : Inv X pins σ H s) (r : Vals vs us) (h : sp (vs ++ dvs) H Q E) : wpAny (model X.prog X.w) X.A (call (.ref f) us) (EP X pins σ Q) X.xe s := by
  have r2 : Vals (vs ++ dvs) (us ++ ds) := r.append hd
  have hl : (us ++ ds).length = ps.length := by rw [← r2.length]; exact F.len _ _ _ _ h
  refine wpAny_call (codeAny_mono (F.run X.A X.stack s H ⟨us, []⟩ (us ++ ds) (vs ++ dvs) Q E hr I.env0 (hb s us I.kIn hl) r2 h) fun r s' hq => ?_)
  cases r with
  | error e => exact hx pins σ H s e s' I hq
  | ok fl =>
    cases fl with
    | ret u => exact I.after hq
    | next => exact False.elim hq
    | brk => exact False.elim hq
    | cont => exact False.elim hq

theorem pe_call (F : FnOk X.prog X.w X.K X.mg X.base CX k f fd ps sp) (hr : Room k X.A) (hg : Gl X x) (hm : X.mg x = some (.ref f)) (hk : PySem.W.keepIn X.K (.ref f) = true) (hb : Binds X.K fd ps ds) (hd : Vals dvs ds) (hx : Passes CX X E)
    (ha : PA X (e :: es) t) (hdb : (x == ("__debug__" : Str)) = false := by decide) (he : starEach (e :: es) X.env = (false, eval e X.env) :: starEach es X.env := by rfl) (hpl : (backTo pos (starEach es X.env)).any (·.1) = false := by rfl) :
    PE X (.Call (.Name x p) (e :: es) [] pos) (tCall sp dvs E t) := by
  intro pins s σ H Q I h
  refine wpAny_Call_Name_kw (ld_glob I hg hm ?_ hdb)
  refine PySem.W.callWith_K (h₀ := X.base) I.ok.mod.kin hk (thn (ha pos pins s σ H _ I h) fun us s1 ⟨vs, H1, I1, r, q⟩ => ⟨I1.kIn, ?_⟩) he hpl
  exact run_fn F hr hb hd hx I1 r q
/-- o.m(e, ..) -/
theorem pe_meth {pl : Sem Bool} (he : PE X o ta) (c : Cls X.K C) (hm : Meth X.K C m f) (F : FnOk X.prog X.w X.K X.mg X.base CX k f fd ps sp) (hr : Room k X.A) (hb : Binds X.K fd ps ds) (hd : Vals dvs ds) (hx : Passes CX X E) (ha : PA X (e :: es) t)
    (hst : starEach (e :: es) X.env = (false, eval e X.env) :: starEach es X.env := by rfl) (hpl : (backTo pos (starEach es X.env)).any (·.1) = false := by rfl)
    (ht : eval (.Call (.Attribute o m apos) (e :: es) [] pos) X.env = (do
      let ov ← eval o X.env
      standAt apos.atName
      let (f, first) ← holding [ov] (getMethod ov m pl)
      callWith pos f first (backTo pos (starEach (e :: es) X.env)) (backToKw pos (keywordEach [] X.env))) := by rfl) :
    PE X (.Call (.Attribute o m apos) (e :: es) [] pos) (tMeth C m sp dvs E ta t) := by
  intro pins s σ H Q I h
  refine PySem.W.methodCall_KW (pl := pl) (thn (he pins s σ H _ I h) fun u s1 ⟨x, H1, I1, rx, a, dx, fs, ex, ea, l, q⟩ => ?_) ht
  subst ex
  obtain rfl : u = Value.ref a := rx
  refine getmeth_ok I1 ea c hm l ?_
  refine PySem.W.callWith_K (first := [.ref a]) (h₀ := X.base) I.ok.mod.kin hm.kp (thn (ha pos pins s1 σ H1 _ I1 q) fun us s2 ⟨vs, H2, I2, r, q2⟩ => ⟨I2.kIn, ?_⟩) hst hpl
  exact run_fn (us := .ref a :: us) (vs := .ref a :: vs) F hr hb hd hx I2 (.cons rfl r) q2
/-- what a class must have to be made -/
structure Mk (K : PySem.W.Frag) (C f : Addr) : Prop where
  makes : PySem.W.makesIn K C = true
  init : PySem.W.findIn K (.ref C) "__init__" = some (some (.ref f))
  fn : PySem.W.isFn K (.ref f) = true
  kp : PySem.W.keepIn K (.ref C) = true

theorem run_make {pins : List (Addr × Obj)} {σ : St} {H : Hp} {s : Shared} {Q : VK} {us : List Value} {vs : List V} (M : Mk X.K C f) (F : FnOk X.prog X.w X.K X.mg X.base CX k f fd ps sp) (hr : Room (k + 1) X.A) (hb : Binds X.K fd ps ds) (hd : Vals dvs ds)
    (hx : Passes CX X E) (I : Inv X pins σ H s) (r : Vals vs us)
    (h : ∀ x dx, H x = none → H dx = none → dx ≠ x → sp (.ref x :: (vs ++ dvs)) (upd (upd H dx (.own x)) x (.ins C dx [])) (fun v H2 => v = .non ∧ Q (.ref x) H2) E) :
    wpAny (model X.prog X.w) X.A (call (.ref C) us) (EP X pins σ Q) X.xe s := by
  have hq := h (s.heap.objs.size + 1) s.heap.objs.size (I.hok.fresh (Nat.le_succ _)) (I.hok.fresh (Nat.le_refl _)) (Nat.ne_of_lt (Nat.lt_succ_self _))
  have I2 := Inv.made (C := C) I
  have r2 : Vals (V.ref (s.heap.objs.size + 1) :: (vs ++ dvs)) (Value.ref (s.heap.objs.size + 1) :: (us ++ ds)) := .cons rfl (r.append hd)
  have hl : (Value.ref (s.heap.objs.size + 1) :: us ++ ds).length = ps.length := by
    have e := r2.length
    rw [F.len _ _ _ _ hq] at e
    exact e.symm
  refine wpAny_call (make_map (f := f) I.kIn M.makes M.init (beq_iff_eq.mp M.fn) (codeAny_mono (F.run _ X.stack _ _ ⟨Value.ref (s.heap.objs.size + 1) :: us, []⟩ (Value.ref (s.heap.objs.size + 1) :: (us ++ ds)) _ _ E (hr.make C us [])
    (I2.env0.make C us []) (hb _ (Value.ref (s.heap.objs.size + 1) :: us) I2.kIn hl) r2 hq) fun r s' hq' => ?_))
  cases r with
  | error e => exact hx pins σ _ _ e s' I2 hq'
  | ok fl =>
    cases fl with
    | ret u =>
      obtain ⟨v, H', I3, rv, ev, q3⟩ := I2.after hq'
      subst ev
      exact ⟨rv, ⟨V.ref (s.heap.objs.size + 1), H', I3, rfl, q3⟩⟩
    | next => exact False.elim hq'
    | brk => exact False.elim hq'
    | cont => exact False.elim hq'
theorem pe_make (M : Mk X.K C f) (F : FnOk X.prog X.w X.K X.mg X.base CX k f fd ps sp) (hr : Room (k + 1) X.A) (hg : Gl X x) (hm : X.mg x = some (.ref C)) (hb : Binds X.K fd ps ds) (hd : Vals dvs ds) (hx : Passes CX X E)
    (ha : PA X (e :: es) t) (hdb : (x == ("__debug__" : Str)) = false := by decide) (he : starEach (e :: es) X.env = (false, eval e X.env) :: starEach es X.env := by rfl) (hpl : (backTo pos (starEach es X.env)).any (·.1) = false := by rfl) :
    PE X (.Call (.Name x p) (e :: es) [] pos) (tMake C sp dvs E t) := by
  intro pins s σ H Q I h
  refine wpAny_Call_Name_kw (ld_glob I hg hm ?_ hdb)
  refine PySem.W.callWith_K (h₀ := X.base) I.ok.mod.kin M.kp (thn (ha pos pins s σ H _ I h) fun us s1 ⟨vs, H1, I1, r, q⟩ => ⟨I1.kIn, ?_⟩) he hpl
  exact run_make M F hr hb hd hx I1 r q
end

/-! ### keywords -/
/-- the values of the keywords, from the left -/
def PK (X : Cx) (kws : List Keyword) (t : TA) : Prop :=
  ∀ (pos : Pos) (pins : List (Addr × Obj)) (s : Shared) (σ : St) (H : Hp) (Q : List V → Hp → Prop), Inv X pins σ H s → t σ H Q → wpAny (model X.prog X.w) X.A (evalAll ((backToKw pos (keywordEach kws X.env)).map (·.2))) (AP X pins σ Q) X.xe s
section
variable {X : Cx} {CX : CXT} {k : Nat} {f C : Addr} {fd : FuncData} {ps ks : List Str} {sp : Sp} {E : XK} {x m : Str} {p pos apos kpos : Pos} {e o : Expr} {es : List Expr} {kws : List Keyword} {te ta : TE} {t tk : TA} {nm : Option Str}
/-- how a call with keywords binds: g puts the positional values us and the keywords' values ws (names ks) in the parameters' order, defaults among them -/
structure KBinds (K : PySem.W.Frag) (fd : FuncData) (ps ks : List Str) (g : List Value → List Value → List Value) (gV : List V → List V → List V) : Prop where
  to : ∀ (s : Shared) (us ws : List Value), K.In s.heap → (g us ws).length = ps.length → BindsTo s fd ⟨us, ks.zip ws⟩ (ps.zip (g us ws))
  rel : ∀ {vs : List V} {us : List Value} {zs : List V} {ws : List Value}, Vals vs us → Vals zs ws → Vals (gV vs zs) (g us ws)
def tCallK (sp : Sp) (gV : List V → List V → List V) (E : XK) (t tk : TA) : TE := fun σ H Q => t σ H fun vs H1 => tk σ H1 fun zs H2 => sp (gV vs zs) H2 Q E
variable {g : List Value → List Value → List Value} {gV : List V → List V → List V}
end

/-! ### a def's body keeps its promise -/
/-- names: the parameters first -/
structure FnScope (N P : List Str) (sc : Scope) : Prop where
  kind : sc.kind = .function
  co : sc.isCoroutine = false
  gen : sc.isGenerator = false
  nd : N.Nodup
  pre : N.take P.length = P
  par : ∀ x ∈ P, sc.names.lookup x = some .local ∨ sc.names.lookup x = some .cell
  nofree : ∀ y ∈ sc.names, y.2 ≠ .free

theorem bindL_out {kindOf : Str → Option NameKind} {x : Str} : ∀ {binds : List (Str × Value)} {m : Str → Option Value}, (∀ v, (x, v) ∉ binds) → bindL kindOf binds m x = m x
  | [], _, _ => rfl
  | (n, v) :: r, m, h => by
    unfold bindL
    rw [bindL_out fun w hw => h w (List.mem_cons_of_mem _ hw)]
    split
    · have : x ≠ n := by rintro rfl; exact h v List.mem_cons_self
      simp [this]
    · rfl
theorem bindC_out {kindOf : Str → Option NameKind} {x : Str} : ∀ {binds : List (Str × Value)} {m : Str → Option Value}, (∀ v, (x, v) ∉ binds) → bindC kindOf binds m x = m x
  | [], _, _ => rfl
  | (n, v) :: r, m, h => by
    unfold bindC
    rw [bindC_out fun w hw => h w (List.mem_cons_of_mem _ hw)]
    split
    · rfl
    · have : x ≠ n := by rintro rfl; exact h v List.mem_cons_self
      simp [this]
theorem bindL_get {kindOf : Str → Option NameKind} {x : Str} {v : Value} : ∀ {P : List Str} {vs : List Value} {i : Nat} {m : Str → Option Value}, P.Nodup → P[i]? = some x → vs[i]? = some v → kindOf x = some .local →
    bindL kindOf (P.zip vs) m x = some v
  | [], _, _, _, _, h, _, _ => by simp at h
  | _ :: _, [], _, _, _, _, h, _ => by simp at h
  | p :: P, w :: vs, 0, m, nd, h1, h2, hk => by
    simp at h1 h2; subst h1; subst h2
    show bindL kindOf ((p, w) :: P.zip vs) m p = _
    unfold bindL
    rw [bindL_out fun v hv => (List.nodup_cons.mp nd).1 (List.of_mem_zip hv).1, if_pos hk]
    simp
  | p :: P, w :: vs, i + 1, m, nd, h1, h2, hk => by
    show bindL kindOf ((p, w) :: P.zip vs) m x = _
    unfold bindL
    exact bindL_get (i := i) (List.nodup_cons.mp nd).2 (by simpa using h1) (by simpa using h2) hk
theorem bindC_get {kindOf : Str → Option NameKind} {x : Str} {v : Value} : ∀ {P : List Str} {vs : List Value} {i : Nat} {m : Str → Option Value}, P.Nodup → P[i]? = some x → vs[i]? = some v → kindOf x ≠ some .local →
    bindC kindOf (P.zip vs) m x = some v
  | [], _, _, _, _, h, _, _ => by simp at h
  | _ :: _, [], _, _, _, _, h, _ => by simp at h
  | p :: P, w :: vs, 0, m, nd, h1, h2, hk => by
    simp at h1 h2; subst h1; subst h2
    show bindC kindOf ((p, w) :: P.zip vs) m p = _
    unfold bindC
    rw [bindC_out fun v hv => (List.nodup_cons.mp nd).1 (List.of_mem_zip hv).1, if_neg hk]
    simp
  | p :: P, w :: vs, i + 1, m, nd, h1, h2, hk => by
    show bindC kindOf ((p, w) :: P.zip vs) m x = _
    unfold bindC
    exact bindC_get (i := i) (List.nodup_cons.mp nd).2 (by simpa using h1) (by simpa using h2) hk

/-- the names' values at the entry -/
def start (N : List Str) (vs : List V) : St := vs.map some ++ List.replicate (N.length - vs.length) none

/-- the context of a def's body, at its entry; an exception leaves the frame, then lies as CX says -/
def cxOf (CX : CXT) (P : Program) (w : World) (K : PySem.W.Frag) (mg : Str → Option Value) (base : Heap) (N : List Str) (qual : Str) (scope : Scope) (f : Addr) (cd : Value) (A : Around) (outer : List Env) (s : Shared) (H : Hp) (E : XK) : Cx where
  prog := P
  w := w
  K := K
  mg := mg
  base := base
  A := A.deeper (envOfC qual scope s.heap.objs.size f cd)
  N := N
  s₀ := s
  H₀ := H
  env := envOfC qual scope s.heap.objs.size f cd
  outer := outer
  stack := envOfC qual scope s.heap.objs.size f cd :: outer
  ex := []
  calm := true
  fn := fun _ => true
  pn := []
  xe := fun e s' => wpAny (model P w) (A.deeper (envOfC qual scope s.heap.objs.size f cd)) (leaving (envOfC qual scope s.heap.objs.size f cd) e) (fun _ s'' => CX outer H s E e s'') (fun e' s'' => CX outer H s E e' s'') s'

theorem cell_has {sc : Scope} {n : Nat} {x : Str} (h : sc.names.lookup x = some .cell) : ∃ c, (cellsFrom n sc.names []).lookup x = some c := by
  have q := PySem.W.cellsFrom_some sc.names n [] (.inl h)
  exact Option.isSome_iff_exists.mp q

theorem inv_start {CX : CXT} {P : Program} {w : World} {K : PySem.W.Frag} {mg : Str → Option Value} {base : Heap} {N ps : List Str} {qual : Str} {scope : Scope} {f : Addr} {cd : Value} {A : Around} {outer : List Env} {s s1 : Shared} {H : Hp} {E : XK} {us : List Value} {vs : List V}
    (S : FnScope N ps scope) (hd : A.handled = none) (e0 : Env0 P w K mg base A outer s H) (hl : vs.length = ps.length) (r : Vals vs us)
    (x : InCallC s s.heap.objs.size (bindL (envOfC qual scope s.heap.objs.size f cd).kindOf (ps.zip us) fun _ => none) (cellsFrom (s.heap.objs.size + 1) scope.names []) (bindC (envOfC qual scope s.heap.objs.size f cd).kindOf (ps.zip us) fun _ => none) s1) :
    Inv (cxOf CX P w K mg base N qual scope f cd A outer s H E) [] (start N vs) H s1 := by
  have hpl : ps.length ≤ N.length := by have := congrArg List.length S.pre; rw [List.length_take] at this; omega
  obtain ⟨h1, tk, rfl, hk⟩ := x.done
  have noA : ∀ b : Addr, b ∉ (cxOf CX P w K mg base N qual scope f cd A outer s H E).ex := fun b z => absurd (show b ∈ ([] : List Addr) from z) (by simp)
  refine ⟨⟨e0.mod, S.kind, rfl, rfl, Nat.le_refl _, fun y z c h1 h2 => ?_, fun y hy => ?_, fun y c _ h => ?_, fun _ => hd, Around.frames_deeper e0.frames, .inr ⟨rfl, rfl⟩, fun b z => absurd z (noA b), e0.bs, e0.bsz, fun b _ _ => noA b, fun b z => absurd z (noA b), e0.funs, e0.frf⟩,
    rfl, e0.bare, Un.kept hk, ⟨_, x.toInCall.ns, fun i y v h1 h2 h3 => ?_⟩, fun y c h => ⟨_, x.cell y c h⟩, e0.hok.fresh (Nat.le_refl _), fun y c h => ?_, fun p hp => absurd (show p ∈ ([] : List (Addr × Obj)) from hp) (by simp), e0.hok.kept hk, ?_⟩
  · exact name_of_addr x.apart (PySem.mem_of_lookup h1) (PySem.mem_of_lookup h2)
  · have hy : scope.names.lookup y = some .cell ∨ scope.names.lookup y = some .free := hy
    rcases hy with hy | hy
    · exact cell_has hy
    · exact absurd rfl (S.nofree _ (PySem.mem_of_lookup hy))
  · exact Nat.le_of_lt (x.above y c (PySem.mem_of_lookup h))
  · have hi : i < vs.length := by
      unfold start at h2
      by_cases hi : i < vs.length
      · exact hi
      · rw [List.getElem?_append_right (by simpa using hi)] at h2
        rw [List.getElem?_replicate] at h2
        split at h2 <;> cases h2
    have ha : vs[i]? = some v := by
      unfold start at h2
      rw [List.getElem?_append_left (by simpa using hi), List.getElem?_map] at h2
      cases e : vs[i]? with
      | none => rw [e] at h2; cases h2
      | some a => rw [e] at h2; cases h2; rfl
    obtain ⟨u, hu, rv⟩ := r.get ha
    have hp : ps[i]? = some y := by
      rw [← S.pre, List.getElem?_take_of_lt (by omega)]; exact h1
    have ndP : ps.Nodup := by rw [← S.pre]; exact S.nd.sublist (List.take_sublist _ _)
    refine ⟨u, rv, ?_⟩
    rcases S.par y (List.mem_of_getElem? hp) with k | k
    · exact .inl ⟨k, bindL_get ndP hp hu k⟩
    · obtain ⟨c, e⟩ := cell_has (n := s.heap.objs.size + 1) k
      refine .inr ⟨.inl k, c, e, ?_⟩
      have q := x.cell y c e
      rw [bindC_get ndP hp hu (by show scope.names.lookup y ≠ _; rw [k]; decide)] at q
      exact q
  · exact e0.hok.fresh (Nat.le_of_lt (x.above y c (PySem.mem_of_lookup h)))
  · unfold start
    show _ = N.length
    rw [List.length_append, List.length_map, List.length_replicate]
    omega

/-- THE RULE: a def (or a method) of the text, by its body. The body's reading t is chosen for each entry; it is run at the parameters' values -/
theorem fn_of {CX : CXT} {P : Program} {w : World} {K : PySem.W.Frag} {mg : Str → Option Value} {base : Heap} {k : Nat} {f : Addr} {name qual : Str} {params : Arguments} {body : List Stmt} {scope : Scope} {dV kV doc pm cdv ct oc : Value} {an od : Option Addr}
    {osl : Array (Option Value)} {N ps : List Str} {sp : Sp} (lk : K.lookup f = some ⟨oc, od, .func (PySem.W.fnOf name qual params body scope dV kV doc pm an cdv ct), osl⟩) (hcd : PySem.W.codeIn K cdv qual = true) (S : FnScope N ps scope)
    (len : ∀ vs H Q E, sp vs H Q E → vs.length = ps.length)
    (hbody : ∀ (A : Around) (outer : List Env) (s : Shared) (H : Hp) (vs : List V) (Q : VK) (E : XK), Room k (A.deeper (envOfC qual scope s.heap.objs.size f cdv)) → sp vs H Q E →
      ∃ t, PSs (cxOf CX P w K mg base N qual scope f cdv A outer s H E) body t ∧ t { nx := fun _ H' => Q .non H', rt := Q } (start N vs) H) :
    FnOk P w K mg base CX (k + 1) f (PySem.W.fnOf name qual params body scope dV kV doc pm an cdv ct) ps sp := by
  refine ⟨len, fun A outer s H args us vs Q E hr e0 hb r hsp => ?_⟩
  have hl := len _ _ _ _ hsp
  have KX : K.In s.heap := e0.mod.kin.keeps fun b o e => (e0.bs b o e).1
  have lim : s.heap.NoLimit := e0.mod.nolimit.keeps fun b o e => (e0.bs b o e).1
  have hkind : ∀ y ∈ ps.zip us, scope.names.lookup y.1 = some .local ∨ (scope.names.lookup y.1 = some .cell ∧ ((cellsFrom (s.heap.objs.size + 1) scope.names []).lookup y.1).isSome = true) := fun ⟨n, v⟩ hy => by
    rcases S.par n (List.of_mem_zip hy).1 with q | q
    · exact .inl q
    · exact .inr ⟨q, PySem.W.cellsFrom_some _ _ _ (.inl q)⟩
  refine codeAny_call_function hr.depth (KX _ _ lk) rfl S.co S.gen rfl (PySem.W.codeRec_of KX hcd) (hb _ _ _ _ ?_)
  refine wpAny_newFunctionEnv_cells S.kind hkind fun env he s1 x => ?_
  subst he
  refine ⟨lim.keeps x.toInCall.keep, codeAny_func ?_⟩
  obtain ⟨t, ht, hq⟩ := hbody A outer s H vs Q E (hr.deeper _) hsp
  have I : Inv (cxOf CX P w K mg base N qual scope f cdv A outer s H E) [] (start N vs) H s1 := inv_start S hr.hd e0 hl r x
  refine wpAny_mono (ht [] s1 (start N vs) H _ I hq) (fun fl s' hs => ?_) fun e s' hs => hs
  have fin : ∀ {σ' : St} {H' : Hp} {v : V} {u : Value}, Inv (cxOf CX P w K mg base N qual scope f cdv A outer s H E) [] σ' H' s' → RelV v u → Q v H' → CE outer P w H s Q u s' :=
    fun {σ' H' v u} J rv q => ⟨v, H', J.os, J.bare, J.base, J.hok, rv, q⟩
  cases fl with
  | ret u =>
    obtain ⟨v, σ', H', J, rv, q⟩ := hs
    exact fin J rv q
  | next =>
    obtain ⟨σ', H', J, q⟩ := hs
    exact fin (v := V.non) (u := Value.none) J rfl q
  | brk =>
    obtain ⟨_, _, _, q⟩ := hs
    exact False.elim q
  | cont =>
    obtain ⟨_, _, _, q⟩ := hs
    exact False.elim q
end L2

namespace L2
open PySem PySem.Spec PyProof.Rows
section
variable {X : Cx} {x : Str} {p pos : Pos} {e : Expr} {es : List Expr} {t : TA} {id T : String} {r : List V → Hp → VK → Prop}

def tCB (r : List V → Hp → VK → Prop) (t : TA) : TE := fun σ H Q => t σ H fun vs H1 => r vs H1 Q
/-- f(e, ..), f a built-in function -/
theorem pe_callB (hc : CallR X (.builtin id) r) (hg : Gl X x) (hm : X.mg x = none) (hv : bootBuiltins x = some (.builtin id)) (ha : PA X (e :: es) t) (hn : x ≠ "__name__" := by decide) (hdb : (x == ("__debug__" : Str)) = false := by decide)
    (he : starEach (e :: es) X.env = (false, eval e X.env) :: starEach es X.env := by rfl) (hpl : (backTo pos (starEach es X.env)).any (·.1) = false := by rfl) : PE X (.Call (.Name x p) (e :: es) [] pos) (tCB r t) := by
  intro pins s σ H Q I h
  refine wpAny_Call_Name_kw (ld_blt I hg hm hv ?_ hn hdb)
  exact PyProof.Rows.callWith_builtin1 (thn (ha pos pins s σ H _ I h) fun us s1 ⟨vs, H1, I1, r1, q1⟩ => hc pins s1 σ H1 vs us Q I1 r1 q1) he hpl
/-- T(e, ..), T a built-in type -/
theorem pe_callTy (hc : CallR X (.type T) r) (hg : Gl X x) (hm : X.mg x = none) (hv : bootBuiltins x = some (.type T)) (ha : PA X (e :: es) t) (hn : x ≠ "__name__" := by decide) (hdb : (x == ("__debug__" : Str)) = false := by decide)
    (he : starEach (e :: es) X.env = (false, eval e X.env) :: starEach es X.env := by rfl) (hpl : (backTo pos (starEach es X.env)).any (·.1) = false := by rfl) : PE X (.Call (.Name x p) (e :: es) [] pos) (tCB r t) := by
  intro pins s σ H Q I h
  refine wpAny_Call_Name_kw (ld_blt I hg hm hv ?_ hn hdb)
  exact PyProof.Rows.callWith_type1 (thn (ha pos pins s σ H _ I h) fun us s1 ⟨vs, H1, I1, r1, q1⟩ => hc pins s1 σ H1 vs us Q I1 r1 q1) he hpl
end
end L2

namespace HT
open PySem PyProof.Rows

/-- t < u of tuples of ints -/
def lexLt : List Int → List Int → Bool
  | [], [] => false
  | [], _ :: _ => true
  | _ :: _, [] => false
  | x :: xs, y :: ys => if x = y then lexLt xs ys else decide (x < y)
section
open PySem.SeqAt
open PySem.AutoSeq1 (wpAny_loadPart')
open PySem.MeetsSeq PySem.MeetsSeq2 PySem.MeetsSeq3

end

section
variable {prog : Program} {w : World} {A : Around} {E : Value → Shared → Prop} {s : Shared}

/-! ### t[a:b], not the whole -/
/-- a slice's bound as a place among n (d where it is left out) -/
def sIx (n d : Nat) : Option Int → Nat
  | none => d
  | some v => if v < 0 then (v + (n : Int)).toNat else min v.toNat n
theorem sIx_none (n d : Nat) : sIx n d none = d := rfl
theorem sIx_nat (n d k : Nat) : sIx n d (some (k : Int)) = min k n := by
  show (if (k : Int) < 0 then ((k : Int) + (n : Int)).toNat else min (k : Int).toNat n) = min k n
  rw [if_neg (by omega), Int.toNat_natCast]
theorem sIx_le (n d : Nat) (hd : d ≤ n) (o : Option Int) : sIx n d o ≤ n := by
  cases o with
  | none => exact hd
  | some v =>
    show (if v < 0 then (v + (n : Int)).toNat else min v.toNat n) ≤ n
    by_cases hv : v < 0
    · rw [if_pos hv]; omega
    · rw [if_neg hv]; exact Nat.min_le_right _ _
theorem clip_eq (v : Int) (n d : Nat) : (if v < 0 then max (v + (n : Int)) 0 else min v (n : Int)) = ((sIx n d (some v) : Nat) : Int) := by
  show (if v < 0 then max (v + (n : Int)) 0 else min v (n : Int)) = (((if v < 0 then (v + (n : Int)).toNat else min v.toNat n) : Nat) : Int)
  by_cases hv : v < 0
  · simp only [if_pos hv]; omega
  · simp only [if_neg hv]; omega
theorem adjust_gen (lo hi : Option Int) (n : Nat) : Builtin.Slice.sliceAdjust lo hi 1 (n : Int) = (((sIx n 0 lo : Nat) : Int), ((sIx n n hi : Nat) : Int)) := by
  have h1 : ¬ ((1 : Int) < 0) := by omega
  unfold Builtin.Slice.sliceAdjust
  simp only [h1, if_false]
  refine Prod.ext ?_ ?_
  · cases lo with
    | none => rfl
    | some v => exact clip_eq v n 0
  · cases hi with
    | none => rfl
    | some v => exact clip_eq v n n
theorem places_gen (i j : Nat) : Builtin.Slice.slicePlaces (i : Int) (j : Int) 1 = j - i := by
  unfold Builtin.Slice.slicePlaces
  have h1 : (1 : Int) > 0 := by omega
  simp only [h1, if_true, Int.ediv_one]
  split <;> omega
theorem slicePart_ {v : Value} {o : Option Int} {Q : Option Int → Shared → Prop} (p : IsPart v o) (h : Q o s) : wpAny (model prog w) A (Builtin.Slice.slicePartIndex v) Q E s := by
  cases p with
  | none => exact slicePart_none h
  | int i t => exact slicePart_int h
theorem sliceApplied_gen {sl : Addr} {vl vu : Value} {lo hi : Option Int} {n : Nat} {Q : Int × Int × Nat → Shared → Prop} (hs : s.heap.IsSliceOf sl vl vu .none) (pl : IsPart vl lo) (pu : IsPart vu hi)
    (h : Q (((sIx n 0 lo : Nat) : Int), 1, sIx n n hi - sIx n 0 lo) s) : wpAny (model prog w) A (Builtin.Slice.sliceApplied (.ref sl) (pure (n : Int))) Q E s := by
  obtain ⟨os, hos, hcs, hds⟩ := id hs
  unfold Builtin.Slice.sliceApplied Builtin.Slice.sliceFields
  refine wpAny_bind (wpAny_bind (wpAny_field hos hds (x := vl) rfl (wpAny_bind (wpAny_field hos hds (x := vu) rfl (wpAny_bind (wpAny_field hos hds (x := .none) rfl (wpAny_pure ?_)))))))
  refine wpAny_bind (slicePart_none ?_)
  show wpAny _ _ (if ((1 : Int) == 0) = true then _ else _) _ _ s
  rw [if_neg (by decide)]
  refine wpAny_bind (slicePart_ pl (wpAny_bind (slicePart_ pu (wpAny_bind (wpAny_pure ?_)))))
  show wpAny _ _ (match Builtin.Slice.sliceAdjust lo hi 1 (n : Int) with | (lo, hi) => pure (lo, (1 : Int), Builtin.Slice.slicePlaces lo hi 1)) _ _ s
  rw [adjust_gen lo hi n]
  show wpAny _ _ (pure (((sIx n 0 lo : Nat) : Int), (1 : Int), Builtin.Slice.slicePlaces ((sIx n 0 lo : Nat) : Int) ((sIx n n hi : Nat) : Int) 1)) _ _ s
  rw [places_gen]
  exact wpAny_pure h
theorem pick_gen (xs : Array Value) (i k : Nat) : ((List.range k).filterMap fun (m : Nat) => xs[((i : Int) + (m : Int) * 1).toNat]?).toArray = ((xs.toList.drop i).take k).toArray := by
  have e : (fun (m : Nat) => xs[((i : Int) + (m : Int) * 1).toNat]?) = fun m => xs[i + m]? := by
    funext m
    have : ((i : Int) + (m : Int) * 1).toNat = i + m := by omega
    rw [this]
  rw [e]
  have := pick_run xs i k
  rw [List.filterMap_map] at this
  have e2 : ((fun x => xs[x]?) ∘ fun x => i + x) = fun m => xs[i + m]? := rfl
  rw [e2] at this
  rw [this]

theorem getItem_tuple_cut {t sl : Addr} {items : Array Value} {vl vu : Value} {lo hi : Option Int} {Q : Value → Shared → Prop} (ht : IsTup s.heap t items) (hs : s.heap.IsSliceOf sl vl vu .none) (pl : IsPart vl lo) (pu : IsPart vu hi)
    (hw : ¬ (sIx items.size 0 lo = 0 ∧ sIx items.size items.size hi = items.size))
    (h : Q (.ref s.heap.objs.size) { s with heap := s.heap.push { cls := .type "tuple", data := .seq ((items.toList.drop (sIx items.size 0 lo)).take (sIx items.size items.size hi - sIx items.size 0 lo)).toArray } })
    (hsz : items.size ≤ sizeLine) : wpAny (model prog w) A (getItem (.ref t) (.ref sl)) Q E s := by
  have htake : sizeOk (.seq ((items.toList.drop (sIx items.size 0 lo)).take (sIx items.size items.size hi - sIx items.size 0 lo)).toArray) := by
    show ((items.toList.drop (sIx items.size 0 lo)).take (sIx items.size items.size hi - sIx items.size 0 lo)).toArray.size ≤ sizeLine
    rw [List.size_toArray, List.length_take, List.length_drop, Array.length_toList]
    omega
  have hj : sIx items.size items.size hi ≤ items.size := sIx_le _ _ (Nat.le_refl _) hi
  obtain ⟨os, hos, hcs, hds⟩ := id hs
  have hTs : s.TypeIs (.ref sl) "slice" := ⟨os, hos, hcs⟩
  unfold getItem
  try with_reducible refine wpAny_holding ?_
  first | refine wpAny_bind (wpAny_pure ?_) | skip
  refine wpAny_bind (wpAny_sequenceKey ht.typeIs (by decide) ?_)
  refine wpAny_bind (wpAny_callSpecial?_slot (name := Str.ofString "__getitem__") ht.typeIs PyProof.Rows.slot_tuple_getitem
    (wpAny_call_entry PyProof.Rows.slot_tuple_getitem ht.typeIs entry_tuple_getitem ?_ (args_tuple_getitem _ _)))
  show wpAny _ _ (Builtin.Tuple.tupleItemsOf (.ref t) >>= _) _ _ s
  refine wpAny_bind (tupleItemsOf_ ht ?_)
  refine wpAny_bind (wpAny_typeOf hTs ?_)
  rw [if_pos (by decide)]
  refine wpAny_bind (sliceApplied_gen hs pl pu ?_)
  have hno : ¬ ((((sIx items.size 0 lo : Nat) : Int) == 0 && (1 : Int) == 1 && (sIx items.size items.size hi - sIx items.size 0 lo) == items.size) = true) := by
    intro q
    rw [Bool.and_eq_true, Bool.and_eq_true] at q
    have q1 : ((sIx items.size 0 lo : Nat) : Int) = 0 := eq_of_beq q.1.1
    have q2 : sIx items.size items.size hi - sIx items.size 0 lo = items.size := eq_of_beq q.2
    exact hw ⟨by omega, by omega⟩
  show wpAny _ _ (if (((sIx items.size 0 lo : Nat) : Int) == 0 && (1 : Int) == 1 && (sIx items.size items.size hi - sIx items.size 0 lo) == items.size) = true then _ else _) _ _ s
  rw [if_neg hno, pick_gen]
  first
    | exact wpAny_bind (m := Builtin.Tuple.tupleExact _) (wpAny_newObj_type (wpAny_pure ⟨_, rfl, wpAny_pure h⟩) htake)
    | exact wpAny_bind (m := Builtin.Tuple.tupleExact _) (wpAny_newObj_type (wpAny_bind (wpAny_pure (wpAny_pure ⟨_, rfl, wpAny_pure h⟩))) htake)
    | exact wpAny_bind (wpAny_bind (m := Builtin.Tuple.tupleExact _) (wpAny_newObj_type (wpAny_pure (wpAny_pure ⟨_, rfl, wpAny_pure h⟩)) htake))
    | exact wpAny_bind (wpAny_bind (m := Builtin.Tuple.tupleExact _) (wpAny_newObj_type (wpAny_pure ⟨_, rfl, wpAny_pure h⟩) htake))
end
end HT

namespace L2
open PySem PySem.Spec PyProof.Rows

/-! ### the parts of a slice -/
abbrev TO := St → Hp → (Option Int → Hp → Prop) → Prop
/-- a slice's part (left out, or an int) -/
def PO (X : Cx) (e : Option Expr) (t : TO) : Prop :=
  ∀ (pins : List (Addr × Obj)) (s : Shared) (σ : St) (H : Hp) (Q : Option Int → Hp → Prop), Inv X pins σ H s → t σ H Q →
    wpAny (model X.prog X.w) X.A (evalPart e X.env) (fun u s' => ∃ o H', Inv X pins σ H' s' ∧ IsPart u o ∧ Q o H') X.xe s
def tNoPart : TO := fun _ H Q => Q none H
def tPart (t : TE) : TO := fun σ H Q => t σ H fun x H1 => ∃ i, x = .int i ∧ Q (some i) H1

section
variable {X : Cx} {e : Expr} {te : TE} {lo hi : Option Expr} {tl th : TO} {pos p2 : Pos}

theorem po_none : PO X none tNoPart := by
  intro pins s σ H Q I h
  rw [evalPart_none]
  exact wpAny_pure ⟨none, H, I, .none, h⟩
theorem po_some (h : PE X e te) : PO X (some e) (tPart te) := by
  intro pins s σ H Q I hw
  rw [evalPart_some]
  refine thn (h pins s σ H _ I hw) fun u s1 ⟨x, H1, I1, r1, q1⟩ => ?_
  obtain ⟨i, rfl, q⟩ := q1
  obtain ⟨t, rfl⟩ := r1
  exact ⟨some i, H1, I1, .int i t, q⟩

/-- what a slice of a value is, by values: the slice object stands at sl -/
def SlR (X : Cx) (r : V → Option Int → Option Int → Hp → VK → Prop) : Prop :=
  ∀ (pins : List (Addr × Obj)) (s : Shared) (σ : St) (H : Hp) (x : V) (v vl vu : Value) (lo hi : Option Int) (sl : Addr) (Q : VK), Inv X pins σ H s → RelV x v → s.heap.IsSliceOf sl vl vu .none → IsPart vl lo → IsPart vu hi → r x lo hi H Q →
    ∃ T id, typeLookup (.type T) "__getitem__" = pure (some (.builtin id)) ∧ s.TypeIs v T ∧ wpAny (model X.prog X.w) X.A (getItem v (.ref sl)) (EP X pins σ Q) X.xe s
theorem SlR.or {r r' : V → Option Int → Option Int → Hp → VK → Prop} (h : SlR X r) (h' : SlR X r') : SlR X (fun x lo hi H Q => r x lo hi H Q ∨ r' x lo hi H Q) := by
  intro pins s σ H x v vl vu lo hi sl Q I rx hs pl pu q
  rcases q with q | q
  · exact h pins s σ H x v vl vu lo hi sl Q I rx hs pl pu q
  · exact h' pins s σ H x v vl vu lo hi sl Q I rx hs pl pu q
def tSl (r : V → Option Int → Option Int → Hp → VK → Prop) (te : TE) (tl th : TO) : TE := fun σ H Q => te σ H fun x H1 => tl σ H1 fun l H2 => th σ H2 fun u H3 => r x l u H3 Q
/-- a[lo:hi], any a -/
theorem pe_slice {r : V → Option Int → Option Int → Hp → VK → Prop} (hr : SlR X r) (he : PE X e te) (hl : PO X lo tl) (hu : PO X hi th) : PE X (.Subscript e (.Slice lo hi none p2) pos) (tSl r te tl th) := by
  intro pins s σ H Q I h
  refine Subscript_ (thn (he pins s σ H _ I h) fun v s1 ⟨x, H1, I1, r1, q1⟩ => ?_)
  refine wpAny_Slice (thn (hl pins s1 σ H1 _ I1 q1) fun vl s2 ⟨l, H2, I2, pl, q2⟩ => thn (hu pins s2 σ H2 _ I2 q2) fun vu s3 ⟨u, H3, I3, pu, q3⟩ => ?_)
  rw [evalPart_none]
  refine wpAny_pure ?_
  have I4 : Inv X pins σ H3 { s3 with heap := s3.heap.push { cls := .type "slice", data := .fields #[vl, vu, .none] } } := I3.kept (t' := s3.toks) fun b ob q => Heap.get?_push_of_some _ q
  obtain ⟨T, id, hT, ht, hg⟩ := hr pins { s3 with heap := s3.heap.push { cls := .type "slice", data := .fields #[vl, vu, .none] } } σ H3 x v vl vu l u s3.heap.objs.size Q I4 r1 (Heap.IsSliceOf.new ..) pl pu q3
  show wpAny (model X.prog X.w) X.A (subscriptTail e (.Slice lo hi none p2) v (.ref s3.heap.objs.size)) (EP X pins σ Q) X.xe { s3 with heap := s3.heap.push { cls := .type "slice", data := .fields #[vl, vu, .none] } }
  exact tail_any (ops := [.ref s3.heap.objs.size, v]) ht hT hg (by with_unfolding_all rfl)

/-- the items of xs[lo:hi] -/
def cutV (xs : List V) (lo hi : Option Int) : List V := (xs.drop (HT.sIx xs.length 0 lo)).take (HT.sIx xs.length xs.length hi - HT.sIx xs.length 0 lo)
theorem cutV_length (xs : List V) (lo hi : Option Int) : (cutV xs lo hi).length ≤ xs.length := by
  unfold cutV
  rw [List.length_take, List.length_drop]
  omega
/-- t[lo:hi], not the whole of it (the whole would be t itself) -/
def rSlT (K : PySem.W.Frag) : V → Option Int → Option Int → Hp → VK → Prop := fun x lo hi H Q => ∃ a xs, x = .ref a ∧ SqT K H a xs ∧
  ¬ (HT.sIx xs.length 0 lo = 0 ∧ HT.sIx xs.length xs.length hi = xs.length) ∧ ∀ p, H p = none → Q (.ref p) (upd H p (.tup (cutV xs lo hi)))
theorem sl_tup : SlR X (rSlT X.K) := by
  intro pins s σ H x v vl vu lo hi sl Q I rx hs pl pu h
  obtain ⟨a, xs, rfl, hx, hw, q⟩ := h
  cases rx
  obtain ⟨its, r, ht, hz⟩ := I.tuple hx
  have hlen : its.toArray.size = xs.length := by rw [List.size_toArray]; exact r.length.symm
  refine ⟨"tuple", _, PyProof.Rows.slot_tuple_getitem.lookup, ht.typeIs, ?_⟩
  refine HT.getItem_tuple_cut ht hs pl pu (by rw [hlen]; exact hw) ?_ (by rw [hlen]; exact hz)
  rw [hlen]
  refine ⟨.ref s.heap.objs.size, _, I.laid (t' := s.toks) (o := .tup (cutV xs lo hi)) (fun b ob q => Heap.get?_push_of_some _ q) (Nat.le_refl _) ?_, rfl, q _ (I.hok.fresh (Nat.le_refl _))⟩
  exact ⟨Nat.le_trans (cutV_length xs lo hi) hz, _, (r.drop (HT.sIx xs.length 0 lo)).take (HT.sIx xs.length xs.length hi - HT.sIx xs.length 0 lo), IsTup.new _ _⟩

/-! ### t < u, t + u -/
def rLtT (K : PySem.W.Frag) : R2 := fun x y H Q => ∃ a b ns ms, x = .ref a ∧ y = .ref b ∧ SqT K H a (ns.map V.int) ∧ SqT K H b (ms.map V.int) ∧ Q (.bl (HT.lexLt ns ms)) H
/-- t + u, t not empty: u empty gives t itself -/
def rCatT (K : PySem.W.Frag) : R2 := fun x y H Q => ∃ a b xs ys, x = .ref a ∧ y = .ref b ∧ SqT K H a xs ∧ SqT K H b ys ∧ xs ≠ [] ∧ xs.length + ys.length ≤ sizeLine ∧
  (ys = [] → Q (.ref a) H) ∧ (ys ≠ [] → ∀ p, H p = none → Q (.ref p) (upd H p (.tup (xs ++ ys))))
end
end L2

namespace L2
open PySem PySem.Spec PyProof.Rows

/-! ### places -/
/-- the place that an index of any sign means -/
def ixN (n : Nat) (i : Int) : Option Nat := if 0 ≤ i then (if i < n then some i.toNat else none) else if -(n : Int) ≤ i then some (i + n).toNat else none
def atI {α : Type} (xs : List α) (i : Int) : Option α := (ixN xs.length i).bind fun j => xs[j]?
theorem ixN_seq {n : Nat} {i : Int} {j : Nat} (h : ixN n i = some j) : seqIndex? i n = some j ∧ j < n ∧ -(n : Int) ≤ i ∧ i < n := by
  unfold ixN at h
  by_cases h0 : 0 ≤ i
  · rw [if_pos h0] at h
    by_cases h1 : i < n
    · rw [if_pos h1] at h
      have e : i.toNat = j := Option.some.inj h
      exact ⟨by rw [seqIndex_of h0 h1, e], by omega, by omega, h1⟩
    · rw [if_neg h1] at h; cases h
  · rw [if_neg h0] at h
    by_cases h1 : -(n : Int) ≤ i
    · rw [if_pos h1] at h
      have e : (i + n).toNat = j := Option.some.inj h
      exact ⟨by rw [seqIndex_neg (by omega) h1, e], by omega, h1, by omega⟩
    · rw [if_neg h1] at h; cases h
theorem atI_get {α : Type} {xs : List α} {i : Int} {v : α} (h : atI xs i = some v) : ∃ j, seqIndex? i xs.length = some j ∧ xs[j]? = some v ∧ j < xs.length ∧ -(xs.length : Int) ≤ i ∧ i < xs.length := by
  unfold atI at h
  cases e : ixN xs.length i with
  | none => rw [e] at h; cases h
  | some j =>
    rw [e] at h
    obtain ⟨h1, h2, h3, h4⟩ := ixN_seq e
    exact ⟨j, h1, h, h2, h3, h4⟩
theorem atI_nat {α : Type} {xs : List α} {j : Nat} {v : α} (h : xs[j]? = some v) : atI xs (j : Int) = some v := by
  have hj : j < xs.length := (List.getElem?_eq_some_iff.mp h).1
  have e : ixN xs.length (j : Int) = some j := by
    unfold ixN
    rw [if_pos (by omega), if_pos (by omega)]; simp
  unfold atI; rw [e]; exact h
/-! ### what may be subscripted -/
/-- what stands as an index of a plain subscript -/
def PlainIx (b : Expr) : Prop := ∀ o i, subscripted b false o i = operate [o, i] (getItem o i)
/-- a subscript by values -/
def IxR (X : Cx) (r : R2) : Prop :=
  ∀ (value slice : Expr) (pins : List (Addr × Obj)) (s : Shared) (σ : St) (H : Hp) (x y : V) (v u : Value) (Q : VK), Inv X pins σ H s → RelV x v → RelV y u → r x y H Q →
    subscripted slice false v u = operate [v, u] (getItem v u) → wpAny (model X.prog X.w) X.A (subscriptTail value slice v u) (EP X pins σ Q) X.xe s
/-- a call of a builtin's method by values: the receiver, the arguments -/
def MtR (X : Cx) (id : String) (r : V → List V → Hp → VK → Prop) : Prop :=
  ∀ (pins : List (Addr × Obj)) (s : Shared) (σ : St) (H : Hp) (x : V) (xs : List V) (v : Value) (us : List Value) (Q : VK), Inv X pins σ H s → RelV x v → Vals xs us → r x xs H Q →
    wpAny (model X.prog X.w) X.A (call (.builtin id) (v :: us)) (EP X pins σ Q) X.xe s
section
variable {X : Cx} {a b : Expr} {ta tb : TE} {pos : Pos}
theorem IxR.or {r r' : R2} (h : IxR X r) (h' : IxR X r') : IxR X (fun x y H Q => r x y H Q ∨ r' x y H Q) := by
  intro value slice pins s σ H x y v u Q I rx ry q hs
  rcases q with q | q
  · exact h value slice pins s σ H x y v u Q I rx ry q hs
  · exact h' value slice pins s σ H x y v u Q I rx ry q hs
theorem MtR.or {id : String} {r r' : V → List V → Hp → VK → Prop} (h : MtR X id r) (h' : MtR X id r') : MtR X id (fun x xs H Q => r x xs H Q ∨ r' x xs H Q) := by
  intro pins s σ H x xs v us Q I rx rs q
  rcases q with q | q
  · exact h pins s σ H x xs v us Q I rx rs q
  · exact h' pins s σ H x xs v us Q I rx rs q
/-- a[b] -/
theorem pe_ix {r : R2} (hr : IxR X r) (ha : PE X a ta) (hb : PE X b tb) (hs : PlainIx b) : PE X (.Subscript a b pos) (tOp r ta tb) := by
  intro pins s σ H Q I h
  exact Subscript_ (binT ha hb I h fun v u s2 x y H2 I2 rx ry q => hr a b pins s2 σ H2 x y v u Q I2 rx ry q (hs _ _))

def rIxL (K : PySem.W.Frag) : R2 := fun x y H Q => ∃ p xs i v, x = .ref p ∧ y = .int i ∧ SqL K H p xs ∧ atI xs i = some v ∧ Q v H
def rIxT (K : PySem.W.Frag) : R2 := fun x y H Q => ∃ p xs i v, x = .ref p ∧ y = .int i ∧ SqT K H p xs ∧ atI xs i = some v ∧ Q v H
def rIxS : R2 := fun x y H Q => ∃ z i c, x = .str z ∧ y = .int i ∧ z.length ≤ sizeLine ∧ atI z.cps.toList i = some c ∧ Q (.str ⟨#[c]⟩) H
theorem ix_list : IxR X (rIxL X.K) := by
  intro value slice pins s σ H x y v u Q I rx ry h hs
  obtain ⟨p, xs, i, z, rfl, rfl, hq, he, q⟩ := h
  cases rx
  obtain ⟨t, rfl⟩ := ry
  obtain ⟨its, r, pl, hz⟩ := I.list hq
  obtain ⟨j, h1, h2, h3, h4, h5⟩ := atI_get he
  obtain ⟨w, ew, rw'⟩ := r.get h2
  have hl := r.length
  have hn := line63
  have fin : EP X pins σ Q w s := ⟨z, H, I, rw', q⟩
  by_cases h0 : 0 ≤ i
  · have hj : i.toNat = j := by
      rw [seqIndex_of h0 h5] at h1
      exact Option.some.inj h1
    exact item_listR pl.isList h0 (by omega) (by rw [hj]; simpa using ew) fin hs
  · have hj : (i + (its.toArray.size : Int)).toNat = j := by
      rw [seqIndex_neg (by omega) h4] at h1
      rw [List.size_toArray, ← hl]
      exact Option.some.inj h1
    exact subscriptTail_builtinR (x := w) pl.isList.typeIs slot_list_getitem.lookup
      (wpAny_getItem_list_neg (Q := fun r s' => r = w ∧ EP X pins σ Q r s') pl.isList (by omega) (by rw [List.size_toArray] <;> omega) (by omega) (by rw [hj]; simpa using ew) ⟨rfl, fin⟩) hs
theorem ix_tup : IxR X (rIxT X.K) := by
  intro value slice pins s σ H x y v u Q I rx ry h hs
  obtain ⟨p, xs, i, z, rfl, rfl, hq, he, q⟩ := h
  cases rx
  obtain ⟨t, rfl⟩ := ry
  obtain ⟨its, r, pl, hz⟩ := I.tuple hq
  obtain ⟨j, h1, h2, h3, h4, h5⟩ := atI_get he
  obtain ⟨w, ew, rw'⟩ := r.get h2
  have hl := r.length
  have hn := line63
  have fin : EP X pins σ Q w s := ⟨z, H, I, rw', q⟩
  exact subscriptTail_builtinR (x := w) pl.typeIs slot_tuple_getitem.lookup
    (getItem_tuple (j := j) (Q := fun r s' => r = w ∧ EP X pins σ Q r s') pl (by omega) (by omega) (by rw [List.size_toArray, ← hl]; exact h1) (by simpa using ew) ⟨rfl, fin⟩) hs
theorem ix_str : IxR X rIxS := by
  intro value slice pins s σ H x y v u Q I rx ry h hs
  obtain ⟨z, i, c, rfl, rfl, hz, he, q⟩ := h
  obtain ⟨t, rfl⟩ := rx
  obtain ⟨t', rfl⟩ := ry
  obtain ⟨j, h1, h2, h3, h4, h5⟩ := atI_get he
  have hl : z.cps.toList.length = z.length := by simp [Str.length]
  rw [hl] at h1 h4 h5
  have hn := line63
  exact tail_any (typeIs_str s z t) slot_str_getitem.lookup (getItem_str (c := c) (by
    have e1 : decide (i < -(2 ^ 63 : Int)) = false := decide_eq_false (by omega)
    have e2 : decide (i ≥ 2 ^ 63) = false := decide_eq_false (by omega)
    rw [e1, e2, Bool.or_false]) (by rw [h1]; simpa using h2) ⟨.str ⟨#[c]⟩, H, I.tok _, ⟨_, rfl⟩, q⟩) hs
/-- list, tuple or str -/
def rIx (K : PySem.W.Frag) : R2 := fun x y H Q => rIxL K x y H Q ∨ rIxT K x y H Q ∨ rIxS x y H Q
/-! ### xs[i] = v, any sign -/
/-- the list's object behind a store -/
theorem mapSeq_set (its : List Value) (n j : Nat) (u : Value) : Obj.mapSeq (·.setIfInBounds j u) { cls := .type "list", data := .seq its.toArray n } = { cls := .type "list", data := .seq (its.set j u).toArray n } := by
  simp [Obj.mapSeq]
theorem Inv.lst {pins : List (Addr × Obj)} {σ : St} {H : Hp} {s : Shared} {p : Addr} {xs : List V} (I : Inv X pins σ H s) (h : H p = some (.lst xs)) :
    ∃ (its : List Value) (n : Nat), Vals xs its ∧ s.heap.get? p = some { cls := .type "list", data := .seq its.toArray n } ∧ xs.length ≤ sizeLine := by
  obtain ⟨z, its, n, r, e⟩ := I.hok p _ h
  exact ⟨its, n, r, e, z⟩
/-- the list at p is written by an update of its object -/
theorem Inv.lstUpd {pins : List (Addr × Obj)} {σ : St} {H : Hp} {s : Shared} {p : Addr} {xs ys : List V} {its its' : List Value} {n n' : Nat} {f : Obj → Obj} (I : Inv X pins σ H s) (h : H p = some (.lst xs))
    (ho : s.heap.get? p = some { cls := .type "list", data := .seq its.toArray n }) (hf : f { cls := .type "list", data := .seq its.toArray n } = { cls := .type "list", data := .seq its'.toArray n' }) (r : Vals ys its') (hz : ys.length ≤ sizeLine) (t : Nat) :
    Inv X pins σ (upd H p (.lst ys)) { s with heap := s.heap.update p f, toks := t } := by
  have e : (s.heap.update p f).get? p = some { cls := .type "list", data := .seq its'.toArray n' } := by
    rw [Heap.get?_update_self f ho (by rw [hf] <;> rfl), hf]
  refine I.write (x := p) (e := p) (by rw [h]; trivial) (.inl rfl) (fun b u hb q => (Heap.get?_update_other _ _ (Ne.symm hb)).trans q) ⟨_, e⟩ ?_
  exact ⟨hz, its', n', r, e⟩
def rSetL : V → V → V → Hp → (Hp → Prop) → Prop := fun o i v H Q => ∃ p xs k j, o = .ref p ∧ i = .int k ∧ H p = some (.lst xs) ∧ ixN xs.length k = some j ∧ Q (upd H p (.lst (xs.set j v)))
theorem set_list : PSet X rSetL := by
  intro pins s σ H o i v ov iv u Q I ro ri rv h
  obtain ⟨p, xs, k, j, rfl, rfl, hp, hj, q⟩ := h
  cases ro
  obtain ⟨t, rfl⟩ := ri
  obtain ⟨its, n, r, ho, hz⟩ := I.lst hp
  obtain ⟨h1, h2, h3, h4⟩ := ixN_seq hj
  have hl := r.length
  have hn := line63
  have I' : Inv X pins σ (upd H p (.lst (xs.set j v))) { s with heap := s.heap.update p (Obj.mapSeq (·.setIfInBounds j u)) } :=
    I.lstUpd hp ho (mapSeq_set its n j u) (r.set rv j) (by rw [List.length_set]; exact hz) s.toks
  by_cases h0 : 0 ≤ k
  · have hk : k.toNat = j := by
      rw [seqIndex_of h0 h4] at h1
      exact Option.some.inj h1
    exact PySem.W.ki_setAt ho h0 (by omega) (by rw [List.size_toArray, ← hl]; exact h4) (by rw [hk]; exact ⟨_, I', q⟩)
  · have hk : (k + (its.toArray.size : Int)).toNat = j := by
      rw [seqIndex_neg (by omega) h3] at h1
      rw [List.size_toArray, ← hl]
      exact Option.some.inj h1
    exact PySem.W.ki_setBack ho (by omega) (by rw [List.size_toArray, ← hl]; exact h3) (by omega) (by rw [hk]; exact ⟨_, I', q⟩)

/-! ### slices -/
theorem slice_bounds (lo hi : Option Int) (n : Nat) : (sliceBounds lo hi none n).1 = ((HT.sIx n 0 lo : Nat) : Int) ∧ (sliceBounds lo hi none n).2.1 = ((HT.sIx n n hi : Nat) : Int) ∧ (sliceBounds lo hi none n).2.2 = 1 := by
  refine ⟨?_, ?_, rfl⟩
  · cases lo with
    | none => simp [sliceBounds, HT.sIx]
    | some i =>
      simp only [sliceBounds, HT.sIx, Option.getD_none, show (1 : Int) > 0 by decide, if_true]
      by_cases h : i < 0
      · simp only [h, if_true] <;> omega
      · simp only [h, if_false] <;> omega
  · cases hi with
    | none => simp [sliceBounds, HT.sIx]
    | some i =>
      simp only [sliceBounds, HT.sIx, Option.getD_none, show (1 : Int) > 0 by decide, if_true]
      by_cases h : i < 0
      · simp only [h, if_true] <;> omega
      · simp only [h, if_false] <;> omega
theorem slicePick_cut (its : List Value) (lo hi : Option Int) : slicePick its.toArray lo hi none = ((its.drop (HT.sIx its.length 0 lo)).take (HT.sIx its.length its.length hi - HT.sIx its.length 0 lo)).toArray := by
  obtain ⟨h1, h2, h3⟩ := slice_bounds lo hi its.toArray.size
  unfold slicePick
  rw [h1, h2, h3]
  simp only [sliceRange_one, pick_run, List.size_toArray] <;> rfl
/-- xs[lo:hi] of a list: a new list -/
def rSlL (K : PySem.W.Frag) : V → Option Int → Option Int → Hp → VK → Prop := fun x lo hi H Q => ∃ a xs, x = .ref a ∧ SqL K H a xs ∧ ∀ p, H p = none → Q (.ref p) (upd H p (.lst (cutV xs lo hi)))
theorem sl_list : SlR X (rSlL X.K) := by
  intro pins s σ H x v vl vu lo hi sl Q I rx hs pl pu h
  obtain ⟨a, xs, rfl, hx, q⟩ := h
  cases rx
  obtain ⟨its, r, ht, hz⟩ := I.list hx
  have hlen := r.length
  refine ⟨"list", _, slot_list_getitem.lookup, ht.isList.typeIs, ?_⟩
  refine wpAny_getItem_list_slice ht.isList hs pl pu .none (by simp) ?_ (by rw [List.size_toArray] <;> omega)
  rw [slicePick_cut, ← hlen]
  refine ⟨.ref s.heap.objs.size, _, I.laid (t' := s.toks) (o := .lst (cutV xs lo hi)) (fun b ob q => Heap.get?_push_of_some _ q) (Nat.le_refl _) ?_, rfl, q _ (I.hok.fresh (Nat.le_refl _))⟩
  exact ⟨Nat.le_trans (cutV_length xs lo hi) hz, _, 0, (r.drop (HT.sIx xs.length 0 lo)).take (HT.sIx xs.length xs.length hi - HT.sIx xs.length 0 lo), Heap.get?_push_size _ rfl⟩

/-! ### in, not in: flat items -/
def flatV : V → Bool
  | .non => true
  | .bl _ => true
  | .int _ => true
  | .str _ => true
  | _ => false
/-- == of flat values -/
def eqV : V → V → Bool
  | .non, .non => true
  | .bl a, .bl b => a == b
  | .bl a, .int b => (if a then 1 else 0) == b
  | .int a, .bl b => a == (if b then 1 else 0)
  | .int a, .int b => a == b
  | .str a, .str b => a == b
  | _, _ => false
/-- the items' answers, read off the values (a value's own answer does not lean on its token) -/
def eqU (x : V) (u : Value) : Bool := match u with
  | .none => eqV .non x
  | .bool b => eqV (.bl b) x
  | .int i _ => eqV (.int i) x
  | .str z _ => eqV (.str z) x
  | _ => false
def inV (x : V) (xs : List V) : Bool := xs.any fun y => eqV y x
/-- x in a list or tuple of flat items -/
def rIn (K : PySem.W.Frag) (neg : Bool) : R2 := fun x y H Q => ∃ p xs, y = .ref p ∧ (SqL K H p xs ∨ SqT K H p xs) ∧ flatV x = true ∧ xs.all flatV = true ∧ Q (.bl (if neg then !inV x xs else inV x xs)) H
/-! ### len, list(x), tuple(x) of any list or tuple that is read -/
theorem call_len_seq : CallR X (.builtin "len") (fun xs H Q => ∃ p ys, xs = [.ref p] ∧ (SqL X.K H p ys ∨ SqT X.K H p ys) ∧ Q (.int ys.length) H) := by
  intro pins s σ H xs us Q I r h
  obtain ⟨p, ys, rfl, hq, q⟩ := h
  obtain ⟨u, rfl, rx⟩ := vals1 r
  cases rx
  have hn := line63
  rcases hq with hq | hq
  · obtain ⟨its, r', pl, hz⟩ := I.list hq
    have hlen := r'.length
    exact Calls.call_len_list pl.isList (by simp only [List.size_toArray] <;> omega) ⟨.int ys.length, H, I.tok _, ⟨s.toks + 1, by rw [List.size_toArray, hlen]⟩, q⟩
  · obtain ⟨its, r', pl, hz⟩ := I.tuple hq
    have hlen := r'.length
    exact len_tuple pl (by simp only [List.size_toArray] <;> omega) ⟨.int ys.length, H, I.tok _, ⟨s.toks + 1, by rw [List.size_toArray, hlen]⟩, q⟩
theorem CallR.or {f : Value} {r r' : List V → Hp → VK → Prop} (h : CallR X f r) (h' : CallR X f r') : CallR X f (fun xs H Q => r xs H Q ∨ r' xs H Q) := by
  intro pins s σ H xs us Q I rs q
  rcases q with q | q
  · exact h pins s σ H xs us Q I rs q
  · exact h' pins s σ H xs us Q I rs q
theorem call_list_of : CallR X (.type "list") (fun xs H Q => ∃ p ys, xs = [.ref p] ∧ (SqL X.K H p ys ∨ SqT X.K H p ys) ∧ ∀ l, H l = none → Q (.ref l) (upd H l (.lst ys))) := by
  intro pins s σ H xs us Q I r h
  obtain ⟨p, ys, rfl, hq, q⟩ := h
  obtain ⟨u, rfl, rx⟩ := vals1 r
  cases rx
  have fin : ∀ (its : List Value), Vals ys its → ys.length ≤ sizeLine → ∀ (h' : Heap) (c' : Nat), (∀ b o', s.heap.get? b = some o' → h'.get? b = some o') →
      h'.get? s.heap.objs.size = some { cls := .type "list", dict := none, data := .seq its.toArray c', slots := #[] } → EP X pins σ Q (.ref s.heap.objs.size) { s with heap := h' } := fun its r' hz h' c' kp e =>
    ⟨.ref s.heap.objs.size, _, I.laid (t' := s.toks) kp (Nat.le_refl _) (show ObjOk X.prog X.w _ h' _ (.lst ys) from ⟨hz, its, c', r', e⟩), rfl, q _ (I.hok.fresh (Nat.le_refl _))⟩
  rcases hq with hq | hq
  · obtain ⟨its, r', pl, hz⟩ := I.list hq
    have hlen := r'.length
    obtain ⟨o, ho, hc, n, hd⟩ := pl.isList
    exact call_list_seq p (.inl rfl) ho hc hd (fun h' c' kp e => fin its r' hz h' c' kp e) (by simp only [List.size_toArray] <;> omega)
  · obtain ⟨its, r', pl, hz⟩ := I.tuple hq
    have hlen := r'.length
    obtain ⟨o, ho, hc, n, hd⟩ := pl
    exact call_list_seq p (.inr rfl) ho hc hd (fun h' c' kp e => fin its r' hz h' c' kp e) (by simp only [List.size_toArray] <;> omega)
theorem call_tuple_of : CallR X (.type "tuple") (fun xs H Q => ∃ p ys, xs = [.ref p] ∧ ((SqL X.K H p ys ∧ ∀ l, H l = none → Q (.ref l) (upd H l (.tup ys))) ∨ (SqT X.K H p ys ∧ Q (.ref p) H))) := by
  intro pins s σ H xs us Q I r h
  obtain ⟨p, ys, rfl, h⟩ := h
  obtain ⟨u, rfl, rx⟩ := vals1 r
  cases rx
  rcases h with ⟨hq, q⟩ | ⟨hq, q⟩
  · obtain ⟨its, r', pl, hz⟩ := I.list hq
    have hlen := r'.length
    refine call_tuple_list pl.isList (fun h' kp => ?_) (by simp only [List.size_toArray] <;> omega)
    have I1 : Inv X pins σ H { s with heap := h' } := I.kept (t' := s.toks) kp
    have I2 : Inv X pins σ (upd H h'.objs.size (.tup ys)) { s with heap := h'.push { cls := .type "tuple", data := .seq its.toArray } } :=
      I1.laid (t' := s.toks) (fun b o e => Heap.get?_push_of_some _ e) (Nat.le_refl _) (show ObjOk X.prog X.w _ _ _ (.tup ys) from ⟨hz, its, r', IsTup.new _ _⟩)
    exact ⟨.ref h'.objs.size, _, I2, rfl, q _ (I1.hok.fresh (Nat.le_refl _))⟩
  · obtain ⟨its, r', pl, hz⟩ := I.tuple hq
    exact call_tuple_same pl ⟨.ref p, H, I, rfl, q⟩

/-! ### the call of a builtin's method: o.m(..) -/
/-- the value is of that builtin type -/
def tyV (K : PySem.W.Frag) (T : String) (x : V) (H : Hp) : Prop := match x with
  | .str _ => T = "str"
  | .int _ => T = "int"
  | .ref p => (T = "list" ∧ ∃ xs, SqL K H p xs) ∨ (T = "tuple" ∧ ∃ o, K.lookup p = some o ∧ o.cls = .type "tuple" ∧ o.dict = none) ∨
      (T = "dict" ∧ ((∃ kvs, H p = some (.dK kvs)) ∨ ∃ kvs, H p = some (.dT kvs))) ∨ (T = "set" ∧ ∃ S n, H p = some (.set S n))
  | _ => False
theorem tyV_is {pins : List (Addr × Obj)} {σ : St} {H : Hp} {s : Shared} {T : String} {x : V} {v : Value} (I : Inv X pins σ H s) (r : RelV x v) (ty : tyV X.K T x H) :
    s.TypeIs v T ∧ ∀ a, v = .ref a → ∃ ob, s.heap.get? a = some ob ∧ ob.dict = none := by
  cases x with
  | str z =>
    obtain ⟨t, rfl⟩ := r
    cases (show T = "str" from ty)
    exact ⟨typeIs_str s z t, fun _ e => nomatch e⟩
  | int i =>
    obtain ⟨t, rfl⟩ := r
    cases (show T = "int" from ty)
    exact ⟨typeIs_int s i t, fun _ e => nomatch e⟩
  | ref p =>
    cases r
    rcases ty with ⟨rfl, xs, hq⟩ | ⟨rfl, o, hk, hc, hd⟩ | ⟨rfl, hk⟩ | ⟨rfl, S, n, hk⟩
    · obtain ⟨its, _, pl, _⟩ := I.list hq
      refine ⟨pl.isList.typeIs, fun a e => ?_⟩
      cases e
      obtain ⟨o, n, e, c, hd, _⟩ := pl
      exact ⟨o, e, hd⟩
    · refine ⟨⟨o, I.kIn p o hk, hc⟩, fun a e => ?_⟩
      cases e
      exact ⟨o, I.kIn _ o hk, hd⟩
    · have z : ∃ o, s.heap.get? p = some o ∧ o.ExactDict := by
        rcases hk with ⟨kvs, hk⟩ | ⟨kvs, hk⟩
        · obtain ⟨_, _, _, _, o, _, _, e, ex, _⟩ := I.hok p _ hk
          exact ⟨o, e, ex⟩
        · obtain ⟨_, _, _, _, o, _, _, e, ex, _⟩ := I.hok p _ hk
          exact ⟨o, e, ex⟩
      obtain ⟨o, e, ex⟩ := z
      refine ⟨⟨o, e, ex.1⟩, fun a e2 => ?_⟩
      cases e2
      exact ⟨o, e, ex.2.1⟩
    · obtain ⟨o, _, _, _, e, ex, _⟩ := I.hok p _ hk
      refine ⟨⟨o, e, ex.1⟩, fun a e2 => ?_⟩
      cases e2
      exact ⟨o, e, ex.2.1⟩
  | _ => exact False.elim ty
def tBM0 (K : PySem.W.Frag) (T : String) (r : V → List V → Hp → VK → Prop) (to : TE) : TE := fun σ H Q => to σ H fun x H1 => tyV K T x H1 ∧ r x [] H1 Q
def tBM (K : PySem.W.Frag) (T : String) (r : V → List V → Hp → VK → Prop) (to : TE) (t : TA) : TE := fun σ H Q => to σ H fun x H1 => tyV K T x H1 ∧ t σ H1 fun xs H2 => r x xs H2 Q
variable {o e : Expr} {es : List Expr} {to : TE} {t : TA} {name : Str} {apos cpos : Pos} {T id : String} {r : V → List V → Hp → VK → Prop}
theorem pe_bm (pa : PlainAttrs T) (slot : Slot T name id) (hty : typeOf (.builtin id) = pure (.type "method_descriptor")) (hm : MtR X id r) (ho : PE X o to) (ha : PA X (e :: es) t)
    (hbase : attributeBase o name X.env (eval o X.env) = eval o X.env := by rfl)
    (hfew : ((backTo cpos (starEach (e :: es) X.env)).all (fun x => !x.1) && (backToKw cpos (keywordEach [] X.env)).all (fun x => x.1.isSome)
      && decide ((e :: es).length + ([] : List Keyword).length + (if ([] : List Keyword).isEmpty then 0 else 1) < 30)) = true := by rfl)
    (hline : (apos.endLine == cpos.line) = true := by rfl) (hs : starEach (e :: es) X.env = (false, eval e X.env) :: starEach es X.env := by rfl) (hplain : (backTo cpos (starEach es X.env)).any (·.1) = false := by rfl) :
    PE X (.Call (.Attribute o name apos) (e :: es) [] cpos) (tBM X.K T r to t) := by
  intro pins s σ H Q I h
  refine wpAny_Call_method_late hbase hfew hline rfl (thn (ho pins s σ H _ I h) fun v s1 ⟨x, H1, I1, r1, ty, q1⟩ => ?_)
  obtain ⟨h1, h2⟩ := tyV_is I1 r1 ty
  refine ⟨T, id, pa, slot, hty, h1, h2, ?_⟩
  have hA := ha cpos pins s1 σ H1 _ I1 q1
  rw [hs] at hA ⊢
  refine Calls.callWith_builtin (by show (false || (backTo cpos (starEach es X.env)).any (·.1)) = false; rw [hplain] <;> rfl) (Calls.evalArgs_plain ?_)
  exact thn hA fun us s2 ⟨vs, H2, I2, r2, q2⟩ => hm pins s2 σ H2 x vs v us Q I2 r1 r2 q2
/- xs.append(e), list.index on a module's tuple .. are MtR facts of 06m -/
end
end L2

namespace L2
open PySem PySem.Spec PyProof.Rows

def MtM (X : Cx) (id : String) (r : V → List V → Hp → VK → Prop) : Prop :=
  ∀ (pins : List (Addr × Obj)) (s : Shared) (σ : St) (H : Hp) (x : V) (xs : List V) (v : Value) (us : List Value) (Q : VK), Inv X pins σ H s → RelV x v → Vals xs us → r x xs H Q →
    wpAny (model X.prog X.w) X.A (call (.builtin id) (v :: us)) (EP X pins σ Q) X.xe s

/-! ### lists of values -/
theorem Vals.one : ∀ {x : V} {us : List Value}, Vals [x] us → ∃ u, us = [u] ∧ RelV x u
  | _, _, .cons r .nil => ⟨_, rfl, r⟩
theorem Vals.two : ∀ {x y : V} {us : List Value}, Vals [x, y] us → ∃ u v, us = [u, v] ∧ RelV x u ∧ RelV y v
  | _, _, _, .cons r (.cons q .nil) => ⟨_, _, rfl, r, q⟩
theorem Vals.zero : ∀ {us : List Value}, Vals [] us → us = []
  | _, .nil => rfl
theorem Vals.dropLast {xs : List V} {us : List Value} (h : Vals xs us) : Vals xs.dropLast us.dropLast := by
  induction h with
  | nil => exact .nil
  | cons r t ih =>
    cases t with
    | nil => exact .nil
    | cons q t' => exact .cons r ih
theorem Vals.eraseIdx : ∀ {xs : List V} {us : List Value} (i : Nat), Vals xs us → Vals (xs.eraseIdx i) (us.eraseIdx i)
  | _, _, _, .nil => .nil
  | _, _, 0, .cons _ t => t
  | _, _, i + 1, .cons r t => .cons r (Vals.eraseIdx i t)
theorem Vals.reverse {xs : List V} {us : List Value} (h : Vals xs us) : Vals xs.reverse us.reverse := by
  induction h with
  | nil => exact .nil
  | cons r t ih => rw [List.reverse_cons, List.reverse_cons]; exact Vals.append ih (.cons r .nil)
section
variable {X : Cx} {pins : List (Addr × Obj)} {σ : St} {H : Hp} {s : Shared} {l b : Addr} {xs ys zs : List V}

/-! ### the two steps: a tracked list is rewritten, a new list is laid -/
theorem Inv.lset {its its' : List Value} {n : Nat} {f : Array Value → Array Value} {t' : Nat} (I : Inv X pins σ H s) (hH : H l = some (.lst xs))
    (e : s.heap.get? l = some { cls := .type "list", data := .seq its.toArray n }) (hf : f its.toArray = its'.toArray) (hv : Vals ys its') (hz : ys.length ≤ sizeLine) :
    Inv X pins σ (upd H l (.lst ys)) { s with heap := s.heap.update l (Obj.mapSeq f), toks := t' } := by
  have q := PySem.IsL.update e f
  rw [hf] at q
  refine I.write (x := l) (e := l) (by rw [hH]; exact trivial) (.inl rfl) (fun b' u hb hu => (Heap.get?_update_other s.heap (Obj.mapSeq f) (Ne.symm hb)).trans hu) ⟨_, q⟩ ?_
  exact ⟨hz, its', _, hv, q⟩
theorem Inv.lnew {its : List Value} {t' : Nat} (I : Inv X pins σ H s) (hv : Vals ys its) (hz : ys.length ≤ sizeLine) :
    Inv X pins σ (upd H s.heap.objs.size (.lst ys)) { s with heap := s.heap.push { cls := .type "list", data := .seq its.toArray }, toks := t' } :=
  I.laid (fun _ _ q => Heap.get?_push_of_some _ q) (Nat.le_refl _) ⟨hz, its, 0, hv, Heap.get?_push_size _ rfl⟩
theorem Inv.fresh (I : Inv X pins σ H s) : H s.heap.objs.size = none := I.hok.fresh (Nat.le_refl _)
theorem Inv.lstM (I : Inv X pins σ H s) (hH : H l = some (.lst xs)) : xs.length ≤ sizeLine ∧ ∃ (its : List Value) (n : Nat), Vals xs its ∧ xs.length = its.length ∧ s.heap.get? l = some { cls := .type "list", data := .seq its.toArray n } := by
  obtain ⟨z, its, n, r, e⟩ := I.hok l _ hH
  exact ⟨z, its, n, r, r.length, e⟩

end

section
variable {X : Cx}

/-! ### methods -/
def rAppend : V → List V → Hp → VK → Prop := fun x vs H Q => ∃ l xs y, x = .ref l ∧ vs = [y] ∧ H l = some (.lst xs) ∧ xs.length < sizeLine ∧ Q .non (upd H l (.lst (xs ++ [y])))
theorem mt_append : MtM X "list.append" rAppend := by
  intro pins s σ H x vs v us Q I rx rv h
  obtain ⟨l, xs, y, rfl, rfl, hH, hz, q⟩ := h
  cases rx
  obtain ⟨u, rfl, ru⟩ := rv.one
  obtain ⟨z, its, n, r, hl, e⟩ := I.lstM hH
  refine call_meets F.slot_list_append ⟨_, e, rfl⟩ F.entry_list_append (F.args_list_append_2 _ _) (PySem.list_append l its.toArray n u (by rw [List.size_toArray]; omega)) ⟨e, ?_⟩
  refine ⟨.non, _, I.lset (its' := its ++ [u]) hH e (by simp) (r.append (.cons ru .nil)) ?_, rfl, q⟩
  rw [List.length_append, List.length_singleton]
  omega

def rExtend : V → List V → Hp → VK → Prop := fun x vs H Q => ∃ l b xs zs, x = .ref l ∧ vs = [.ref b] ∧ H l = some (.lst xs) ∧ H b = some (.lst zs) ∧ xs.length + zs.length ≤ sizeLine ∧ Q .non (upd H l (.lst (xs ++ zs)))
def rPop : V → List V → Hp → VK → Prop := fun x vs H Q => ∃ l xs y, x = .ref l ∧ vs = [] ∧ H l = some (.lst xs) ∧ xs[xs.length - 1]? = some y ∧ Q y (upd H l (.lst xs.dropLast))
def rPopAt : V → List V → Hp → VK → Prop := fun x vs H Q => ∃ l xs i k y, x = .ref l ∧ vs = [.int i] ∧ H l = some (.lst xs) ∧ -(2 ^ 63) ≤ i ∧ i < 2 ^ 63 ∧ seqIndex? i xs.length = some k ∧ xs[k]? = some y ∧ Q y (upd H l (.lst (xs.eraseIdx k)))
def rReverse : V → List V → Hp → VK → Prop := fun x vs H Q => ∃ l xs, x = .ref l ∧ vs = [] ∧ H l = some (.lst xs) ∧ Q .non (upd H l (.lst xs.reverse))
def rClear : V → List V → Hp → VK → Prop := fun x vs H Q => ∃ l xs, x = .ref l ∧ vs = [] ∧ H l = some (.lst xs) ∧ Q .non (upd H l (.lst []))
/-! ### list + list, list += list, list * int -/
def rCat : R2 := fun x y H Q => ∃ l b xs zs, x = .ref l ∧ y = .ref b ∧ H l = some (.lst xs) ∧ H b = some (.lst zs) ∧ xs.length + zs.length ≤ sizeLine ∧ ∀ p, H p = none → Q (.ref p) (upd H p (.lst (xs ++ zs)))
theorem op_cat : OpR X (binaryOp .Add) rCat := by
  intro pins s σ H x y v u Q I rx ry h
  obtain ⟨l, b, xs, zs, rfl, rfl, hH, hB, hz, q⟩ := h
  cases rx
  cases ry
  obtain ⟨z, its, n, r, hl, e⟩ := I.lstM hH
  obtain ⟨z2, its2, n2, r2, hl2, e2⟩ := I.lstM hB
  refine PySem.P.add_list e e2 ?_ (by rw [List.size_toArray, List.size_toArray]; omega)
  have ea : its.toArray ++ its2.toArray = (its ++ its2).toArray := by simp
  rw [ea]
  exact ⟨.ref _, _, I.lnew (t' := s.toks) (r.append r2) (by rw [List.length_append]; omega), rfl, q _ I.fresh⟩
/-- a list times an int (a negative one is nothing) -/
def rRep : R2 := fun x y H Q => ∃ l k xs, x = .ref l ∧ y = .int k ∧ H l = some (.lst xs) ∧ -(2 ^ 63) ≤ k ∧ k < 2 ^ 63 ∧ xs.length * k.toNat ≤ sizeLine ∧
  ∀ p, H p = none → Q (.ref p) (upd H p (.lst (List.replicate k.toNat xs).flatten))
/-! ### del xs[i] -/
end

/-! ### xs[a:b] = ys -/
section
variable {prog : Program} {w : World} {A : Around} {E : Value → Shared → Prop} {s : Shared}
set_option maxRecDepth 100000 in
end

section
variable {X : Cx}
end
end L2

namespace Att
open PySem PySem.W PySem.Calls PyProof.Rows

/-! ### the script -/
theorem ints_of_wellAll {P : Params} {h : Heap} : ∀ (ns : List Int) (vs : List Value), WellAll P h vs (ns.map WData.int) → IntsAre vs ns := by
  intro ns
  induction ns with
  | nil =>
    intro vs w
    rw [List.map_nil] at w
    cases w
    exact .nil
  | cons n ns ih =>
    intro vs w
    rw [List.map_cons] at w
    cases w with
    | cons a b =>
      cases a
      exact .cons _ _ (ih _ b)

theorem script_of {l : OpenLaw} {n : Nat} (hn : l.most = some n) {P : Params} {h : Heap} {args : List WData} {vals : List Value}
    (hpre : l.row.toRowW.claim.pre args = true) (hwl : WellAll P h vals args) :
    ∃ a vs ns, vals = [Value.ref a] ∧ args = [WData.list (ns.map WData.int)] ∧ h.get? a = some { cls := .type "list", data := .seq vs.toArray } ∧ IntsAre vs ns ∧ ns.length ≤ n := by
  have hsh : WShape.hasAll [] args [.list .int] = true := (pre_splitW hpre).1
  have hc : l.pre.holds [] { args := args } = true := (pre_splitW hpre).2
  obtain ⟨d, r, rfl, h1, h2⟩ := hasAllW_cons hsh
  obtain rfl := hasAllW_nil h2
  obtain ⟨xs, rfl, h3⟩ := hasW_list h1
  obtain ⟨ns, rfl⟩ := items_int h3
  have hlen : ns.length ≤ n := by
    unfold OpenLaw.pre at hc
    have h4 : (WTm.not (.lt (.lit (.int (n : Int))) (.len (.arg 0)))).holds [] { args := [.list (ns.map .int)] } = true := by
      have h4 := (holds_andW hc).1
      rw [hn] at h4
      exact h4
    have h5 := condW_of h4 (w_not (w_lt w_lit (w_len_list (w_arg rfl))))
    rw [List.length_map] at h5
    refine Nat.le_of_not_lt fun q => ?_
    have q' : (n : Int) < ((ns.length : Nat) : Int) := by omega
    first
      | (rw [decide_eq_true q'] at h5; exact absurd h5 (by decide))
      | (simp at h5; omega)
  cases hwl with
  | cons w1 w2 =>
    cases w2
    cases w1 with
    | list ho hall => exact ⟨_, _, ns, rfl, rfl, ho, ints_of_wellAll ns _ hall, hlen⟩

theorem post_true (l : OpenLaw) (args : List WData) : l.row.toRowW.claim.post args (.bool true) args = true :=
  postW_of (r := l.row.toRowW) (X := (true == true))
    (show WShape.has [] (.bool true) .bool = true by first | rfl | decide | simp [WShape.has, WShape.arms, WShape.armsAll])
    (show (WTm.eq .res (.lit (.bool true))).value [] { args := args, res := some (.bool true), after := args } = some (.bool (true == true)) from w_eq_bool (w_res rfl) w_lit) rfl

/-! ### the attachment: holds_open's last premise (the goal 'hc' behind k_head) from a wpAny of the law's body -/
/-- the same from a codeAny of the CALL (for a layer whose function contracts speak of calls) -/
theorem attach_call {l : OpenLaw} {n : Nat} {q : Program} {loose : List Str} {XP : (Str → Option Value) → Heap → Prop} {YP : World → Heap → Prop} {d : DefRec}
    (hn : l.most = some n) (hdf : d.params.defaults = [])
    (call : ∀ (w : World) (s₀ s₁ : Shared) (mg mb : Str → Option Value) (fa : Addr) (o : Obj) (pm cd doc : Value) (a : Addr) (vs : List Value) (ns : List Int),
      Ground q loose [] XP w s₀ mg mb s₁.heap → YP w s₁.heap →
      s₁.heap.get? fa = some o → o.data = .func (docDef d.name d.params d.body d.scope pm cd doc) → s₁.heap.CodeRec cd d.name → mg d.name = some (.ref fa) →
      s₁.heap.get? a = some { cls := .type "list", data := .seq vs.toArray } → IntsAre vs ns → ns.length ≤ n → s₁.gens = #[] →
      codeAny (model l.prog w) callerA (.call (.ref fa) ⟨[.ref a], []⟩) (fun r s' => r = .ok (.ret (.bool true)) ∧ OldK s₁.heap s'.heap ∧ s'.os = s₁.os ∧ AllBare s'.gens) s₁) :
    WalkO q loose XP YP l.row.toRowW d [] (fun f vs => PySem.call f vs) := by
  intro w s₀ s₁ mg mb G Y fa o pm cd doc dV kV ho hd hcd hD hmg hg args vals as hpre hlay hrd hwl hlo
  obtain rfl : dV = .none := Dflts.none hD hdf
  obtain rfl : kV = .none := Dflts.noKw hD
  obtain ⟨a, vs, ns, rfl, rfl, hobj, hints, hlen⟩ := script_of hn hpre hwl
  refine enter_call (codeAny_mono (call w s₀ s₁ mg mb fa o pm cd doc a vs ns G Y ho (fd_plain hd) hcd hmg hobj hints hlen hg) fun r s' hq => ?_)
  obtain ⟨rfl, h2, h3, h4⟩ := hq
  exact ⟨.inl ⟨.bool true, .bool true, [], rfl, fun _ => rfl, .bool true, post_true l _, fun _ => ⟨List.Pairwise.nil, fun _ hm => (nomatch hm)⟩⟩, h2, h3, h4⟩

/-! ### rules over ANY heap (no ledger) from facts about the written part K: the library's own take a ledger (News) for what they write -/
section
variable {prog : Program} {w : World} {A : Around} {E : Value → Shared → Prop} {s : Shared} {K : Frag}

/-! the whole heap as the ledger: makes every rule that writes through a ledger a rule over any heap -/
def noObjs (h : Heap) : Heap := { h with objs := #[] }
def ledger (h : Heap) (L d : Addr) : List (Addr × Obj) := (List.range h.objs.size).filterMap fun a => if a = L ∨ a = d then none else (h.get? a).map fun o => (a, o)
end
end Att

namespace L2
open PySem PySem.Spec PyProof.Rows

theorem vals_ints : ∀ {vs : List Value} {ns : List Int}, IntsAre vs ns → Vals (ns.map V.int) vs
  | _, _, .nil => .nil
  | _, _, .cons n t h => .cons ⟨t, rfl⟩ (vals_ints h)

/-- nothing is tracked but the script, known to the object (or it is an object of the module) -/
def Only (H : Hp) : Prop := ∀ b, H b = none ∨ ∃ o xs, H b = some (.frz o (.lst xs))

end L2

namespace L2
open PySem PySem.Spec PyProof.Rows

abbrev KOf {K : PySem.W.Frag} {h : Heap} (_ : K.In h) : PySem.W.Frag := K

end L2


/-! SHORT WORDS over the layer: a def of the text, its body, what a loop and a test want. -/
namespace L2
open PySem PySem.Spec PyProof.Rows

/-! ### the text by places -/
/-- the j-th statement of a class's body -/
def inClass (s : Stmt) (j : Nat) : Stmt := match s with
  | .ClassDef _ _ _ body _ _ _ _ _ _ _ => body.getD j (.Pass ⟨0, 0, 0, 0⟩)
  | _ => .Pass ⟨0, 0, 0, 0⟩
def defArgs (s : Stmt) : Arguments := match s with
  | .FunctionDef _ a _ _ _ _ _ _ _ _ => a
  | _ => { posonlyargs := [], args := [], vararg := none, kwonlyargs := [], kw_defaults := [], kwarg := none, defaults := [] }
def defBody (s : Stmt) : List Stmt := match s with
  | .FunctionDef _ _ b _ _ _ _ _ _ _ => b
  | _ => []
def defScope (s : Stmt) : Scope := match s with
  | .FunctionDef _ _ _ _ _ _ sc _ _ _ => sc
  | _ => { kind := .function, names := [], isGenerator := false, isCoroutine := false }

/-! ### no exception leaves a def -/
abbrev CX0 : CXT := fun _ _ _ _ _ _ => False
abbrev E0 : XK := fun _ _ _ => False
theorem pass0 {X : Cx} : Passes CX0 X E0 := fun _ _ _ _ _ _ _ h => h.elim

/-! ### a def (or method) of the text as it stands behind the top -/
structure Fun (K : PySem.W.Frag) (x qual : Str) (st : Stmt) (f : Addr) (fd : FuncData) : Prop where
  ex : ∃ (oc : Value) (od : Option Addr) (kV doc pm : Value) (an : Option Addr) (cdv ct : Value) (osl : Array (Option Value)),
    fd = PySem.W.fnOf x qual (defArgs st) (defBody st) (defScope st) .none kV doc pm an cdv ct ∧ K.lookup f = some ⟨oc, od, .func fd, osl⟩ ∧ PySem.W.codeIn K cdv qual = true
  kp : PySem.W.keepIn K (.ref f) = true
section
variable {P : Program} {w : World} {K : PySem.W.Frag} {mg : Str → Option Value} {base : Heap}
/-- THE RULE for a def: its body as a term of rules, and the reading of that term -/
theorem Fun.ok {x qual : Str} {st : Stmt} {f : Addr} {fd : FuncData} {N ps : List Str} {k : Nat} {sp : Sp} (F : Fun K x qual st f fd) (S : FnScope N ps (defScope st)) (len : ∀ vs H Q E, sp vs H Q E → vs.length = ps.length)
    (hbody : ∀ (cdv : Value) (A : Around) (outer : List Env) (s : Shared) (H : Hp) (vs : List V) (Q : VK) (E : XK), Room k (A.deeper (envOfC qual (defScope st) s.heap.objs.size f cdv)) → sp vs H Q E →
      ∃ t, PSs (cxOf CX0 P w K mg base N qual (defScope st) f cdv A outer s H E).nox (defBody st) t ∧ t { nx := fun _ H' => Q .non H', rt := Q } (start N vs) H) : FnOk P w K mg base CX0 (k + 1) f fd ps sp := by
  obtain ⟨oc, od, kV, doc, pm, an, cdv, ct, osl, rfl, lk, hcd⟩ := F.ex
  refine fn_of lk hcd S len fun A outer s H vs Q E hr hsp => ?_
  obtain ⟨t, h, q⟩ := hbody cdv A outer s H vs Q E hr hsp
  exact ⟨t, h.nox, q⟩
/-- how its arguments bind (no defaults): h is «fun _ _ _ _ _ _ us hl => match us, hl with | [_, _], _ => rfl», one _ a parameter -/
theorem Fun.binds {x qual : Str} {st : Stmt} {f : Addr} {fd : FuncData} {ps : List Str} (F : Fun K x qual st f fd)
    (h : ∀ (kV doc pm : Value) (an : Option Addr) (cdv ct : Value) (us : List Value), us.length = ps.length → bindArgs (PySem.W.fnOf x qual (defArgs st) (defBody st) (defScope st) .none kV doc pm an cdv ct) ⟨us, []⟩ = pure (ps.zip us)) : Binds K fd ps [] := by
  obtain ⟨oc, od, kV, doc, pm, an, cdv, ct, osl, rfl, lk, hcd⟩ := F.ex
  exact .all (h kV doc pm an cdv ct)
theorem fun_mk {x qual : Str} {st : Stmt} {f : Addr} {oc : Value} {od an : Option Addr} {osl : Array (Option Value)} {kV doc pm cdv ct : Value} (l : K.lookup f = some ⟨oc, od, .func (PySem.W.fnOf x qual (defArgs st) (defBody st) (defScope st) .none kV doc pm an cdv ct), osl⟩)
    (c : PySem.W.codeIn K cdv qual = true) (k : PySem.W.keepIn K (.ref f) = true) : Fun K x qual st f (PySem.W.fnOf x qual (defArgs st) (defBody st) (defScope st) .none kV doc pm an cdv ct) := ⟨⟨oc, od, kV, doc, pm, an, cdv, ct, osl, rfl, l, c⟩, k⟩
end
/-! ### expressions in short: the name that stands in the i-th slot -/
section
variable {X : Cx}
theorem pv (i : Nat) {x : Str} {pos : Pos} (hN : X.N[i]? = some x := by rfl) (hv : Vis X.env.scope x := by first | exact Or.inl rfl | exact Or.inr (Or.inl rfl) | exact Or.inr (Or.inr rfl)) (hd : (x == ("__debug__" : Str)) = false := by decide)
    (hcd : (x == ("__classdict__" : Str)) = false := by decide) : PE X (.Name x pos) (tVar i) := pe_var hN hv hd hcd
end

/-! ### tests -/
theorem iteF {A B : Prop} (h : B) : if false = true then A else B := by
  rw [if_neg Bool.false_ne_true]
  exact h
theorem iteT {A B : Prop} (h : A) : if true = true then A else B := by
  rw [if_pos rfl]
  exact h
theorem ite2 {c A B : Prop} [Decidable c] (h1 : c → A) (h2 : ¬ c → B) : if c then A else B := by
  by_cases h : c
  · rw [if_pos h]
    exact h1 h
  · rw [if_neg h]
    exact h2 h
/-! ### heaps -/
/-- all that was tracked is as it was -/
def Same (H H' : Hp) : Prop := ∀ b o, H b = some o → H' b = some o
theorem Same.refl (H : Hp) : Same H H := fun _ _ h => h
theorem Same.trans {H H1 H2 : Hp} (a : Same H H1) (b : Same H1 H2) : Same H H2 := fun c o h => b c o (a c o h)
theorem Same.free {H H' : Hp} (e : Same H H') {l : Addr} (h : H' l = Option.none) : H l = Option.none := by
  cases q : H l with
  | none => rfl
  | some o =>
    rw [e l o q] at h
    cases h
theorem Same.seq {K : PySem.W.Frag} {H H' : Hp} {a : Addr} {xs : List V} (e : Same H H') (h : SqL K H a xs) : SqL K H' a xs := by
  rcases h with (h | ⟨o, h⟩) | h
  · exact .inl (.inl (e _ _ h))
  · exact .inl (.inr ⟨o, e _ _ h⟩)
  · exact .inr h

end L2

section
set_option Elab.async false
set_option linter.all false
set_option maxRecDepth 100000
set_option maxHeartbeats 4000000
namespace Sh
open PySem PySem.Spec PyProof.Rows L2

/-! ### rules that the layer lacks -/
section
variable {X : Cx}
theorem sl_str : SlR X (fun x lo hi H Q => ∃ z : Str, x = .str z ∧ z.length ≤ sizeLine ∧ Q (.str (Txt.slice z lo hi)) H) := by
  intro pins s σ H x v vl vu lo hi sl Q I rx hs pl pu h
  obtain ⟨z, rfl, hz, q⟩ := h
  obtain ⟨t, rfl⟩ := rx
  refine ⟨"str", _, F.slot_str_getitem.lookup, typeIs_str _ _ _, ?_⟩
  cases pl with
  | none =>
    cases pu with
    | none => exact wpAny_getItem_str_slice (l := none) (u := none) (st := none) hs rfl (post_val_or_str ⟨Nat.le_trans (Txt.slice_le z _ _) hz, fun t' k => ⟨.str _, H, I.tok k, ⟨t', rfl⟩, q⟩⟩)
    | int j uj => exact wpAny_getItem_str_slice (l := none) (u := some (j, uj)) (st := none) hs rfl (post_val_or_str ⟨Nat.le_trans (Txt.slice_le z _ _) hz, fun t' k => ⟨.str _, H, I.tok k, ⟨t', rfl⟩, q⟩⟩)
  | int i ui =>
    cases pu with
    | none => exact wpAny_getItem_str_slice (l := some (i, ui)) (u := none) (st := none) hs rfl (post_val_or_str ⟨Nat.le_trans (Txt.slice_le z _ _) hz, fun t' k => ⟨.str _, H, I.tok k, ⟨t', rfl⟩, q⟩⟩)
    | int j uj => exact wpAny_getItem_str_slice (l := some (i, ui)) (u := some (j, uj)) (st := none) hs rfl (post_val_or_str ⟨Nat.le_trans (Txt.slice_le z _ _) hz, fun t' k => ⟨.str _, H, I.tok k, ⟨t', rfl⟩, q⟩⟩)

theorem call_isinst : CallR X (.builtin "isinstance") (fun xs H Q => ∃ x T t b, xs = [x, .ty T] ∧ TyOf X.K H x t ∧ PySem.W.kitOne X.K t (.type T) = some b ∧ Q (.bl b) H) := by
  intro pins s σ H xs us Q I r h
  obtain ⟨x, T, t, b, rfl, ty, e, q⟩ := h
  obtain ⟨u, c, rfl, rx, rc⟩ := vals2 r
  cases (show c = Value.type T from rc)
  exact isinst_ok I rx ty e fun tk => ⟨.bl b, H, I.tok tk, rfl, q⟩

theorem kit_int_int {K : PySem.W.Frag} : PySem.W.kitOne K (.type "int") (.type "int") = some true := by with_unfolding_all rfl
theorem kit_int_bool {K : PySem.W.Frag} : PySem.W.kitOne K (.type "int") (.type "bool") = some false := by with_unfolding_all rfl
end
end Sh

end
section
set_option Elab.async false
set_option linter.all false
set_option maxRecDepth 100000
set_option maxHeartbeats 4000000
namespace Sh
open PySem PySem.Spec PyProof.Rows L2

/-! ### words: terms and forms -/
inductive Tag where
  | fn | rel | no | same | cond | all
  deriving DecidableEq
def Tag.s : Tag → Str
  | .fn => "fun" | .rel => "rel" | .no => "no" | .same => "same" | .cond => "if" | .all => "all"
def Tag.named : Tag → Bool
  | .fn => true | .rel => true | _ => false
inductive Wd where
  | var (n : Int)
  | node (t : Tag) (nm : Str) (ps : List Wd)
def Wd.parts : Wd → List Wd
  | .var _ => []
  | .node _ _ ps => ps
mutual
def knots : Wd → Nat
  | .var _ => 1
  | .node _ _ ps => 1 + knotsL ps
def knotsL : List Wd → Nat
  | [] => 0
  | w :: ws => knots w + knotsL ws
end
mutual
def dep : Wd → Nat
  | .var _ => 1
  | .node _ _ ps => 1 + depL ps
def depL : List Wd → Nat
  | [] => 0
  | w :: ws => max (dep w) (depL ws)
end
theorem dep_pos : ∀ w : Wd, 1 ≤ dep w
  | .var _ => by rw [dep]; exact Nat.le_refl _
  | .node _ _ ps => by rw [dep]; omega
theorem knots_pos : ∀ w : Wd, 1 ≤ knots w
  | .var _ => by rw [knots]; exact Nat.le_refl _
  | .node _ _ ps => by rw [knots]; omega
theorem dep_parts {w : Wd} {p : Wd} (h : p ∈ w.parts) : dep p < dep w := by
  have aux : ∀ (ps : List Wd), p ∈ ps → dep p ≤ depL ps := by
    intro ps
    induction ps with
    | nil => intro h; cases h
    | cons q r ih =>
      intro h
      rw [depL]
      rcases List.mem_cons.mp h with rfl | h
      · omega
      · have := ih h; omega
  cases w with
  | var n => cases h
  | node t nm ps =>
    have := aux ps h
    rw [dep]; omega
theorem depL_le {n : Nat} : ∀ {ps : List Wd}, (∀ p ∈ ps, dep p ≤ n) → depL ps ≤ n
  | [], _ => by rw [depL]; omega
  | p :: r, h => by
    have h1 := h p (List.mem_cons_self ..)
    have h2 := depL_le (ps := r) fun q hq => h q (List.mem_cons_of_mem _ hq)
    rw [depL]; omega
theorem knotsL_le {n : Nat} : ∀ {ps : List Wd}, (∀ p ∈ ps, knots p ≤ n) → knotsL ps ≤ ps.length * n
  | [], _ => by simp only [knotsL, List.length_nil, Nat.zero_mul]; exact Nat.le_refl _
  | p :: r, h => by
    have h1 := h p (List.mem_cons_self ..)
    have h2 := knotsL_le (ps := r) fun q hq => h q (List.mem_cons_of_mem _ hq)
    simp only [knotsL, List.length_cons, Nat.add_mul, Nat.one_mul]; omega
theorem len_le_knotsL : ∀ ps : List Wd, ps.length ≤ knotsL ps
  | [] => Nat.zero_le _
  | p :: r => by
    have h1 := knots_pos p
    have h2 := len_le_knotsL r
    rw [knotsL, List.length_cons]; omega

/-! ### names, terms, forms -/
def IsName (x : Str) : Prop := 1 ≤ x.length ∧ x.length ≤ 12 ∧ ∀ c ∈ x.cps.toList, 97 ≤ c ∧ c ≤ 122
def IsTerm : Nat → Wd → Prop
  | _, .var n => 0 ≤ n ∧ n < 1000
  | 0, .node _ _ _ => False
  | d + 1, .node t nm ps => t = .fn ∧ IsName nm ∧ ps.length ≤ 3 ∧ ∀ p ∈ ps, IsTerm d p
def IsForm : Nat → Wd → Prop
  | _, .var _ => False
  | d, .node t nm ps => match t with
    | .fn => False
    | .no => nm = "" ∧ ps = []
    | .same => nm = "" ∧ ∃ a b, ps = [a, b] ∧ IsTerm 2 a ∧ IsTerm 2 b
    | .rel => IsName nm ∧ ps.length ≤ 3 ∧ ∀ p ∈ ps, IsTerm 2 p
    | .cond => match d with
      | 0 => False
      | d + 1 => nm = "" ∧ ∃ a b, ps = [a, b] ∧ IsForm d a ∧ IsForm d b
    | .all => match d with
      | 0 => False
      | d + 1 => nm = "" ∧ ∃ a, ps = [a] ∧ IsForm d a
theorem IsTerm.mono : ∀ {d e : Nat} {w : Wd}, IsTerm d w → d ≤ e → IsTerm e w
  | d, e, .var n, h, _ => by
    have h' : 0 ≤ n ∧ n < 1000 := by cases d <;> simpa only [IsTerm] using h
    cases e <;> simpa only [IsTerm] using h'
  | 0, e, .node t nm ps, h, _ => by simp only [IsTerm] at h
  | d + 1, e, .node t nm ps, h, le => by
    cases e with
    | zero => omega
    | succ e =>
      simp only [IsTerm] at h ⊢
      exact ⟨h.1, h.2.1, h.2.2.1, fun p hp => (h.2.2.2 p hp).mono (by omega)⟩
theorem IsTerm.dep : ∀ {d : Nat} {w : Wd}, IsTerm d w → dep w ≤ d + 1
  | d, .var n, _ => by rw [Sh.dep]; omega
  | 0, .node t nm ps, h => by simp only [IsTerm] at h
  | d + 1, .node t nm ps, h => by
    simp only [IsTerm] at h
    have := depL_le (n := d + 1) fun p hp => (h.2.2.2 p hp).dep
    rw [Sh.dep]; omega
theorem IsTerm.knots2 {w : Wd} (h : IsTerm 2 w) : knots w ≤ 13 := by
  have k0 : ∀ {w : Wd}, IsTerm 0 w → knots w ≤ 1 := by
    intro w h
    cases w with
    | var n => rw [knots]; exact Nat.le_refl _
    | node t nm ps => simp only [IsTerm] at h
  have k1 : ∀ {w : Wd}, IsTerm 1 w → knots w ≤ 4 := by
    intro w h
    cases w with
    | var n => rw [knots]; omega
    | node t nm ps =>
      simp only [IsTerm] at h
      have := knotsL_le (n := 1) fun p hp => k0 (h.2.2.2 p hp)
      have := h.2.2.1
      rw [knots]; omega
  cases w with
  | var n => rw [knots]; omega
  | node t nm ps =>
    simp only [IsTerm] at h
    have := knotsL_le (n := 4) fun p hp => k1 (h.2.2.2 p hp)
    have := h.2.2.1
    rw [knots]; omega
theorem IsForm.mono : ∀ {d e : Nat} {w : Wd}, IsForm d w → d ≤ e → IsForm e w
  | d, e, .var n, h, _ => by simp only [IsForm] at h
  | d, e, .node t nm ps, h, le => by
    cases t with
    | fn => simp only [IsForm] at h
    | no => simp only [IsForm] at h ⊢; exact h
    | same => simp only [IsForm] at h ⊢; exact h
    | rel => simp only [IsForm] at h ⊢; exact h
    | cond =>
      cases d with
      | zero => simp only [IsForm] at h
      | succ d =>
        cases e with
        | zero => omega
        | succ e =>
          simp only [IsForm] at h ⊢
          obtain ⟨h0, a, b, rfl, ha, hb⟩ := h
          exact ⟨h0, a, b, rfl, ha.mono (by omega), hb.mono (by omega)⟩
    | all =>
      cases d with
      | zero => simp only [IsForm] at h
      | succ d =>
        cases e with
        | zero => omega
        | succ e =>
          simp only [IsForm] at h ⊢
          obtain ⟨h0, a, rfl, ha⟩ := h
          exact ⟨h0, a, rfl, ha.mono (by omega)⟩
theorem IsForm.dep : ∀ {d : Nat} {w : Wd}, IsForm d w → dep w ≤ d + 4
  | d, .var n, h => by simp only [IsForm] at h
  | d, .node t nm ps, h => by
    cases t with
    | fn => simp only [IsForm] at h
    | no => simp only [IsForm] at h; rw [h.2, Sh.dep, depL]; omega
    | same =>
      simp only [IsForm] at h
      obtain ⟨_, a, b, rfl, ha, hb⟩ := h
      have := ha.dep; have := hb.dep
      simp only [Sh.dep, depL]; omega
    | rel =>
      simp only [IsForm] at h
      have := depL_le (n := 3) fun p hp => (h.2.2 p hp).dep
      rw [Sh.dep]; omega
    | cond =>
      cases d with
      | zero => simp only [IsForm] at h
      | succ d =>
        simp only [IsForm] at h
        obtain ⟨h0, a, b, rfl, ha, hb⟩ := h
        have := ha.dep; have := hb.dep
        simp only [Sh.dep, depL]; omega
    | all =>
      cases d with
      | zero => simp only [IsForm] at h
      | succ d =>
        simp only [IsForm] at h
        obtain ⟨h0, a, rfl, ha⟩ := h
        have := ha.dep
        simp only [Sh.dep, depL]; omega
theorem IsForm.knots : ∀ {d : Nat} {w : Wd}, IsForm d w → knots w + 1 ≤ 41 * 2 ^ d
  | d, .var n, h => by simp only [IsForm] at h
  | d, .node t nm ps, h => by
    have hp := Nat.one_le_two_pow (n := d)
    cases t with
    | fn => simp only [IsForm] at h
    | no => simp only [IsForm] at h; rw [h.2, Sh.knots, knotsL]; omega
    | same =>
      simp only [IsForm] at h
      obtain ⟨_, a, b, rfl, ha, hb⟩ := h
      have := ha.knots2; have := hb.knots2
      simp only [Sh.knots, knotsL]; omega
    | rel =>
      simp only [IsForm] at h
      have := knotsL_le (n := 13) fun p hp => (h.2.2 p hp).knots2
      rw [Sh.knots]; omega
    | cond =>
      cases d with
      | zero => simp only [IsForm] at h
      | succ d =>
        simp only [IsForm] at h
        obtain ⟨h0, a, b, rfl, ha, hb⟩ := h
        have := ha.knots; have := hb.knots
        simp only [Sh.knots, knotsL, Nat.pow_succ]; omega
    | all =>
      cases d with
      | zero => simp only [IsForm] at h
      | succ d =>
        simp only [IsForm] at h
        obtain ⟨h0, a, rfl, ha⟩ := h
        have := ha.knots
        simp only [Sh.knots, knotsL, Nat.pow_succ]; omega

/-! ### words in the heap -/
inductive Shp (H : Hp) (a : Addr) (t : Tag) (nm : Str) (vs : List V) : Prop
  | named (b : Addr) (hn : t.named = true) (ha : H a = some (.tup [.str t.s, .str nm, .ref b])) (hb : H b = some (.tup vs))
  | plain (hn : t.named = false) (ha : H a = some (.tup (.str t.s :: vs))) (hm : nm = "")
mutual
def Rw (H : Hp) : Wd → V → Prop
  | .var n, v => ∃ a, v = .ref a ∧ H a = some (.tup [.str "var", .int n])
  | .node t nm ps, v => ∃ a vs, v = .ref a ∧ Rws H ps vs ∧ Shp H a t nm vs
def Rws (H : Hp) : List Wd → List V → Prop
  | [], vs => vs = []
  | w :: ws, vs => ∃ v r, vs = v :: r ∧ Rw H w v ∧ Rws H ws r
end
/-- tuples are kept -/
def Tk (H H' : Hp) : Prop := ∀ b xs, H b = some (.tup xs) → H' b = some (.tup xs)
theorem Tk.refl (H : Hp) : Tk H H := fun _ _ h => h
theorem Tk.trans {H H1 H2 : Hp} (a : Tk H H1) (b : Tk H1 H2) : Tk H H2 := fun c o h => b c o (a c o h)
theorem tk_lst {H : Hp} {p : Addr} {xs : List V} (h : H p = some (.lst xs)) (o : HO) : Tk H (upd H p o) := fun b ys q => by
  rw [upd_ne (ne_of q h (by intro z; cases z))]; exact q
theorem Shp.mono {H H' : Hp} (k : Tk H H') {a : Addr} {t : Tag} {nm : Str} {vs : List V} (h : Shp H a t nm vs) : Shp H' a t nm vs := by
  cases h with
  | named b hn ha hb => exact .named b hn (k _ _ ha) (k _ _ hb)
  | plain hn ha hm => exact .plain hn (k _ _ ha) hm
mutual
theorem Rw.mono {H H' : Hp} (k : Tk H H') : ∀ {w : Wd} {v : V}, Rw H w v → Rw H' w v
  | .var n, v, h => by
    rw [Rw] at h ⊢
    obtain ⟨a, e, q⟩ := h
    exact ⟨a, e, k _ _ q⟩
  | .node t nm ps, v, h => by
    rw [Rw] at h ⊢
    obtain ⟨a, vs, e, q, r⟩ := h
    exact ⟨a, vs, e, Rws.mono k q, r.mono k⟩
theorem Rws.mono {H H' : Hp} (k : Tk H H') : ∀ {ws : List Wd} {vs : List V}, Rws H ws vs → Rws H' ws vs
  | [], vs, h => by rw [Rws] at h ⊢; exact h
  | w :: ws, vs, h => by
    rw [Rws] at h ⊢
    obtain ⟨v, r, e, q, z⟩ := h
    exact ⟨v, r, e, Rw.mono k q, Rws.mono k z⟩
end
theorem Rws.nil {H : Hp} : Rws H [] [] := by rw [Rws]
theorem Rws.cons {H : Hp} {w : Wd} {ws : List Wd} {v : V} {vs : List V} (h : Rw H w v) (r : Rws H ws vs) : Rws H (w :: ws) (v :: vs) := by
  rw [Rws]; exact ⟨v, vs, rfl, h, r⟩
theorem Rws.length {H : Hp} : ∀ {ws : List Wd} {vs : List V}, Rws H ws vs → vs.length = ws.length
  | [], vs, h => by rw [Rws] at h; rw [h]; rfl
  | w :: ws, vs, h => by
    rw [Rws] at h
    obtain ⟨v, r, rfl, _, z⟩ := h
    rw [List.length_cons, List.length_cons, Rws.length z]
theorem Rws.get {H : Hp} : ∀ {ws : List Wd} {vs : List V} {i : Nat} {v : V}, Rws H ws vs → vs[i]? = some v → ∃ w, ws[i]? = some w ∧ Rw H w v
  | [], vs, i, v, h, e => by rw [Rws] at h; subst h; cases e
  | w :: ws, vs, i, v, h, e => by
    rw [Rws] at h
    obtain ⟨u, r, rfl, q, z⟩ := h
    cases i with
    | zero =>
      have e' : u = v := Option.some.inj (by simpa using e)
      subst e'
      exact ⟨w, rfl, q⟩
    | succ i => exact Rws.get (i := i) z (by simpa using e)
theorem Rws.append {H : Hp} : ∀ {ws : List Wd} {vs : List V} {ws' : List Wd} {vs' : List V}, Rws H ws vs → Rws H ws' vs' → Rws H (ws ++ ws') (vs ++ vs')
  | [], vs, ws', vs', h, h' => by rw [Rws] at h; subst h; exact h'
  | w :: ws, vs, ws', vs', h, h' => by
    rw [Rws] at h
    obtain ⟨u, r, rfl, q, z⟩ := h
    exact Rws.cons q (Rws.append z h')
theorem Rws.snoc {H : Hp} {ws : List Wd} {vs : List V} {w : Wd} {v : V} (h : Rws H ws vs) (q : Rw H w v) : Rws H (ws ++ [w]) (vs ++ [v]) := h.append (.cons q .nil)
theorem Rw.var {H : Hp} {a : Addr} {n : Int} (h : H a = some (.tup [.str "var", .int n])) : Rw H (.var n) (.ref a) := by rw [Rw]; exact ⟨a, rfl, h⟩
theorem Rw.node {H : Hp} {a : Addr} {t : Tag} {nm : Str} {ps : List Wd} {vs : List V} (r : Rws H ps vs) (h : Shp H a t nm vs) : Rw H (.node t nm ps) (.ref a) := by rw [Rw]; exact ⟨a, vs, rfl, r, h⟩

/-! ### places -/
theorem at0 {α : Type} {x : α} {xs : List α} : atI (x :: xs) 0 = some x := by simp [atI, ixN]
theorem at1 {α : Type} {x y : α} {xs : List α} : atI (x :: y :: xs) 1 = some y := by
  have h : (1 : Int) < ((x :: y :: xs).length : Int) := by simp only [List.length_cons]; omega
  unfold atI ixN; rw [if_pos (by decide), if_pos h]; rfl
theorem at2 {α : Type} {x y z : α} {xs : List α} : atI (x :: y :: z :: xs) 2 = some z := by
  have h : (2 : Int) < ((x :: y :: z :: xs).length : Int) := by simp only [List.length_cons]; omega
  unfold atI ixN; rw [if_pos (by decide), if_pos h]; rfl

/-! ### tags as texts -/
theorem tag_var (t : Tag) : decide (V.str t.s = V.str "var") = false := by cases t <;> decide +kernel
theorem var_var : decide (V.str "var" = V.str "var") = true := decide_eq_true rfl
end Sh

end
section
set_option Elab.async false
set_option linter.all false
set_option maxRecDepth 100000
set_option maxHeartbeats 4000000
namespace Sh
open PySem PySem.Spec PyProof.Rows L2

/-! ### a def of the text, and its promise, by its name -/
def Def (K : PySem.W.Frag) (mg : Str → Option Value) (x : Str) (st : Stmt) (ps : List Str) : Prop :=
  ∃ f fd, Fun K x x st f fd ∧ Binds K fd ps [] ∧ mg x = some (.ref f)
def Ok (P : Program) (w : World) (K : PySem.W.Frag) (mg : Str → Option Value) (base : Heap) (x : Str) (ps : List Str) (k : Nat) (sp : Sp) : Prop :=
  ∃ f fd, FnOk P w K mg base CX0 k f fd ps sp ∧ Binds K fd ps [] ∧ mg x = some (.ref f) ∧ PySem.W.keepIn K (.ref f) = true
section
variable {P : Program} {w : World} {K : PySem.W.Frag} {mg : Str → Option Value} {base : Heap} {x : Str} {st : Stmt} {N ps : List Str} {k : Nat} {sp : Sp}
theorem Def.ok (D : Def K mg x st ps) (S : FnScope N ps (defScope st)) (len : ∀ vs H Q E, sp vs H Q E → vs.length = ps.length)
    (hbody : ∀ (f : Addr) (cdv : Value) (A : Around) (outer : List Env) (s : Shared) (H : Hp) (vs : List V) (Q : VK) (E : XK), Room k (A.deeper (envOfC x (defScope st) s.heap.objs.size f cdv)) → sp vs H Q E →
      ∃ t, PSs (cxOf CX0 P w K mg base N x (defScope st) f cdv A outer s H E).nox (defBody st) t ∧ t { nx := fun _ H' => Q .non H', rt := Q } (start N vs) H) : Ok P w K mg base x ps (k + 1) sp := by
  obtain ⟨f, fd, F, b, m⟩ := D
  exact ⟨f, fd, F.ok S len (hbody f), b, m, F.kp⟩
theorem Def.void (D : Def K mg x st ps) (no : ∀ vs H Q E, ¬ sp vs H Q E) : Ok P w K mg base x ps k sp := by
  obtain ⟨f, fd, F, b, m⟩ := D
  exact ⟨f, fd, ⟨fun vs H Q E h => absurd h (no vs H Q E), fun A outer s H args us vs Q E _ _ _ _ h => absurd h (no vs H Q E)⟩, b, m, F.kp⟩
theorem Ok.mono {j : Nat} (G : Ok P w K mg base x ps k sp) (h : k ≤ j) : Ok P w K mg base x ps j sp := by
  obtain ⟨f, fd, F, r⟩ := G
  exact ⟨f, fd, F.mono h, r⟩
theorem Ok.imp {sp' : Sp} (G : Ok P w K mg base x ps k sp) (h : ∀ vs H Q E, sp' vs H Q E → sp vs H Q E) : Ok P w K mg base x ps k sp' := by
  obtain ⟨f, fd, F, r⟩ := G
  exact ⟨f, fd, F.imp h, r⟩
end
section
variable {X : Cx} {x : Str} {ps : List Str} {k j : Nat} {sp : Sp} {p pos : Pos} {e : Expr} {es : List Expr} {t : TA}
theorem pe_ok (G : Ok X.prog X.w X.K X.mg X.base x ps k sp) (hr : Room j X.A) (hk : k ≤ j) (hg : Gl X x) (ha : PA X (e :: es) t) (hdb : (x == ("__debug__" : Str)) = false := by decide)
    (he : starEach (e :: es) X.env = (false, eval e X.env) :: starEach es X.env := by rfl) (hpl : (backTo pos (starEach es X.env)).any (·.1) = false := by rfl) : PE X (.Call (.Name x p) (e :: es) [] pos) (tCall sp [] E0 t) := by
  obtain ⟨f, fd, F, b, m, kp⟩ := G
  exact pe_call F (hr.mono hk) hg m kp b .nil pass0 ha hdb he hpl
end
/-! ### the built-in names are not the module's -/
structure Blt (mg : Str → Option Value) : Prop where
  len : mg "len" = none
  range : mg "range" = none
  int : mg "int" = none
  bool : mg "bool" = none
  str : mg "str" = none
  tuple : mg "tuple" = none
  isinstance : mg "isinstance" = none
  zip : mg "zip" = none
  list : mg "list" = none
  sorted : mg "sorted" = none
  max : mg "max" = none
  min : mg "min" = none
  ord : mg "ord" = none
  enumerate : mg "enumerate" = none
  dict : mg "dict" = none
  sum : mg "sum" = none
  ValueError : mg "ValueError" = none
section
variable {X : Cx} {pos : Pos}
theorem pe_ty_int {p : Pos} (h : X.mg "int" = none) (hg : Gl X "int") : PE X (.Name "int" p) (tC (.ty "int")) := pe_bltn hg h PyProof.Rows.boot_int rfl
theorem pe_ty_bool {p : Pos} (h : X.mg "bool" = none) (hg : Gl X "bool") : PE X (.Name "bool" p) (tC (.ty "bool")) := pe_bltn hg h PyProof.Rows.boot_bool rfl
end
theorem sIx_one {n d : Nat} : HT.sIx (n + 1) d (some 1) = 1 := by
  have := HT.sIx_nat (n + 1) d 1
  have e : min 1 (n + 1) = 1 := by omega
  rw [e] at this
  exact this
theorem cut_tail {x : V} {xs : List V} : cutV (x :: xs) (some 1) none = xs := by
  unfold cutV
  rw [HT.sIx_none, List.length_cons, sIx_one]
  simp
theorem five (k : Int) : ∃ c : Int, atI [V.int 48271, V.int 69621, V.int 16807, V.int 40692, V.int 39373] (k % 5) = some (V.int c) ∧ -1000000 < c ∧ c < 1000000 := by
  have h0 := Int.emod_nonneg k (show (5 : Int) ≠ 0 by decide)
  have h1 := Int.emod_lt_of_pos k (show (0 : Int) < 5 by decide)
  have h : k % 5 = 0 ∨ k % 5 = 1 ∨ k % 5 = 2 ∨ k % 5 = 3 ∨ k % 5 = 4 := by omega
  rcases h with e | e | e | e | e <;> rw [e]
  · exact ⟨48271, by decide, by decide, by decide⟩
  · exact ⟨69621, by decide, by decide, by decide⟩
  · exact ⟨16807, by decide, by decide, by decide⟩
  · exact ⟨40692, by decide, by decide, by decide⟩
  · exact ⟨39373, by decide, by decide, by decide⟩
theorem alpha_list : ("abcdefghijklmnopqrstuvwxyz" : Str).cps.toList = List.range' 97 26 := by decide +kernel
theorem alpha (m : Int) : ∃ c : Nat, atI ("abcdefghijklmnopqrstuvwxyz" : Str).cps.toList (m % 26) = some c ∧ 97 ≤ c ∧ c ≤ 122 := by
  have h0 := Int.emod_nonneg m (show (26 : Int) ≠ 0 by decide)
  have h1 := Int.emod_lt_of_pos m (show (0 : Int) < 26 by decide)
  obtain ⟨k, e⟩ : ∃ k : Nat, m % 26 = (k : Int) := ⟨(m % 26).toNat, by omega⟩
  refine ⟨97 + k, ?_, by omega, by omega⟩
  rw [e, alpha_list]
  refine atI_nat ?_
  rw [List.getElem?_range' (by omega)]
  simp
theorem str_add_cps (x y : Str) : (x ++ y).cps.toList = x.cps.toList ++ y.cps.toList := by
  show (x.cps ++ y.cps).toList = _
  rw [Array.toList_append]
theorem str_add_len (x y : Str) : (x ++ y).length = x.length + y.length := by
  show (x.cps ++ y.cps).size = _
  rw [Array.size_append]
  rfl
theorem mem_slice {x : Str} {l u : Option Int} {c : Nat} (h : c ∈ (Txt.slice x l u).cps.toList) : c ∈ x.cps.toList := by
  unfold Txt.slice at h
  split at h
  · exact h
  · obtain ⟨i, hi, e⟩ := List.mem_filterMap.mp (by simpa using h)
    exact Array.mem_toList_iff.mpr (Array.mem_of_getElem? e)
theorem name_head {x : Str} (h : IsName x) : IsName (Txt.slice x none (some 1)) := by
  have hl := Txt.slice_le x none (some 1)
  refine ⟨?_, Nat.le_trans hl h.2.1, fun c hc => h.2.2 c (mem_slice hc)⟩
  have h1 := h.1
  unfold Txt.slice
  split
  · exact h1
  · have e : Builtin.Str.strSliceIndices none (some 1) 1 x.length = [0] := by
      obtain ⟨n, hn⟩ : ∃ n, x.length = n + 1 := ⟨x.length - 1, by omega⟩
      rw [hn]
      show sliceRange 0 (max 0 (min 1 ((n + 1 : Nat) : Int))) 1 = [0]
      have e1 : max 0 (min 1 ((n + 1 : Nat) : Int)) = 1 := by omega
      rw [e1]
      decide
    have h2 : 0 < x.cps.size := h1
    rw [e]
    simp [Str.length, h2]
theorem orJoin {c : Prop} [Decidable c] {T U rest : Prop} (hT : T) (hrest : ¬ c → T → rest) : if c then (if true = true then T else U) else rest := by
  by_cases h : c
  · rw [if_pos h, if_pos rfl]; exact hT
  · rw [if_neg h]; exact hrest h hT
theorem fst_of (b : Bool) : ∃ ft : Nat, V.int (1 + if b = true then 1 else 0) = V.int ft ∧ ft ≤ 2 := by
  cases b
  · exact ⟨1, rfl, by omega⟩
  · exact ⟨2, rfl, by omega⟩
theorem IsForm.no {d : Nat} : IsForm d (.node .no "" []) := by rw [IsForm]; exact ⟨rfl, rfl⟩
theorem IsForm.same {d : Nat} {a b : Wd} (ha : IsTerm 2 a) (hb : IsTerm 2 b) : IsForm d (.node .same "" [a, b]) := by rw [IsForm]; exact ⟨rfl, a, b, rfl, ha, hb⟩
theorem IsForm.rel {d : Nat} {nm : Str} {ps : List Wd} (hn : IsName nm) (hl : ps.length ≤ 3) (hp : ∀ p ∈ ps, IsTerm 2 p) : IsForm d (.node .rel nm ps) := by rw [IsForm]; exact ⟨hn, hl, hp⟩
theorem IsForm.cond {d : Nat} {a b : Wd} (ha : IsForm d a) (hb : IsForm d b) : IsForm (d + 1) (.node .cond "" [a, b]) := by rw [IsForm]; exact ⟨rfl, a, b, rfl, ha, hb⟩
theorem IsForm.all {d : Nat} {a : Wd} (ha : IsForm d a) : IsForm (d + 1) (.node .all "" [a]) := by rw [IsForm]; exact ⟨rfl, a, rfl, ha⟩
theorem tag_no (t : Tag) : decide (V.str t.s = V.str "no") = decide (t = .no) := by cases t <;> decide +kernel
theorem tag_fun (t : Tag) : decide (V.str t.s = V.str "fun") = decide (t = .fn) := by cases t <;> decide +kernel
theorem tag_rel (t : Tag) : decide (V.str t.s = V.str "rel") = decide (t = .rel) := by cases t <;> decide +kernel
theorem tag_all (t : Tag) : decide (V.str t.s = V.str "all") = decide (t = .all) := by cases t <;> decide +kernel
theorem tag_same (t : Tag) : decide (V.str t.s = V.str "same") = decide (t = .same) := by cases t <;> decide +kernel
theorem tag_if (t : Tag) : decide (V.str t.s = V.str "if") = decide (t = .cond) := by cases t <;> decide +kernel

/-! ### what holds of every word within a word -/
mutual
def Her (p : Wd → Prop) : Wd → Prop
  | .var n => p (.var n)
  | .node t nm ps => p (.node t nm ps) ∧ HerL p ps
def HerL (p : Wd → Prop) : List Wd → Prop
  | [] => True
  | w :: ws => Her p w ∧ HerL p ws
end
theorem her_at {p : Wd → Prop} {w : Wd} (h : Her p w) : p w := by
  cases w with
  | var n => exact h
  | node t nm ps => exact h.1
theorem her_parts {p : Wd → Prop} {w : Wd} (h : Her p w) : HerL p w.parts := by
  cases w with
  | var n => exact True.intro
  | node t nm ps => exact h.2
theorem herL_of {p : Wd → Prop} : ∀ {ws : List Wd}, (∀ w ∈ ws, Her p w) → HerL p ws
  | [], _ => True.intro
  | w :: r, h => ⟨h w (List.mem_cons_self ..), herL_of fun u hu => h u (List.mem_cons_of_mem _ hu)⟩
theorem herL_mem {p : Wd → Prop} : ∀ {ws : List Wd} {w : Wd}, HerL p ws → w ∈ ws → Her p w
  | [], w, _, h => by cases h
  | u :: r, w, h, m => by
    rcases List.mem_cons.mp m with rfl | m
    · exact h.1
    · exact herL_mem h.2 m
/-- a form that is never so has no parts -/
def noOk (w : Wd) : Prop := ∀ nm ps, w = .node .no nm ps → ps = []
theorem her_term : ∀ {d : Nat} {w : Wd}, IsTerm d w → Her noOk w
  | d, .var n, _ => fun nm ps e => by cases e
  | 0, .node t nm ps, h => by simp only [IsTerm] at h
  | d + 1, .node t nm ps, h => by
    simp only [IsTerm] at h
    exact ⟨fun nm' ps' e => (by cases e; cases h.1), herL_of fun p hp => her_term (h.2.2.2 p hp)⟩
theorem her_form : ∀ {d : Nat} {w : Wd}, IsForm d w → Her noOk w
  | d, .var n, h => by simp only [IsForm] at h
  | d, .node t nm ps, h => by
    cases t with
    | fn => simp only [IsForm] at h
    | no =>
      simp only [IsForm] at h
      obtain ⟨_, rfl⟩ := h
      exact ⟨fun nm' ps' e => (by cases e; rfl), True.intro⟩
    | same =>
      simp only [IsForm] at h
      obtain ⟨_, a, b, rfl, ha, hb⟩ := h
      exact ⟨fun nm' ps' e => (by cases e), her_term ha, her_term hb, True.intro⟩
    | rel =>
      simp only [IsForm] at h
      exact ⟨fun nm' ps' e => (by cases e), herL_of fun p hp => her_term (h.2.2 p hp)⟩
    | cond =>
      cases d with
      | zero => simp only [IsForm] at h
      | succ d =>
        simp only [IsForm] at h
        obtain ⟨h0, a, b, rfl, ha, hb⟩ := h
        exact ⟨fun nm' ps' e => (by cases e), her_form ha, her_form hb, True.intro⟩
    | all =>
      cases d with
      | zero => simp only [IsForm] at h
      | succ d =>
        simp only [IsForm] at h
        obtain ⟨h0, a, rfl, ha⟩ := h
        exact ⟨fun nm' ps' e => (by cases e), her_form ha, True.intro⟩
end Sh

end
section
set_option Elab.async false
set_option linter.all false
set_option maxRecDepth 100000
set_option maxHeartbeats 4000000
namespace Sh
open PySem PySem.Spec PyProof.Rows L2

/-! ### things that are known by their very object; laying them by, taking them back -/
def Is (a : Addr) (o : Obj) : Heap → Prop := fun h => h.get? a = some o
def ups (H : Hp) (cs : List (Addr × Obj)) : Hp := fun b => match cs.lookup b with | some o => some (.ext (Is b o)) | none => H b
def dels (H : Hp) (cs : List (Addr × Obj)) : Hp := fun b => match cs.lookup b with | some _ => none | none => H b
section
variable {H : Hp} {cs : List (Addr × Obj)} {b : Addr} {o : Obj}
end
section
variable {P : Program} {w : World} {H H' : Hp} {h h' : Heap} {cs : List (Addr × Obj)}
end

/-! ### the table of a def's inner defs: empty, or with the one code in it -/
def CodeIn (H : Hp) (c : Addr) (q : Str) : Prop := ∃ co vs t, H c = some (.ext (Is c co)) ∧ co.data = .fields vs ∧ vs[1]? = some (.str q t)
/-- which tables there are: the place and the name of the one inner def -/
class Inn where
  at_ : Addr → Option (Pos × Str)
variable [Inn]
def TabI (H : Hp) (T : Addr) : Prop :=
  ∃ pos q, Inn.at_ T = some (pos, q) ∧ ∃ ps, H T = some (.tbl ps) ∧ (ps = #[] ∨ ∃ c, ps = #[rawInt pos.line, rawInt pos.col, .ref c] ∧ CodeIn H c q)
def Fx : HO → Bool
  | .tbl _ => false
  | _ => true
/-- all that was tracked is as it was; tables may have grown -/
structure Same (H H' : Hp) : Prop where
  fix : ∀ b o, H b = some o → Fx o = true → H' b = some o
  tab : ∀ T, TabI H T → TabI H' T
theorem Same.refl (H : Hp) : Same H H := ⟨fun _ _ h _ => h, fun _ h => h⟩
theorem Same.trans {H H1 H2 : Hp} (a : Same H H1) (b : Same H1 H2) : Same H H2 := ⟨fun c o h f => b.fix c o (a.fix c o h f) f, fun T h => b.tab T (a.tab T h)⟩
theorem Same.at {H H' : Hp} (s : Same H H') {b : Addr} {o : HO} (h : H b = some o) (f : Fx o = true := by rfl) : H' b = some o := s.fix b o h f
theorem CodeIn.mono {H H' : Hp} {c : Addr} {q : Str} (h : CodeIn H c q) (k : ∀ b o, H b = some (.ext (Is b o)) → H' b = some (.ext (Is b o))) : CodeIn H' c q := by
  obtain ⟨co, vs, t, e, r⟩ := h
  exact ⟨co, vs, t, k _ _ e, r⟩
theorem TabI.mono {H H' : Hp} {T : Addr} (h : TabI H T) (kt : ∀ ps, H T = some (.tbl ps) → H' T = some (.tbl ps)) (k : ∀ b o, H b = some (.ext (Is b o)) → H' b = some (.ext (Is b o))) : TabI H' T := by
  obtain ⟨pos, q, hi, ps, e, r⟩ := h
  refine ⟨pos, q, hi, ps, kt ps e, ?_⟩
  rcases r with r | ⟨c, r, z⟩
  · exact .inl r
  · exact .inr ⟨c, r, z.mono k⟩
theorem same_of {H H' : Hp} (k : ∀ b o, H b = some o → H' b = some o) : Same H H' := ⟨fun b o h _ => k b o h, fun T h => h.mono (fun ps e => k _ _ e) fun b o e => k _ _ e⟩
theorem same_new {H : Hp} {p : Addr} (h : H p = none) (o : HO) : Same H (upd H p o) := same_of fun b u q => by rw [upd_ne (ne_of_none q h)]; exact q
theorem same_own {H0 H : Hp} {p : Addr} {xs : List V} (s : Same H0 H) (h : H0 p = none) (hx : H p = some (.lst xs)) (o : HO) : Same H0 (upd H p o) :=
  ⟨fun b u q f => by rw [upd_ne (ne_of_none q h)]; exact s.fix b u q f, fun T z => (s.tab T z).mono (fun ps e => by rw [upd_ne (ne_of e hx (by intro z; cases z))]; exact e) fun b o' e => by rw [upd_ne (ne_of e hx (by intro z; cases z))]; exact e⟩
theorem tk_of {H H' : Hp} (h : Same H H') : Tk H H' := fun b xs e => h.at e
theorem Same.seq {K : PySem.W.Frag} {H H' : Hp} {a : Addr} {xs : List V} (e : Same H H') (h : SqL K H a xs) : SqL K H' a xs := by
  rcases h with (h | ⟨o, h⟩) | h
  · exact .inl (.inl (e.at h))
  · exact .inl (.inr ⟨o, e.at h⟩)
  · exact .inr h
theorem Same.free {H H' : Hp} (e : Same H H') {l : Addr} (h : H' l = Option.none) (f : ∀ ps, H l ≠ some (.tbl ps)) : H l = Option.none := by
  cases q : H l with
  | none => rfl
  | some o =>
    cases o with
    | tbl ps => exact absurd q (f ps)
    | _ => rw [e.at q] at h; cases h
/-- no code stands among the things at cs -/
def NC (H : Hp) (cs : List (Addr × Obj)) : Prop := ∀ c co vs, H c = some (.ext (Is c co)) → co.data = .fields vs → cs.lookup c = none
/-! ### a closure: what of it stands in the heap -/
/-- the function at f, its code, the cells at cs -/
structure CloH (H : Hp) (f : Addr) (fd : FuncData) : Prop where
  fn : ∃ fo, H f = some (.ext (Is f fo)) ∧ fo.data = .func fd
  code : ∃ c, fd.code = .ref c ∧ CodeIn H c fd.qualname
theorem CloH.mono {H H' : Hp} {f : Addr} {fd : FuncData} (h : CloH H f fd) (s : Same H H') : CloH H' f fd := by
  obtain ⟨fo, e, d⟩ := h.fn
  obtain ⟨c, e2, z⟩ := h.code
  exact ⟨⟨fo, s.at e, d⟩, ⟨c, e2, z.mono fun b o q => s.at q⟩⟩
/-- the captured names' values: each name has a cell of cs -/
def Caps (cl : List (Str × Addr)) (fr : List Str) (cvs : List V) (cs : List (Addr × Obj)) : Prop :=
  (∀ (i : Nat) (x : Str) (v : V), fr[i]? = some x → cvs[i]? = some v → ∃ c o u, cl.lookup x = some c ∧ cs.lookup c = some o ∧ o.data = .cell (some u) ∧ RelV v u) ∧
  (∀ x c, cl.lookup x = some c → ∃ o v, cs.lookup c = some o ∧ o.data = .cell v) ∧ ∀ c o, cs.lookup c = some o → ∃ v, o.data = .cell v
/-! ### the body of a closure -/
abbrev envF (fd : FuncData) (f L : Addr) : Env := { scope := fd.scope, locals := L, globals := fd.globals, cells := fd.closure, qual := fd.qualname ++ ".<locals>.", func := some f, code := fd.code, frame := some L, builtins := fd.builtins }
def cxClo (P : Program) (w : World) (K : PySem.W.Frag) (mg : Str → Option Value) (base : Heap) (N : List Str) (fd : FuncData) (f : Addr) (A : Around) (outer : List Env) (s : Shared) (H : Hp) : Cx where
  prog := P
  w := w
  K := K
  mg := mg
  base := base
  A := A.deeper (envF fd f s.heap.objs.size)
  N := N
  s₀ := s
  H₀ := H
  env := envF fd f s.heap.objs.size
  outer := outer
  stack := envF fd f s.heap.objs.size :: outer
  ex := []
  calm := true
  fn := fun _ => false
  pn := []
  xe := fun _ _ => False
structure CloScope (N ps fr : List Str) (sc : Scope) : Prop where
  kind : sc.kind = .function
  co : sc.isCoroutine = false
  gen : sc.isGenerator = false
  nd : N.Nodup
  pre : N.take (ps.length + fr.length) = ps ++ fr
  par : ∀ x ∈ ps, sc.names.lookup x = some .local
  fre : ∀ x ∈ fr, sc.names.lookup x = some .free
  all : ∀ y ∈ sc.names, y.2 = .free → y.1 ∈ fr
  nocell : ∀ y ∈ sc.names, y.2 ≠ .cell
/-- a body's end, expressions and statements alike -/
def BodyOk (X : Cx) (b : FuncBody) (Q : VK) (σ : L2.St) (H : Hp) : Prop := match b with
  | .stmts sts => ∃ t, PSs X sts t ∧ t { nx := fun _ H' => Q .non H', rt := Q } σ H
  | .expr e => ∃ t, PE X e t ∧ t σ H Q
end Sh

end
section
set_option Elab.async false
set_option linter.all false
set_option maxRecDepth 100000
set_option maxHeartbeats 4000000
namespace Sh
open PySem PySem.Spec PyProof.Rows L2
variable [Inn]

/-! ### where a def of the text keeps the codes of its inner defs -/
structure Tab (base : Heap) (mg : Str → Option Value) (c T : Addr) : Prop where
  code : PySem.W.CodeHd base c T
  blt : base.BuiltinsAt mg T
  gl : mainGlobals ≠ T
section
variable {X : Cx} {pins : List (Addr × Obj)} {σ : L2.St} {H : Hp} {s : Shared} {c T : Addr}
end

/-! ### a lambda; an inner def -/
/-- the function is made: at f, its data fd -/
def tFun (T : Addr) (q : Str) (mk : Value → Value → Value → Value → FuncData) : TE := fun _ H Q => TabI H T ∧ ∀ f fd H', Same H H' → (∃ doc pm c ctv, fd = mk doc pm (.ref c) ctv) → CloH H' f fd → Q (.ref f) H'
section
variable {X : Cx} {params : Arguments} {scope : Scope} {pos : Pos} {c T : Addr} {clos : List (Str × Addr)}
/-- def name(..): .. within a def -/
def sFun (T : Addr) (q : Str) (i : Nat) (mk : Value → Value → Value → Value → FuncData) : TS := fun D σ H => tFun T q mk σ H fun v H' => D.nx (σ.set i (some v)) H'
end

/-! ### a call of a def that is given a closure: the cells that the closure has are laid by for the callee -/
/-- cap: the slots and the names whose cells they are -/
def CapsOf (env : Env) (σ : L2.St) (cap : List (Nat × Str)) (cs : List (Addr × Obj)) : Prop :=
  (∀ i x, (i, x) ∈ cap → ∃ c o u v, env.cells.lookup x = some c ∧ cs.lookup c = some o ∧ σ[i]? = some (some v) ∧ o.data = .cell (some u) ∧ RelV v u) ∧ (∀ c o, cs.lookup c = some o → ∃ v, o.data = .cell v)
def tCallC (X : Cx) (x : Str) (ps : List Str) (k : Nat) (cap : List (Nat × Str)) (t : TA) : TE := fun σ H Q => (∀ i x, (i, x) ∈ cap → ∃ v, σ[i]? = some (some v)) ∧ t σ H fun vs H1 => ∃ sp, Ok X.prog X.w X.K X.mg X.base x ps k sp ∧
  ∀ cs, CapsOf X.env σ cap cs → (∀ b o, cs.lookup b = some o → H1 b = none) → sp vs (ups H1 cs) (fun r H2 => (∀ b o, cs.lookup b = some o → H2 b = some (.ext (Is b o))) ∧ (NC H2 cs → Q r (dels H2 cs))) E0
section
variable {X : Cx} {x : Str} {ps : List Str} {k j : Nat} {cap : List (Nat × Str)} {p pos : Pos} {e : Expr} {es : List Expr} {t : TA}
end

/-! ### a call of a function that a name holds -/
def tCallV (X : Cx) (i k : Nat) (t : TA) : TE := fun σ H Q => ∃ f fd, σ[i]? = some (some (.ref f)) ∧ (∃ fo, H f = some (.ext (Is f fo)) ∧ fo.data = .func fd) ∧ t σ H fun vs H1 => (∃ fo, H1 f = some (.ext (Is f fo)) ∧ fo.data = .func fd) ∧
  ∃ ps sp, FnOk X.prog X.w X.K X.mg X.base CX0 k f fd ps sp ∧ Binds X.K fd ps [] ∧ sp vs H1 Q E0
section
variable {X : Cx} {x : Str} {i k j : Nat} {p pos : Pos} {e : Expr} {es : List Expr} {t : TA}
end
end Sh

end
section
set_option Elab.async false
set_option linter.all false
set_option maxRecDepth 100000
set_option maxHeartbeats 4000000
namespace Sh
open PySem PySem.Spec PyProof.Rows L2

/-! ### [elt for x in iter] -/
def clOf (scope : Scope) (env : Env) : List (Str × Addr) := (scope.names.filterMap fun y => if y.2 == .free then (env.cells.lookup y.1).map fun c => (y.1, c) else none).reverse
theorem clOf_mem {scope : Scope} {env : Env} {x : Str} {c : Addr} (h : (x, c) ∈ clOf scope env) : env.cells.lookup x = some c := by
  unfold clOf at h
  rw [List.mem_reverse] at h
  obtain ⟨⟨n, k⟩, _, e⟩ := List.mem_filterMap.mp h
  split at e
  · cases q : env.cells.lookup n with
    | none => simp only [q] at e; cases e
    | some d =>
      simp only [q] at e
      cases e
      exact q
  · cases e
theorem clOf_some {scope : Scope} {env : Env} {x : Str} {c : Addr} (h : (clOf scope env).lookup x = some c) : env.cells.lookup x = some c := clOf_mem (PySem.mem_of_lookup h)
theorem lookup_of_key {α : Type} {x : Str} : ∀ {l : List (Str × α)}, (∃ v, (x, v) ∈ l) → ∃ v, l.lookup x = some v
  | [], ⟨v, h⟩ => by cases h
  | (y, u) :: r, ⟨v, h⟩ => by
    rw [List.lookup_cons]
    by_cases e : x = y
    · rw [e, beq_self_eq_true]; exact ⟨u, rfl⟩
    · rw [beq_eq_false_iff_ne.mpr e]
      rcases List.mem_cons.mp h with z | z
      · cases z; exact absurd rfl e
      · exact lookup_of_key ⟨v, z⟩
theorem clOf_has {scope : Scope} {env : Env} {x : Str} {c : Addr} (h : (x, NameKind.free) ∈ scope.names) (hc : env.cells.lookup x = some c) : (clOf scope env).lookup x = some c := by
  obtain ⟨v, hv⟩ := lookup_of_key (l := clOf scope env) (x := x) ⟨c, by
    unfold clOf
    rw [List.mem_reverse]
    refine List.mem_filterMap.mpr ⟨(x, .free), h, ?_⟩
    simp [hc]⟩
  have := clOf_some hv
  rw [hc] at this; cases this
  exact hv
/-- the scope of a comprehension within a def's: closed facts -/
structure LcScope (x : Str) (fr : List Str) (sc scope : Scope) : Prop where
  kind : scope.kind = .function
  nocell : ∀ y ∈ scope.names, y.2 ≠ .cell
  loc : scope.names.lookup x = some .local
  names : ∀ y ∈ scope.names, y.2 = .local → scope.names.lookup y.1 = some .local
  sub : ∀ y ∈ scope.names, y.2 = .free → sc.names.lookup y.1 = some .cell ∨ sc.names.lookup y.1 = some .free
  fre : ∀ y ∈ fr, scope.names.lookup y = some .free
  nd : (x :: fr).Nodup
theorem relabel_kind {scope : Scope} {env : Env} {y : Str} : (relabel scope env).names.lookup y = (scope.names.lookup y).map fun k => if (k == .free && env.scope.kind == .function && env.kindOf y == some .cell) = true then .cell else k := by
  unfold relabel
  simp only
  induction scope.names with
  | nil => rfl
  | cons p r ih =>
    obtain ⟨n, k⟩ := p
    simp only [List.map_cons]
    by_cases hc : (k == .free && env.scope.kind == .function && env.kindOf n == some .cell) = true
    · rw [if_pos hc, List.lookup_cons, List.lookup_cons]
      by_cases e : y = n
      · subst e
        rw [beq_self_eq_true]
        show some NameKind.cell = some (if _ then _ else _)
        rw [if_pos hc]
      · rw [beq_eq_false_iff_ne.mpr e]; exact ih
    · rw [if_neg hc, List.lookup_cons, List.lookup_cons]
      by_cases e : y = n
      · subst e
        rw [beq_self_eq_true]
        show some k = some (if _ then _ else _)
        rw [if_neg hc]
      · rw [beq_eq_false_iff_ne.mpr e]; exact ih
/-- the captured names' values -/
def capS (σ : L2.St) (ix : List Nat) : L2.St := ix.map fun i => (σ[i]?).join
/-- the block's context -/
def cxLc (X : Cx) (x : Str) (fr : List Str) (scope : Scope) (C : Addr) (s₃ : Shared) (H₃ : Hp) (fp : List Addr) (pins : List (Addr × Obj)) : Cx :=
  { X with N := x :: fr, s₀ := s₃, H₀ := H₃, env := compEnvC scope (clOf scope X.env) C X.env, outer := X.stack, stack := X.stack, ex := fp, fn := fun _ => false, pn := X.pn ++ pins, xe := fun _ _ => False }
section
variable {X : Cx} {x : Str} {fr : List Str} {scope : Scope} {pins : List (Addr × Obj)} {σ : L2.St} {H : Hp} {s₃ : Shared} {h₁ : Heap} {tk : Nat} {fp : List Addr} {ix : List Nat}
theorem inv_lc (I : Inv X pins σ H s₃) (S : LcScope x fr X.env.scope scope) (hix : ix.length = fr.length) (hN : ∀ (j : Nat) (i : Nat) (y : Str), ix[j]? = some i → fr[j]? = some y → X.N[i]? = some y)
    (hf : ∀ b ∈ fp, FpOk X pins H b ∧ b < s₃.heap.objs.size) (hns : h₁.Ns s₃.heap.objs.size fun _ => none) (hk : ∀ b o, s₃.heap.get? b = some o → h₁.get? b = some o) :
    Inv (cxLc X x fr scope s₃.heap.objs.size s₃ H fp pins) [] (none :: capS σ ix) H { s₃ with heap := h₁, toks := tk } := by
  have cl : ∀ y c, (clOf scope X.env).lookup y = some c → X.env.cells.lookup y = some c := fun y c e => clOf_some e
  have has : ∀ y, scope.names.lookup y = some .free → ∃ c, (clOf scope X.env).lookup y = some c := fun y e => by
    have hm := PySem.mem_of_lookup e
    obtain ⟨c, hc⟩ := I.ok.has y (S.sub _ hm rfl)
    exact ⟨c, clOf_has hm hc⟩
  have rel : ∀ y, (relabel scope X.env).names.lookup y = some .cell ∨ (relabel scope X.env).names.lookup y = some .free → scope.names.lookup y = some .free := fun y h => by
    rw [relabel_kind] at h
    cases e : scope.names.lookup y with
    | none => rw [e] at h; rcases h with h | h <;> cases h
    | some k =>
      cases k with
      | free => rfl
      | cell => exact absurd rfl (S.nocell _ (PySem.mem_of_lookup e))
      | _ => rw [e] at h; rcases h with h | h <;> simp at h
  refine ⟨⟨I.ok.mod, S.kind, I.ok.glob, I.ok.blt, Nat.le_refl _, fun y z c h1 h2 => I.ok.inj y z c (cl _ _ h1) (cl _ _ h2), fun y hy => has y (rel y hy), (fun y c z _ => absurd z Bool.false_ne_true), I.ok.hd, I.ok.frames, .inl rfl,
    fun b hb => ⟨Nat.ne_of_lt (hf b hb).2, fun y c e => (hf b hb).1.2.2.2.2.1 y c (cl y c e)⟩, I.bs, Nat.le_trans I.ok.bsz I.sz, fun b o e hb => ?_, fun b hb hs => ?_, I.stack, I.stkFree⟩,
    rfl, I.bare, Un.kept hk, ⟨_, hns, fun j y v h1 h2 h3 => ?_⟩, fun y c e => ?_, I.hok.fresh (Nat.le_refl _), fun y c e => I.freeC y c (cl y c e), fun p hp => ?_, I.hok.kept hk, ?_⟩
  · rcases (hf b hb).1.2.2.2.1 with z | z
    · exact I.ok.noex b o e z
    · exact absurd (Nat.lt_of_lt_of_le (Heap.lt_size e) (Nat.le_trans I.ok.bsz z)) (Nat.lt_irrefl _)
  · rcases List.mem_cons.mp (I.stkSub b hs) with z | z
    · exact (hf b hb).1.2.1 z
    · exact (hf b hb).1.2.2.1 z
  · cases j with
    | zero => simp at h2
    | succ j =>
      have h1' : fr[j]? = some y := by simpa [cxLc] using h1
      have h2' : (capS σ ix)[j]? = some (some v) := by simpa using h2
      unfold capS at h2'
      rw [List.getElem?_map] at h2'
      cases e : ix[j]? with
      | none => rw [e] at h2'; cases h2'
      | some i =>
        rw [e] at h2'
        have h4 : (σ[i]?).join = some v := Option.some.inj h2'
        have h5 : σ[i]? = some (some v) := by
          cases q : σ[i]? with
          | none => rw [q] at h4; cases h4
          | some o => rw [q] at h4; rw [show o = some v from h4]
        have hy := S.fre y (List.mem_of_getElem? h1')
        have hm := PySem.mem_of_lookup hy
        have hv : Vis X.env.scope y := by rcases S.sub _ hm rfl with z | z; exact .inr (.inl z); exact .inr (.inr z)
        obtain ⟨m, _, hl⟩ := I.loc
        obtain ⟨u, ru, lk⟩ := hl i y v (hN j i y e h1') h5 hv
        refine ⟨u, ru, .inr ⟨?_, ?_⟩⟩
        · show (relabel scope X.env).names.lookup y = some .cell ∨ (relabel scope X.env).names.lookup y = some .free
          rw [relabel_kind, hy]
          simp only [Option.map_some]
          split
          · exact .inl rfl
          · exact .inr rfl
        · rcases lk with ⟨z, _⟩ | ⟨_, c, e1, e2⟩
          · rcases S.sub _ hm rfl with z2 | z2
            · have z' : X.env.scope.names.lookup y = some .local := z
              rw [z2] at z'; cases z'
            · have z' : X.env.scope.names.lookup y = some .local := z
              rw [z2] at z'; cases z'
          · exact ⟨c, clOf_has hm e1, e2.keeps hk⟩
  · obtain ⟨v, z⟩ := I.cell y c (cl y c e)
    exact ⟨v, z.keeps hk⟩
  · have hp' : p ∈ X.pn ++ pins := by simpa [cxLc] using hp
    obtain ⟨q1, q2, q3, q4, q5⟩ := I.pin p hp'
    refine ⟨hk _ _ q1, q2, Nat.ne_of_lt (Heap.lt_size q1), fun hs => ?_, q5⟩
    rcases List.mem_cons.mp (I.stkSub _ hs) with z | z
    · exact q3 z
    · exact q4 z
  · show (capS σ ix).length + 1 = fr.length + 1
    unfold capS
    rw [List.length_map, hix]
/-- behind the block -/
theorem inv_lc_end {σ' : L2.St} {H' : Hp} {s' : Shared} {h' : Heap} (I : Inv X pins σ H s₃) (J : Inv (cxLc X x fr scope s₃.heap.objs.size s₃ H fp pins) [] σ' H' s') (hf : ∀ b ∈ fp, FpOk X pins H b) (hs : Heap.SameBut s₃.heap.objs.size s'.heap h') :
    Inv X pins σ H' { s' with heap := h' } := by
  have ne : ∀ b o, s₃.heap.get? b = some o → b ≠ s₃.heap.objs.size := fun b o e => Nat.ne_of_lt (Heap.lt_size e)
  have to : ∀ b o, b ≠ s₃.heap.objs.size → s'.heap.get? b = some o → h'.get? b = some o := fun b o hb e => (hs.2 b hb).trans e
  have u : Un (frs X.stack) fp H H' s₃.heap s'.heap := J.base
  have hC : H' s₃.heap.objs.size = none := J.free
  refine I.call' (s' := { s' with heap := h' }) (ch := fp) J.os ⟨fun b o e n hb hx => to b o (ne b o e) (u.keep b o e n hb hx), fun b o e n hb hx => ?_, u.free, fun b o e hx => ?_, u.tups, u.frzs, u.tbls⟩ (fun a v e => ?_) J.bare fun b hb => ⟨(hf b hb).2.2.2.1, (hf b hb).2.1, (hf b hb).2.2.2.2.1, (hf b hb).2.2.2.2.2⟩
  · obtain ⟨sl, z⟩ := u.slot b o e n hb hx
    exact ⟨sl, to b _ (ne b o e) z⟩
  · obtain ⟨o', z⟩ := u.there b o e hx
    exact ⟨o', to b _ (ne b o e) z⟩
  · have J2 : HOk X.prog X.w H' s'.heap := J.hok
    refine (J2 a v e).stay (fun b w' hb z => to b w' (fun y => ?_) z) (fun _ z => z) fun _ _ z => z
    rcases hb with rfl | hb
    · rw [y, hC] at e; cases e
    · rw [y, hC] at hb; cases hb
end
def tLC (wi : TI) (ix : List Nat) (te : TE) : TE := fun σ H Q => wi σ H fun J H1 => ∀ D, H1 D = none → ∃ W : Nat → Nat → Hp → Prop, (∃ m, W 0 m (upd H1 D (.lst []))) ∧ ∀ i m H, W i m H →
  (J.stop i H ∧ Q (.ref D) H) ∨ (J.go i H ∧ ∃ N : Hp → Prop, (∀ H', N H' → ∃ m', m' < m ∧ W (i + 1) m' H') ∧ ∀ x H', J.yld i H x H' → te (some x :: capS σ ix) H' fun y H2 => rAppend (.ref D) [y] H2 fun _ H3 => N H3)
section
variable {X : Cx} {x : Str} {fr : List Str} {scope : Scope} {iter elt : Expr} {px pos : Pos} {wi : TI} {te : TE} {ix : List Nat}
theorem pe_lcomp (hxe : X.xe = fun _ _ => False) (hcalm : X.calm = true) (S : LcScope x fr X.env.scope scope) (hix : ix.length = fr.length) (hN : ∀ (j : Nat) (i : Nat) (y : Str), ix[j]? = some i → fr[j]? = some y → X.N[i]? = some y)
    (hi : PI X (.Name x px) iter wi) (he : ∀ s₃ H₃ fp pins, PE (cxLc X x fr scope s₃.heap.objs.size s₃ H₃ fp pins) elt te) (hcl : closureFor scope X.env = pure (clOf scope X.env) := by rfl) (hs : ∀ v, foldedSetIterable iter X.env v = pure v := by intro _; rfl) :
    PE X (.ListComp elt [⟨.Name x px, iter, [], 0⟩] scope pos) (tLC wi ix te) := by
  intro pins s σ H Q I h
  rw [eval_ListComp]
  have hi' := hi pins s σ H _ I h
  rw [hxe] at hi' ⊢
  refine wpAny_comprehension_free (use := none) rfl hs hcl S.kind S.names (wpAny_mono hi' (fun v s1 h1 => wpAny_mono h1 (fun itv s2 h2 => ?_) fun _ _ e => e) fun _ _ e => e)
  obtain ⟨it, fp, tn, J, H1, rfl, I2, T, ht0, hfp, hR⟩ := h2
  have hD0 : H1 s2.heap.objs.size = none := I2.fresh
  obtain ⟨W, ⟨m0, hW0⟩, hW⟩ := hR s2.heap.objs.size hD0
  have I3 : Inv X pins σ (upd H1 s2.heap.objs.size (.lst [])) { s2 with heap := s2.heap.push { cls := .type "list", data := .seq ([] : List Value).toArray } } := I2.lnew (t' := s2.toks) (ys := []) (its := []) .nil (Nat.zero_le _)
  refine wpAny_newObj_type (wpAny_newFunctionEnv S.nocell (by intro y hy; simp at hy) (fun h₁ hns hsb => ?_) S.kind)
  have hk : ∀ b o, (s2.heap.push { cls := .type "list", data := .seq ([] : List Value).toArray }).get? b = some o → h₁.get? b = some o := fun b o e => hsb.extBut b o (Nat.ne_of_lt (Heap.lt_size e)) (Heap.get?_push_of_some _ e)
  have hfp3 : ∀ b ∈ fp, FpOk X pins (upd H1 s2.heap.objs.size (.lst [])) b ∧ b < (s2.heap.push { cls := .type "list", data := .seq ([] : List Value).toArray }).objs.size := fun b hb => by
    obtain ⟨o, ho, _⟩ := T.obj 0 _ ht0 b hb
    have hlt := Heap.lt_size ho
    obtain ⟨f0, f1, f2, f3, f4, f5⟩ := hfp b hb
    exact ⟨⟨by rw [upd_ne (Nat.ne_of_lt hlt)]; exact f0, f1, f2, f3, f4, f5⟩, Nat.lt_of_lt_of_le hlt (by rw [Heap.size_push]; exact Nat.le_succ _)⟩
  have J4 := inv_lc (tk := s2.toks + ([] : List (Str × Value)).length) I3 S hix hN hfp3 hns hk
  generalize hs3 : ({ s2 with heap := s2.heap.push { cls := .type "list", data := .seq ([] : List Value).toArray } } : Shared) = s3 at *
  have ht1 : tn 0 h₁ := T.keep 0 _ _ ht0 fun b hb o e => hk b o (Heap.get?_push_of_some _ e)
  -- the loop
  have loop : ∀ s4, Inv (cxLc X x fr scope s3.heap.objs.size s3 (upd H1 s2.heap.objs.size (.lst [])) fp pins) [] (none :: capS σ ix) (upd H1 s2.heap.objs.size (.lst [])) s4 → tn 0 s4.heap →
      codeAny (model X.prog X.w) X.A (.compLoop (.ListComp elt [⟨.Name x px, iter, [], 0⟩] scope pos) 0 (.ref it) (.ref s2.heap.objs.size) (compEnvC scope (clOf scope X.env) s3.heap.objs.size X.env)) (compPost (model X.prog X.w) X.A (fun _ _ => False) none (EP X pins σ Q) (.ref s2.heap.objs.size) s3.heap.objs.size) s4 := by
    intro s4 J4 ht4
    have hpg : PG (cxLc X x fr scope s3.heap.objs.size s3 (upd H1 s2.heap.objs.size (.lst [])) fp pins) (.Name x px) (gName 0) := pg_name (i := 0) S.nd rfl (Or.inl (by
      show (relabel scope X.env).names.lookup x = some .local
      rw [relabel_kind, S.loc]; rfl)) (Or.inr (by
      show (relabel scope X.env).names.lookup x = some .local
      rw [relabel_kind, S.loc]; rfl))
    have stat : ∀ {H' : Hp}, (∀ b ∈ fp, H' b = none) → ∀ b ∈ fp, FpOk (cxLc X x fr scope s3.heap.objs.size s3 (upd H1 s2.heap.objs.size (.lst [])) fp pins) [] H' b := fun hn b hb => by
      obtain ⟨⟨f0, f1, f2, f3, f4, f5⟩, hlt⟩ := hfp3 b hb
      have hlt' : b < s3.heap.objs.size := by rw [← hs3]; exact hlt
      refine ⟨hn b hb, Nat.ne_of_lt hlt', fun hs => ?_, .inl hb, fun y c e => f4 y c (clOf_some e), fun p hp => f5 p (by simpa [cxLc] using hp)⟩
      rcases List.mem_cons.mp (I3.stkSub b hs) with z | z
      · exact f1 z
      · exact f2 z
    refine codeAny_loop rfl (fun n s5 => ∃ i H5 o, Inv (cxLc X x fr scope s3.heap.objs.size s3 (upd H1 s2.heap.objs.size (.lst [])) fp pins) [] (o :: capS σ ix) H5 s5 ∧ tn i s5.heap ∧ (∀ b ∈ fp, H5 b = none) ∧ W i n H5) (fun n s5 hI => ?_) m0
      ⟨0, _, none, J4, ht4, fun b hb => (hfp3 b hb).1.1, hW0⟩
    obtain ⟨i, H5, o, J5, ht5, fr5, w5⟩ := hI
    show wpAny _ X.A ((compTurn (.ListComp elt [⟨.Name x px, iter, [], 0⟩] scope pos) 0 (.ref it) (.ref s2.heap.objs.size) (compEnvC scope (clOf scope X.env) s3.heap.objs.size X.env)).onRaise _) _ _ s5
    refine wpAny_noted ?_
    rw [compTurn_list1]
    refine wpAny_bind (wpAny_standAt (wpAny_bind ?_))
    rcases hW i n H5 w5 with ⟨stop, q⟩ | ⟨go, N, hN', step⟩
    · refine wpAny_mono (T.done (cxLc X x fr scope s3.heap.objs.size s3 (upd H1 s2.heap.objs.size (.lst [])) fp pins) rfl rfl rfl hcalm i [] s5 _ H5 (fun _ _ => False) J5 (stat fr5) ht5 stop) (fun r s6 ⟨hr, J6⟩ => ?_) fun _ _ z => z.elim
      subst hr
      obtain ⟨m, hn, _⟩ := id J6.loc
      exact wpAny_pure ⟨m, hn, fun h' hs => ⟨.ref s2.heap.objs.size, H5, inv_lc_end I3 J6 (fun b hb => (hfp3 b hb).1) hs, rfl, q⟩⟩
    · refine wpAny_mono (T.item (cxLc X x fr scope s3.heap.objs.size s3 (upd H1 s2.heap.objs.size (.lst [])) fp pins) rfl rfl rfl hcalm i [] s5 _ H5 (fun _ _ => False) J5 (stat fr5) ht5 go) (fun r s6 ⟨u, hr, h6⟩ => ?_) fun _ _ z => z.elim
      subst hr
      refine wpAny_bind (wpAny_mono h6 (fun _ s7 ⟨v, H7, J7, r7, y7, ht7, fr7⟩ => ?_) fun _ _ z => z.elim)
      have J7' := J7.pinned (stat fr7) (T.obj _ _ ht7)
      refine wpAny_bind (wpAny_mono (hpg _ s7 _ H7 v u (fun σ' H' => σ' = some v :: capS σ ix ∧ H' = H7) J7' r7 ⟨rfl, rfl⟩) (fun _ s8 ⟨σ8, H8, J8, e8, e9⟩ => ?_) fun _ _ z => False.elim z)
      subst e8; subst e9
      refine wpAny_bind (wpAny_bind (wpAny_mono (he _ _ _ _ _ s8 _ H8 _ J8 (step v H8 y7)) (fun yv s9 ⟨y, H9, J9, r9, q9⟩ => ?_) fun _ _ z => False.elim z))
      refine wpAny_bind (wpAny_mono (mt_append (X := cxLc X x fr scope s3.heap.objs.size s3 (upd H1 s2.heap.objs.size (.lst [])) fp pins) _ s9 _ H9 (.ref s2.heap.objs.size) [y] (.ref s2.heap.objs.size) [yv] _ J9 rfl (.cons r9 .nil) q9) (fun _ s10 ⟨z, H10, J10, _, q10⟩ => ?_) fun _ _ z => False.elim z)
      obtain ⟨m', hm, w10⟩ := hN' _ q10
      refine wpAny_pure (wpAny_pure ⟨rfl, m', hm, i + 1, H10, some v, J10.unpinned, T.keep _ _ _ ht7 fun b hb ob e => (J10.pin (b, ob) (List.mem_append_right _ (List.mem_append_right _ (mem_pinsAt hb e)))).1, fun b hb => ?_, w10⟩)
      obtain ⟨ob, e, d⟩ := T.obj _ _ ht7 b hb
      exact (J10.pin (b, ob) (List.mem_append_right _ (List.mem_append_right _ (mem_pinsAt hb e)))).2.1
  subst hs3
  exact codeAny_compStart_list (loop _ J4 ht1) (T.self _ 0 _ _ _ ht1 (loop _ J4 ht1))
end
end Sh

end
section
set_option Elab.async false
set_option linter.all false
set_option maxRecDepth 100000
set_option maxHeartbeats 4000000
namespace Sh
open PySem PySem.Spec PyProof.Rows L2

/-! ### zip of two tuples, in a for with two names -/
section
variable {P : Program} {w : World} {A : Around} {E : Value → Shared → Prop} {s : Shared}
/-- the five things of a zip over the tuples t1, t2: all apart -/
structure Zp (z ti to i1 i2 t1 t2 : Addr) : Prop where
  a1 : ti ≠ z
  a2 : to ≠ z
  a3 : i1 ≠ z
  a4 : i2 ≠ z
  a5 : ti ≠ to
  a6 : ti ≠ i1
  a7 : ti ≠ i2
  a8 : to ≠ i1
  a9 : to ≠ i2
  b1 : i1 ≠ i2
  b2 : t1 ≠ z
  b3 : t1 ≠ to
  b4 : t1 ≠ i1
  b5 : t1 ≠ i2
  b6 : t2 ≠ z
  b7 : t2 ≠ to
  b8 : t2 ≠ i1
  b9 : t2 ≠ i2
/-- a zip after n turns -/
structure Zs (h : Heap) (z ti to i1 i2 t1 t2 : Addr) (f : Value) (n : Nat) : Prop where
  zip : IsZip h z ti to f
  its : IsPair h ti (.ref i1) (.ref i2)
  out : ∃ a b, IsPair h to a b
  it1 : h.IsTupleIter i1 t1 n
  it2 : h.IsTupleIter i2 t2 n
variable {z ti to i1 i2 t1 t2 : Addr} {n : Nat} {xs ys : Array Value} {x y : Value}
end
section
abbrev zq1 (h : Heap) (t : Addr) : Heap := h.push { cls := .type "tuple_iterator", data := .fields #[.ref t, .int 0 0] }
abbrev zq3 (h : Heap) (t1 t2 : Addr) : Heap := (zq1 (zq1 h t1) t2).push { cls := .type "tuple", data := .seq #[.ref h.objs.size, .ref (zq1 h t1).objs.size] }
abbrev zq4 (h : Heap) (t1 t2 : Addr) : Heap := (zq3 h t1 t2).push { cls := .type "tuple", data := .seq #[.none, .none] }
abbrev zq5 (h : Heap) (t1 t2 : Addr) : Heap := (zq4 h t1 t2).push { cls := .type "zip", data := .fields #[.none, .bool false, .bool false, .ref (zq1 (zq1 h t1) t2).objs.size, .ref (zq3 h t1 t2).objs.size] }
variable {P : Program} {w : World} {A : Around} {E : Value → Shared → Prop} {s : Shared}
end
/-! ### as a walk of the layer -/
/-- the pairs of the tuples t1 and t2 -/
def Itz (K : PySem.W.Frag) (t1 t2 : Addr) : It :=
  ⟨fun i H => ∃ xs ys x y, H t1 = some (.tup xs) ∧ H t2 = some (.tup ys) ∧ xs[i]? = some x ∧ ys[i]? = some y,
   fun i H v H' => ∃ p x y, v = .ref p ∧ H p = none ∧ H' = upd H p (.tup [x, y]) ∧ (∀ xs, H t1 = some (.tup xs) → xs[i]? = some x) ∧ (∀ ys, H t2 = some (.tup ys) → ys[i]? = some y),
   fun i H => ∃ xs, H t1 = some (.tup xs) ∧ xs.length ≤ i⟩
section
variable {X : Cx} {pins : List (Addr × Obj)} {σ : L2.St} {H : Hp} {s : Shared}
theorem _root_.L2.Inv.tup1 {a : Addr} {xs : List V} (I : Inv X pins σ H s) (h : H a = some (.tup xs)) : ∃ its : List Value, Vals xs its ∧ IsTup s.heap a its.toArray ∧ xs.length ≤ sizeLine := I.tuple (SqT.of h)
end
/-- for a, b in zip(t, u) -/
def iZip (K : PySem.W.Frag) (ta : TA) : TI := fun σ H R => ta σ H fun vs H1 => ∃ t1 t2 xs ys, vs = [.ref t1, .ref t2] ∧ H1 t1 = some (.tup xs) ∧ H1 t2 = some (.tup ys) ∧ R (Itz K t1 t2) H1
end Sh

end
section
set_option Elab.async false
set_option linter.all false
set_option maxRecDepth 100000
set_option maxHeartbeats 4000000
namespace Sh
open PySem PySem.Spec PyProof.Rows L2

/-! ### the head, where defs of the text make inner defs -/
def TabK (K : PySem.W.Frag) (x : Str) (c T : Addr) : Prop := ∃ f oc od osl fd occ odc vs slc, PySem.W.nsIn K mainGlobals x = some (some (.ref f)) ∧ K.lookup f = some ⟨oc, od, .func fd, osl⟩ ∧ fd.code = .ref c ∧ K.lookup c = some ⟨occ, odc, .fields vs, slc⟩ ∧ vs[11]? = some (.ref T)
theorem TabK.tabIn {K : PySem.W.Frag} {x : Str} {c T : Addr} (h : TabK K x c T) : PySem.W.tabIn K x = some (c, T) := by
  obtain ⟨f, oc, od, osl, fd, occ, odc, vs, slc, h1, h2, h3, h4, h5⟩ := h
  unfold PySem.W.tabIn
  simp only [h1, h2, h3, h4, h5]
theorem law_callT {P : Program} {w : World} {K : PySem.W.Frag} {mg mb : Str → Option Value} {k : Nat} {fa a : Addr} {fd : FuncData} {x : Str} {sp : Sp} {s₁ : Shared} {vs : List Value} {ns : List Int} {tabs : List (Addr × Addr)}
    (KX : K.In s₁.heap) (hns : s₁.heap.Ns mainGlobals mg) (hb : s₁.heap.Ns builtinsNs mb) (hbb : ∀ x : Str, x ≠ "__name__" → mb x = bootBuiltins x) (hlim : s₁.heap.NoLimit) (hg : s₁.gens = #[])
    (hbm : ∃ bm ob, mg "__builtins__" = some (.ref bm) ∧ bm ≠ builtinsNs ∧ s₁.heap.get? bm = some ob ∧ ob.cls = .type "module" ∧ ob.dict = some builtinsNs ∧ ob.data = .plain)
    (hT : ∀ q ∈ tabs, PySem.W.CodeHd s₁.heap q.1 q.2 ∧ s₁.heap.get? q.2 = some (PySem.W.tabObj #[])) (hKt : PySem.W.noTabs K = true)
    (ha : s₁.heap.get? a = some { cls := .type "list", data := .seq vs.toArray }) (hi : IntsAre vs ns) (hl : ns.length ≤ sizeLine) (hr : Room k callerA)
    (F : ∀ base : Heap, K.In base → base.Ns mainGlobals mg → (∀ q ∈ tabs, Tab base mg q.1 q.2) → FnOk P w K mg base CX0 k fa fd [x] sp) (hbind : ∀ (s : Shared) (u : Value), BindsTo s fd ⟨[u], []⟩ [(x, u)])
    (hsp : ∀ H : Hp, SqL K H a (ns.map V.int) → (∀ q ∈ tabs, H q.2 = some (.tbl #[])) → sp [.ref a] H (fun v _ => v = .bl true) fun _ _ _ => False) :
    codeAny (model P w) callerA (.call (.ref fa) ⟨[.ref a], []⟩) (fun r s' => r = .ok (.ret (.bool true)) ∧ OldK s₁.heap s'.heap ∧ s'.os = s₁.os ∧ AllBare s'.gens) s₁ := by
  have rv := vals_ints hi
  have lenV := hi.length
  have tget : ∀ b, b ∈ tabs.map (·.2) → s₁.heap.get? b = some (PySem.W.tabObj #[]) := fun b hb => by
    obtain ⟨q, hq, rfl⟩ := List.mem_map.mp hb
    exact (hT q hq).2
  have aT : a ∉ tabs.map (·.2) := fun hb => by
    have e := tget a hb
    rw [ha] at e; cases e
  have core : ∀ G : Hp, (∀ b, b ≠ a → G b = none) → (G a = none ∨ G a = some (.frz { cls := .type "list", data := .seq vs.toArray } (.lst (ns.map V.int))) ∧ K.lookup a = none) → (∀ H : Hp, (∀ b, b ∉ tabs.map (·.2) → H b = G b) → SqL K H a (ns.map V.int)) →
      codeAny (model P w) callerA (.call (.ref fa) ⟨[.ref a], []⟩) (fun r s' => r = .ok (.ret (.bool true)) ∧ OldK s₁.heap s'.heap ∧ s'.os = s₁.os ∧ AllBare s'.gens) s₁ := by
    intro G hG hGa hS
    generalize hH : (fun b => if b ∈ tabs.map (·.2) then some (HO.tbl #[]) else G b : Hp) = H
    have Hin : ∀ b, b ∈ tabs.map (·.2) → H b = some (.tbl #[]) := fun b hb => by rw [← hH]; exact if_pos hb
    have Hout : ∀ b, b ∉ tabs.map (·.2) → H b = G b := fun b hb => by rw [← hH]; exact if_neg hb
    have none_of : ∀ {b : Addr} {o : Obj}, s₁.heap.get? b = some o → b ≠ a → o ≠ PySem.W.tabObj #[] → H b = none := fun {b o} e h1 h2 => by
      rw [Hout b (fun hb => by rw [tget b hb] at e; exact h2 (Option.some.inj e).symm)]
      exact hG b h1
    have neA : ∀ {b : Addr} {o : Obj}, s₁.heap.get? b = some o → o.cls ≠ .type "list" → b ≠ a := fun e h1 z => by
      rw [z, ha] at e; cases e; exact h1 rfl
    have dictA : ∀ {b : Addr} {o : Obj} {es : Array DictEntry} {ep : Nat}, s₁.heap.get? b = some o → o.data = .dict es ep → H b = none := fun {b o es ep} e d => by
      refine none_of e (fun z => ?_) fun z => ?_
      · rw [z, ha] at e; cases e
        have d' : Data.seq vs.toArray _ = Data.dict es ep := d
        cases d'
      · rw [z] at d; cases d
    have hok : HOk P w H s₁.heap := fun b u e => by
      by_cases hb' : b ∈ tabs.map (·.2)
      · rw [Hin b hb'] at e; cases e
        exact tget b hb'
      · rw [Hout b hb'] at e
        by_cases hba : b = a
        · subst hba
          rcases hGa with z | ⟨z, _⟩
          · rw [z] at e; cases e
          · rw [z] at e; cases e
            exact ⟨ha, by rw [List.length_map]; exact hl, vs, _, rv, ha⟩
        · rw [hG b hba] at e; cases e
    have base_of : ∀ {b : Addr} {o : Obj}, s₁.heap.get? b = some o → H b = none → (hidT s₁.heap H).get? b = some o := fun e n => hidT_get e n
    have nsK : ∀ {b : Addr} {m : Str → Option Value}, s₁.heap.Ns b m → (hidT s₁.heap H).Ns b m := fun {b m} ⟨o, es, ep, e, d, r⟩ => ⟨o, es, ep, base_of e (dictA e d), d, r⟩
    have hKb : K.In (hidT s₁.heap H) := fun b o e => base_of (KX b o e) (by
      have e' := KX b o e
      by_cases hba : b = a
      · subst hba
        rw [Hout b aT]
        rcases hGa with z | ⟨_, z⟩
        · exact z
        · have e2 : K.lookup b = some o := e
          rw [z] at e2; cases e2
      · refine none_of e' hba fun z => ?_
        subst z
        have h2 := List.all_eq_true.mp hKt (b, _) (PySem.W.mem_of_lookupK e)
        exact absurd (show false = true from h2) Bool.false_ne_true)
    have hM : Mod K mg (hidT s₁.heap H) := ⟨hKb, nsK hns, ⟨mb, nsK hb, hbb⟩, let ⟨mc, h1, h2⟩ := hlim; ⟨mc, nsK h1, h2⟩⟩
    have e0 : Env0 P w K mg (hidT s₁.heap H) callerA [] s₁ H := ⟨rfl, hM, fun b o e => of_hidT e, Nat.le_of_eq (hidT_size _ _), trivial, fun b hb => absurd (show b ∈ ([] : List Addr) from hb) (by simp), hok, .of_eq hg⟩
    have hTab : ∀ q ∈ tabs, Tab (hidT s₁.heap H) mg q.1 q.2 := fun q hq => by
      obtain ⟨⟨o, vs', file, tf, flags, tg, inF, text, tt, e1, e2, r⟩, e3⟩ := hT q hq
      obtain ⟨bm, ob, b1, b2, b3, b4, b5, b6⟩ := hbm
      have gT : mainGlobals ≠ q.2 := fun z => by
        obtain ⟨o', es, ep, e', d', _⟩ := hns
        rw [z, e3] at e'; cases e'; cases d'
      have mT : bm ≠ q.2 := fun z => by rw [z, e3] at b3; cases b3; cases b4
      have mG : bm ≠ mainGlobals := fun z => by
        obtain ⟨o', es, ep, e', d', _⟩ := hns
        rw [z, e'] at b3; cases b3; rw [d'] at b6; cases b6
      exact ⟨⟨o, vs', file, tf, flags, tg, inF, text, tt, base_of e1 (none_of e1 (neA e1 (by rw [e2]; intro z; injection z with z; exact absurd z (by decide))) (fun z => by rw [z] at e2; cases e2)), e2, r⟩,
        ⟨bm, ob, b1, b2, mG, mT, base_of b3 (none_of b3 (neA b3 (by rw [b4]; intro z; injection z with z; exact absurd z (by decide))) (fun z => by rw [z] at b4; cases b4)), b4, b5, b6⟩, gT⟩
    refine codeAny_mono ((F _ hKb (nsK hns) hTab).run callerA [] s₁ H ⟨[.ref a], []⟩ [.ref a] [.ref a] _ _ hr e0 (hbind s₁ (.ref a)) (.cons rfl .nil) (hsp H (hS H Hout) fun q hq => Hin _ (List.mem_map_of_mem hq))) fun r s' h => ?_
    cases r with
    | error e => exact False.elim h
    | ok fl =>
      cases fl with
      | next => exact False.elim h
      | brk => exact False.elim h
      | cont => exact False.elim h
      | ret u =>
        obtain ⟨v, H', os, bare, un, hok', r', q⟩ := h
        have q' : v = .bl true := q
        subst q'
        obtain rfl : u = Value.bool true := r'
        have nof : ∀ b : Addr, b ∉ frs [] := fun b z => absurd (show b ∈ ([] : List Addr) from z) (by simp)
        have kp : ∀ b o, b ∉ tabs.map (·.2) → s₁.heap.get? b = some o → s'.heap.get? b = some o := fun b o hb' e => by
          cases q : H b with
          | none => exact un.keep b o e q (nof b) (by simp)
          | some u =>
            rw [Hout b hb'] at q
            by_cases hba : b = a
            · subst hba
              rcases hGa with z | ⟨z, _⟩
              · rw [z] at q; cases q
              · rw [z] at q; cases q
                have z2 := un.frzs b _ _ ((Hout b hb').trans z)
                obtain ⟨e1, _⟩ := hok' b _ z2
                rw [ha] at e; cases e
                exact e1
            · rw [hG b hba] at q; cases q
        have gr : ∀ q ∈ tabs, ∃ more, s'.heap.get? q.2 = some (PySem.W.tabObj (#[] ++ more)) := fun q hq => by
          obtain ⟨more, e⟩ := un.tbls q.2 #[] (Hin _ (List.mem_map_of_mem hq))
          exact ⟨more, hok' q.2 _ e⟩
        refine ⟨rfl, ⟨fun b o e => ?_, fun b o e => ?_⟩, os, bare⟩
        · by_cases hb' : b ∈ tabs.map (·.2)
          · obtain ⟨q, hq, rfl⟩ := List.mem_map.mp hb'
            obtain ⟨more, e2⟩ := gr q hq
            have e3 := (hT q hq).2
            rw [e] at e3; cases e3
            exact .inr (.inl ⟨((hT q hq).1.tab (hT q hq).2).isCodeTable, rfl, #[], more, rfl, e2⟩)
          · exact .inl (kp b o hb' e)
        · by_cases hb' : b ∈ tabs.map (·.2)
          · obtain ⟨q, hq, rfl⟩ := List.mem_map.mp hb'
            obtain ⟨more, e2⟩ := gr q hq
            exact ⟨_, e2⟩
          · exact ⟨o, kp b o hb' e⟩
  cases hk : K.lookup a with
  | some o =>
    have e := KX a o hk
    rw [ha] at e
    cases e
    exact core (fun _ => none) (fun _ _ => rfl) (.inl rfl) fun H _ => .inr ⟨_, vs.toArray, _, hk, rfl, rfl, rfl, by rw [List.size_toArray, lenV]; exact hl, by simpa using rv⟩
  | none =>
    exact core (fun b => if b = a then some (.frz { cls := .type "list", data := .seq vs.toArray } (.lst (ns.map V.int))) else none) (fun b hb' => if_neg hb') (.inr ⟨if_pos rfl, hk⟩) fun H hH => .inl (.inr ⟨{ cls := .type "list", data := .seq vs.toArray }, by rw [hH a aT]; exact if_pos rfl⟩)
theorem walk_T {l : PySem.W.OpenLaw} {k : Nat} {q : Program} {loose : List Str} {XP : (Str → Option Value) → Heap → Prop} {YP : World → Heap → Prop} {d : DefRec} {K : Params → PySem.W.Frag} {x : Str}
    (hn : l.most = some 63) (hdf : d.params.defaults = []) (hr : Room k callerA) (hY : ∀ (w : World) (h : Heap), YP w h → (K w.params).In h) (hKt : ∀ w : World, PySem.W.noTabs (K w.params) = true)
    (F : ∀ (w : World) (mg : Str → Option Value) (fa : Addr) (h : Heap), (K w.params).In h → h.Ns mainGlobals mg → mg d.name = some (.ref fa) →
      ∃ (fd : FuncData) (tabs : List (Addr × Addr)) (sp : Sp), (∀ (s : Shared) (u : Value), BindsTo s fd ⟨[u], []⟩ [(x, u)]) ∧ (∀ t ∈ tabs, ∃ y r, TabK (K w.params) y t.1 t.2 ∧ (recsOf q).find? (fun e => e.name == y) = some r) ∧
        (∀ base : Heap, (K w.params).In base → base.Ns mainGlobals mg → (∀ t ∈ tabs, Tab base mg t.1 t.2) → FnOk l.prog w (K w.params) mg base CX0 k fa fd [x] sp) ∧
        ∀ (H : Hp) (a : Addr) (ns : List Int), ns.length ≤ 63 → SqL (K w.params) H a (ns.map V.int) → (∀ t ∈ tabs, H t.2 = some (.tbl #[])) → sp [.ref a] H (fun v _ => v = .bl true) fun _ _ _ => False) :
    PySem.W.WalkO q loose XP YP l.row.toRowW d [] (fun f vs => PySem.call f vs) := by
  refine Att.attach_call hn hdf fun w s₀ s₁ mg mb fa o pm cd doc a vs ns G Y ho hd hcd hmg hobj hints hlen hg => ?_
  have KX := hY w _ Y
  obtain ⟨fd, tabs, sp, hb, hT, hF, hS⟩ := F w mg fa _ KX G.T.g hmg
  refine law_callT (tabs := tabs) KX G.T.g G.T.b G.T.builtins G.T.nolimit hg G.T.bmain (fun t ht => ?_) (hKt w) hobj hints (Nat.le_trans hlen (by decide)) hr hF hb fun H h1 h2 => hS H a ns hlen h1 h2
  obtain ⟨y, r, h1, h2⟩ := hT t ht
  exact PySem.W.tab_of G.T KX h2 h1.tabIn
end Sh

end
section
set_option Elab.async false
set_option linter.all false
set_option maxRecDepth 100000
set_option maxHeartbeats 4000000
namespace Sh
open PySem PySem.Spec PyProof.Rows L2

/-! ### a def whose code is known -/
def DefC (K : PySem.W.Frag) (mg : Str → Option Value) (x : Str) (st : Stmt) (ps : List Str) (c : Addr) : Prop :=
  ∃ f fd, Fun K x x st f fd ∧ Binds K fd ps [] ∧ mg x = some (.ref f) ∧ fd.code = .ref c
section
variable {P : Program} {w : World} {K : PySem.W.Frag} {mg : Str → Option Value} {base : Heap} {x : Str} {st : Stmt} {N ps : List Str} {k : Nat} {sp : Sp} {c : Addr}
theorem DefC.ok (D : DefC K mg x st ps c) (S : FnScope N ps (defScope st)) (len : ∀ vs H Q E, sp vs H Q E → vs.length = ps.length)
    (hbody : ∀ (f : Addr) (A : Around) (outer : List Env) (s : Shared) (H : Hp) (vs : List V) (Q : VK) (E : XK), Room k (A.deeper (envOfC x (defScope st) s.heap.objs.size f (.ref c))) → sp vs H Q E →
      ∃ t, PSs (cxOf CX0 P w K mg base N x (defScope st) f (.ref c) A outer s H E).nox (defBody st) t ∧ t { nx := fun _ H' => Q .non H', rt := Q } (start N vs) H) : Ok P w K mg base x ps (k + 1) sp := by
  obtain ⟨f, fd, F, b, m, hc⟩ := D
  refine ⟨f, fd, ?_, b, m, F.kp⟩
  obtain ⟨oc, od, kV, doc, pm, an, cdv, ct, osl, rfl, lk, hcd⟩ := F.ex
  have e : cdv = .ref c := hc
  subst e
  refine fn_of lk hcd S len fun A outer s H vs Q E hr hsp => ?_
  obtain ⟨t, h, q⟩ := hbody f A outer s H vs Q E hr hsp
  exact ⟨t, h.nox, q⟩
theorem DefC.def (D : DefC K mg x st ps c) : Def K mg x st ps := by
  obtain ⟨f, fd, F, b, m, _⟩ := D
  exact ⟨f, fd, F, b, m⟩
theorem Def.has (D : Def K mg x st ps) : ∃ f, mg x = some (.ref f) ∧ PySem.W.keepIn K (.ref f) = true := by
  obtain ⟨f, fd, F, b, m⟩ := D
  exact ⟨f, m, F.kp⟩
end
/-! ### parts of the text -/
def dumE : Expr := .Constant .none 0 ⟨0, 0, 0, 0⟩
def dumS : Scope := { kind := .function, names := [], isGenerator := false, isCoroutine := false }
def stE (st : Stmt) : Expr := match st with
  | .Return (some e) _ => e
  | .Assign _ e _ => e
  | .Expr e _ => e
  | .If e _ _ _ => e
  | _ => dumE
def stB (st : Stmt) (i : Nat) : Stmt := match st with
  | .FunctionDef _ _ b _ _ _ _ _ _ _ => b.getD i (.Pass ⟨0, 0, 0, 0⟩)
  | .If _ b _ _ => b.getD i (.Pass ⟨0, 0, 0, 0⟩)
  | .For _ _ b _ _ => b.getD i (.Pass ⟨0, 0, 0, 0⟩)
  | _ => .Pass ⟨0, 0, 0, 0⟩
def exA (e : Expr) (i : Nat) : Expr := match e with
  | .Call _ a _ _ => a.getD i dumE
  | .Tuple a _ _ => a.getD i dumE
  | .List a _ => a.getD i dumE
  | _ => dumE
def exL (e : Expr) : Expr := match e with
  | .BinOp a _ _ _ => a
  | _ => dumE
def exR (e : Expr) : Expr := match e with
  | .BinOp _ _ b _ => b
  | _ => dumE
def lcS (e : Expr) : Scope := match e with
  | .ListComp _ _ sc _ => sc
  | _ => dumS
def lamA (e : Expr) : Arguments := match e with
  | .Lambda a _ _ _ => a
  | _ => { posonlyargs := [], args := [], vararg := none, kwonlyargs := [], kw_defaults := [], kwarg := none, defaults := [] }
def lamB (e : Expr) : Expr := match e with
  | .Lambda _ b _ _ => b
  | _ => dumE
def lamS (e : Expr) : Scope := match e with
  | .Lambda _ _ sc _ => sc
  | _ => dumS
/-! ### one cell -/
/-! ### words with their vars changed -/
def dw : Wd → Int → Int
  | .var _, d => d
  | .node t _ _, d => if t = .all then d + 1 else d
mutual
def chg (g : Int → Int → Wd) : Wd → Int → Wd
  | .var n, d => g n d
  | .node t nm ps, d => .node t nm (chgL g ps (if t = .all then d + 1 else d))
def chgL (g : Int → Int → Wd) : List Wd → Int → List Wd
  | [], _ => []
  | w :: ws, d => chg g w d :: chgL g ws d
end
theorem chgL_map {g : Int → Int → Wd} : ∀ (ws : List Wd) (d : Int), chgL g ws d = ws.map fun w => chg g w d
  | [], d => by rw [chgL]; rfl
  | w :: ws, d => by rw [chgL, chgL_map ws d]; rfl
theorem chg_node {g : Int → Int → Wd} {t : Tag} {nm : Str} {ps : List Wd} {d : Int} : chg g (.node t nm ps) d = .node t nm (ps.map fun w => chg g w (dw (.node t nm ps) d)) := by
  rw [chg, chgL_map]; rfl
mutual
theorem chg_const {h : Int → Wd} : ∀ (w : Wd) (d d' : Int), chg (fun k _ => h k) w d = chg (fun k _ => h k) w d'
  | .var n, d, d' => by rw [chg, chg]
  | .node t nm ps, d, d' => by rw [chg, chg, chgL_const ps _ _]
theorem chgL_const {h : Int → Wd} : ∀ (ws : List Wd) (d d' : Int), chgL (fun k _ => h k) ws d = chgL (fun k _ => h k) ws d'
  | [], d, d' => by rw [chgL, chgL]
  | w :: ws, d, d' => by rw [chgL, chgL, chg_const w d d', chgL_const ws d d']
end
/-! ### data: ints, texts, tuples -/
inductive Dt where
  | int (i : Int)
  | str (x : Str)
  | tup (ds : List Dt)
mutual
def Rd (H : Hp) : Dt → V → Prop
  | .int i, v => v = .int i
  | .str x, v => v = .str x
  | .tup ds, v => ∃ a vs, v = .ref a ∧ H a = some (.tup vs) ∧ Rds H ds vs
def Rds (H : Hp) : List Dt → List V → Prop
  | [], vs => vs = []
  | d :: ds, vs => ∃ v r, vs = v :: r ∧ Rd H d v ∧ Rds H ds r
end
mutual
def ddep : Dt → Nat
  | .int _ => 1
  | .str _ => 1
  | .tup ds => 1 + ddepL ds
def ddepL : List Dt → Nat
  | [] => 0
  | d :: ds => max (ddep d) (ddepL ds)
end
theorem ddep_pos : ∀ d : Dt, 1 ≤ ddep d
  | .int _ => by rw [ddep]; exact Nat.le_refl _
  | .str _ => by rw [ddep]; exact Nat.le_refl _
  | .tup ds => by rw [ddep]; omega
theorem ddepL_mem : ∀ {ds : List Dt} {d : Dt}, d ∈ ds → ddep d ≤ ddepL ds
  | [], d, h => by cases h
  | e :: r, d, h => by
    rw [ddepL]
    rcases List.mem_cons.mp h with rfl | h
    · omega
    · have := ddepL_mem h; omega
mutual
theorem Rd.mono {H H' : Hp} (k : Tk H H') : ∀ {d : Dt} {v : V}, Rd H d v → Rd H' d v
  | .int i, v, h => by rw [Rd] at h ⊢; exact h
  | .str x, v, h => by rw [Rd] at h ⊢; exact h
  | .tup ds, v, h => by
    rw [Rd] at h ⊢
    obtain ⟨a, vs, e, q, r⟩ := h
    exact ⟨a, vs, e, k _ _ q, Rds.mono k r⟩
theorem Rds.mono {H H' : Hp} (k : Tk H H') : ∀ {ds : List Dt} {vs : List V}, Rds H ds vs → Rds H' ds vs
  | [], vs, h => by rw [Rds] at h ⊢; exact h
  | d :: ds, vs, h => by
    rw [Rds] at h ⊢
    obtain ⟨v, r, e, q, z⟩ := h
    exact ⟨v, r, e, Rd.mono k q, Rds.mono k z⟩
end
theorem Rds.length {H : Hp} : ∀ {ds : List Dt} {vs : List V}, Rds H ds vs → vs.length = ds.length
  | [], vs, h => by rw [Rds] at h; rw [h]; rfl
  | d :: ds, vs, h => by
    rw [Rds] at h
    obtain ⟨v, r, rfl, _, z⟩ := h
    rw [List.length_cons, List.length_cons, Rds.length z]
theorem Rds.get {H : Hp} : ∀ {ds : List Dt} {vs : List V} {i : Nat} {v : V}, Rds H ds vs → vs[i]? = some v → ∃ d, ds[i]? = some d ∧ Rd H d v
  | [], vs, i, v, h, e => by rw [Rds] at h; subst h; cases e
  | d :: ds, vs, i, v, h, e => by
    rw [Rds] at h
    obtain ⟨u, r, rfl, q, z⟩ := h
    cases i with
    | zero =>
      have e' : u = v := Option.some.inj (by simpa using e)
      subst e'
      exact ⟨d, rfl, q⟩
    | succ i => exact Rds.get (i := i) z (by simpa using e)
mutual
def Wd.toD : Wd → Dt
  | .var n => .tup [.str "var", .int n]
  | .node t nm ps => if t.named then .tup [.str t.s, .str nm, .tup (toDL ps)] else .tup (.str t.s :: toDL ps)
def toDL : List Wd → List Dt
  | [] => []
  | w :: ws => w.toD :: toDL ws
end
mutual
theorem Rw.data {H : Hp} : ∀ {w : Wd} {v : V}, Rw H w v → Rd H w.toD v
  | .var n, v, h => by
    rw [Rw] at h
    obtain ⟨a, rfl, e⟩ := h
    rw [Wd.toD]
    simp only [Rd, Rds]
    exact ⟨a, _, rfl, e, _, _, rfl, rfl, _, _, rfl, rfl, rfl⟩
  | .node t nm ps, v, h => by
    rw [Rw] at h
    obtain ⟨a, vs, rfl, r, s⟩ := h
    have rd := Rws.data r
    rw [Wd.toD]
    cases s with
    | named b hn ha hb =>
      rw [if_pos hn]
      simp only [Rd, Rds]
      exact ⟨a, _, rfl, ha, _, _, rfl, rfl, _, _, rfl, rfl, _, _, rfl, ⟨b, vs, rfl, hb, rd⟩, rfl⟩
    | plain hn ha hm =>
      rw [if_neg (by rw [hn]; exact Bool.false_ne_true)]
      simp only [Rd, Rds]
      exact ⟨a, _, rfl, ha, _, _, rfl, rfl, rd⟩
theorem Rws.data {H : Hp} : ∀ {ws : List Wd} {vs : List V}, Rws H ws vs → Rds H (toDL ws) vs
  | [], vs, h => by rw [Rws] at h; rw [toDL, Rds]; exact h
  | w :: ws, vs, h => by
    rw [Rws] at h
    obtain ⟨v, r, e, q, z⟩ := h
    rw [toDL, Rds]
    exact ⟨v, r, e, Rw.data q, Rws.data z⟩
end
mutual
theorem ddep_toD : ∀ w : Wd, ddep w.toD ≤ 2 * dep w
  | .var n => by rw [Wd.toD, dep]; simp only [ddep, ddepL]; omega
  | .node t nm ps => by
    have := ddep_toDL ps
    rw [Wd.toD, dep]
    split
    · simp only [ddep, ddepL]; omega
    · simp only [ddep, ddepL]; omega
theorem ddep_toDL : ∀ ws : List Wd, ddepL (toDL ws) ≤ 2 * depL ws
  | [] => by rw [toDL, ddepL]; omega
  | w :: ws => by
    have h1 := ddep_toD w
    have h2 := ddep_toDL ws
    rw [toDL, ddepL, depL]; omega
end
theorem kit_bool_bool {K : PySem.W.Frag} : PySem.W.kitOne K (.type "bool") (.type "bool") = some true := by with_unfolding_all rfl
theorem Rw.head {H : Hp} {t : Tag} {nm : Str} {ps : List Wd} {v : V} (h : Rw H (.node t nm ps) v) : ∃ a ys, v = .ref a ∧ H a = some (.tup (.str t.s :: ys)) := by
  rw [Rw] at h
  obtain ⟨a, vs, rfl, _, s⟩ := h
  cases s with
  | named b hn ha hb => exact ⟨a, _, rfl, ha⟩
  | plain hn ha hm => exact ⟨a, _, rfl, ha⟩
theorem Rw.named {H : Hp} {t : Tag} {nm : Str} {ps : List Wd} {v : V} (h : Rw H (.node t nm ps) v) (hn : t.named = true) : ∃ a b xs, v = .ref a ∧ H a = some (.tup [.str t.s, .str nm, .ref b]) ∧ H b = some (.tup xs) ∧ Rws H ps xs := by
  rw [Rw] at h
  obtain ⟨a, vs, rfl, r, s⟩ := h
  cases s with
  | named b _ ha hb => exact ⟨a, b, vs, rfl, ha, hb, r⟩
  | plain hn' ha hm => rw [hn] at hn'; cases hn'
theorem Rw.plain {H : Hp} {t : Tag} {nm : Str} {ps : List Wd} {v : V} (h : Rw H (.node t nm ps) v) (hn : t.named = false) : ∃ a xs, v = .ref a ∧ H a = some (.tup (.str t.s :: xs)) ∧ Rws H ps xs ∧ nm = "" := by
  rw [Rw] at h
  obtain ⟨a, vs, rfl, r, s⟩ := h
  cases s with
  | named b hn' ha hb => rw [hn] at hn'; cases hn'
  | plain _ ha hm => exact ⟨a, vs, rfl, ha, r, hm⟩
end Sh
namespace Sh
open PySem PySem.Spec PyProof.Rows L2
theorem knotsL_mem : ∀ {ws : List Wd} {w : Wd}, w ∈ ws → knots w ≤ knotsL ws
  | [], w, h => by cases h
  | u :: r, w, h => by
    rw [knotsL]
    rcases List.mem_cons.mp h with rfl | h
    · omega
    · have := knotsL_mem h; omega
theorem lcN {N : List Str} {ix : List Nat} {fr : List Str} (h : ∀ p ∈ ix.zip fr, N[p.1]? = some p.2) : ∀ (j : Nat) (i : Nat) (y : Str), ix[j]? = some i → fr[j]? = some y → N[i]? = some y := fun j i y h1 h2 =>
  h (i, y) (List.mem_of_getElem? (i := j) (by rw [List.getElem?_zip_eq_some]; exact ⟨h1, h2⟩))
end Sh

end
section
set_option Elab.async false
set_option linter.all false
set_option maxRecDepth 100000
set_option maxHeartbeats 4000000
namespace Sh
open PySem PySem.Spec PyProof.Rows L2
variable [Inn]

/-! ### promises that several defs share -/
/-- a word of the same head with other parts -/
def spWith : Sp := fun vs H Q _ => ∃ v l t nm ps qs xs, vs = [v, .ref l] ∧ Rw H (.node t nm ps) v ∧ H l = some (.lst xs) ∧ Rws H qs xs ∧ xs.length ≤ 1000 ∧ ∀ r H', Same H H' → Rw H' (.node t nm qs) r → Q r H'
/-- two data that are alike -/
def spLike (n : Nat) : Sp := fun vs H Q _ => ∃ v u d, vs = [v, u] ∧ Rd H d v ∧ Rd H d u ∧ ddep d ≤ n ∧ ∀ H', Same H H' → Q (.bl true) H'
theorem fnrel {t : Tag} (hn : t.named = true) (h : t ≠ .fn) : t = .rel := by cases t <;> first | rfl | exact absurd rfl h | cases hn
theorem nfn {t : Tag} (hn : t.named = false) : t ≠ .fn := fun e => by rw [e] at hn; cases hn
theorem nrel {t : Tag} (hn : t.named = false) : t ≠ .rel := fun e => by rw [e] at hn; cases hn
/-- a comprehension over a tuple that its block leaves as it is -/
theorem lc_tup2 {K : PySem.W.Frag} {a : Addr} {xs : List V} {te : V → Hp → VK → Prop} {H : Hp} {R : Addr → Hp → Prop} (Pv : Nat → Addr → Hp → Prop) (h0 : ∀ D, H D = none → Pv 0 D (upd H D (.lst []))) (hl : ∀ i D H, i ≤ xs.length → Pv i D H → SqT K H a xs)
    (hs : ∀ i D x H, xs[i]? = some x → Pv i D H → te x H fun y H2 => rAppend (.ref D) [y] H2 fun _ H3 => Pv (i + 1) D H3) (hd : ∀ D H, Pv xs.length D H → R D H) :
    ∀ D, H D = none → ∃ W : Nat → Nat → Hp → Prop, (∃ m, W 0 m (upd H D (.lst []))) ∧ ∀ i m H, W i m H →
      ((Itt K a).stop i H ∧ R D H) ∨ ((Itt K a).go i H ∧ ∃ N : Hp → Prop, (∀ H', N H' → ∃ m', m' < m ∧ W (i + 1) m' H') ∧ ∀ x H', (Itt K a).yld i H x H' → te x H' fun y H2 => rAppend (.ref D) [y] H2 fun _ H3 => N H3) := by
  intro D hD
  refine ⟨fun i m H => i + m = xs.length ∧ Pv i D H, ⟨xs.length, by omega, h0 D hD⟩, fun i m H ⟨hm, hP⟩ => ?_⟩
  have hq := hl i D H (by omega) hP
  cases e : xs[i]? with
  | none =>
    have hi : xs.length ≤ i := by rw [List.getElem?_eq_none_iff] at e; exact e
    have hi2 : i = xs.length := by omega
    subst hi2
    exact .inl ⟨⟨xs, hq, Nat.le_refl _⟩, hd D H hP⟩
  | some x =>
    have hi : i < xs.length := (List.getElem?_eq_some_iff.mp e).1
    refine .inr ⟨⟨xs, x, hq, e⟩, Pv (i + 1) D, fun H' hP' => ⟨m - 1, by omega, by omega, hP'⟩, fun y H' ⟨e1, e2⟩ => ?_⟩
    subst e1
    have e3 := e2 xs hq
    rw [e] at e3; cases e3
    exact hs i D x H' e hP
/-- over range(lo, lo + n) -/
theorem lc_range2 {lo : Int} {n : Nat} {te : V → Hp → VK → Prop} {H : Hp} {R : Addr → Hp → Prop} (Pv : Nat → Addr → Hp → Prop) (h0 : ∀ D, H D = none → Pv 0 D (upd H D (.lst [])))
    (hs : ∀ i D H, i < n → Pv i D H → te (.int (lo + i)) H fun y H2 => rAppend (.ref D) [y] H2 fun _ H3 => Pv (i + 1) D H3) (hd : ∀ D H, Pv n D H → R D H) :
    ∀ D, H D = none → ∃ W : Nat → Nat → Hp → Prop, (∃ m, W 0 m (upd H D (.lst []))) ∧ ∀ i m H, W i m H →
      ((Itr lo n).stop i H ∧ R D H) ∨ ((Itr lo n).go i H ∧ ∃ N : Hp → Prop, (∀ H', N H' → ∃ m', m' < m ∧ W (i + 1) m' H') ∧ ∀ x H', (Itr lo n).yld i H x H' → te x H' fun y H2 => rAppend (.ref D) [y] H2 fun _ H3 => N H3) := by
  intro D hD
  refine ⟨fun i m H => i + m = n ∧ Pv i D H, ⟨n, by omega, h0 D hD⟩, fun i m H ⟨hm, hP⟩ => ?_⟩
  by_cases hi : i < n
  · refine .inr ⟨hi, Pv (i + 1) D, fun H' hP' => ⟨m - 1, by omega, by omega, hP'⟩, fun y H' ⟨e1, e2⟩ => ?_⟩
    subst e1; subst e2
    exact hs i D H' hi hP
  · have hi2 : i = n := by omega
    subst hi2
    exact .inl ⟨Nat.le_refl _, hd D H hP⟩
/-- a list that a comprehension over a word's parts makes: g of each part -/
def LcW (H1 : Hp) (ps : List Wd) (g : Wd → Wd) (i : Nat) (L : Addr) (H2 : Hp) : Prop := H1 L = none ∧ Same H1 H2 ∧ ∃ zs : List V, H2 L = some (.lst zs) ∧ zs.length = i ∧ Rws H2 ((ps.take i).map g) zs
theorem lcw_0 {H1 : Hp} {ps : List Wd} {g : Wd → Wd} (L : Addr) (hL : H1 L = none) : LcW H1 ps g 0 L (upd H1 L (.lst [])) := ⟨hL, same_new hL _, [], upd_same, rfl, by rw [List.take_zero]; exact .nil⟩
theorem lcw_s {H1 H2 H3 : Hp} {ps : List Wd} {g : Wd → Wd} {i : Nat} {L : Addr} {u : Wd} {r : V} (hP : LcW H1 ps g i L H2) (hu : ps[i]? = some u) (hk : ps.length ≤ 1000) (s3 : Same H2 H3) (hr : Rw H3 (g u) r) : rAppend (.ref L) [r] H3 fun _ H4 => LcW H1 ps g (i + 1) L H4 := by
  obtain ⟨hL, s2, zs, hz, hzl, hzs⟩ := hP
  have hz3 := s3.at hz
  refine ⟨L, zs, r, rfl, rfl, hz3, ?_, hL, same_own (s2.trans s3) hL hz3 _, zs ++ [r], upd_same, by rw [List.length_append, hzl]; rfl, ?_⟩
  · have := (List.getElem?_eq_some_iff.mp hu).1
    rw [sizeLine_eq]; omega
  · have k3 := tk_lst hz3 (.lst (zs ++ [r]))
    rw [List.take_succ, hu, List.map_append]
    exact ((hzs.mono (tk_of s3)).snoc hr).mono k3
theorem lcw_e {H1 H2 : Hp} {ps : List Wd} {g : Wd → Wd} {n : Nat} {L : Addr} (hP : LcW H1 ps g n L H2) (hn : n = ps.length) : Same H1 H2 ∧ ∃ zs : List V, H2 L = some (.lst zs) ∧ zs.length = ps.length ∧ Rws H2 (ps.map g) zs := by
  obtain ⟨hL, s2, zs, hz, hzl, hzs⟩ := hP
  subst hn
  rw [List.take_length] at hzs
  exact ⟨s2, zs, hz, hzl, hzs⟩
theorem node_len {t : Tag} {nm : Str} {ps : List Wd} {m : Nat} (hk : knots (.node t nm ps) ≤ m) : ps.length ≤ m := by
  have h1 := len_le_knotsL ps
  rw [knots] at hk
  omega
theorem node_mem {t : Tag} {nm : Str} {ps : List Wd} {u : Wd} {m n : Nat} (hu : u ∈ ps) (hd : dep (.node t nm ps) ≤ n + 1) (hk : knots (.node t nm ps) ≤ m) : dep u ≤ n ∧ knots u ≤ m := by
  have h1 := dep_parts (w := .node t nm ps) (p := u) hu
  have h2 : knots u ≤ knotsL ps := knotsL_mem hu
  rw [knots] at hk
  omega
end Sh
namespace Sh
open PySem PySem.Spec PyProof.Rows L2
/-! ### words that are changed only in their vars -/
mutual
theorem chg_dep {h : Int → Int → Int} : ∀ (w : Wd) (d : Int), dep (chg (fun k d => .var (h k d)) w d) = dep w
  | .var n, d => by rw [chg, dep, dep]
  | .node t nm ps, d => by rw [chg, dep, dep, chgL_dep ps _]
theorem chgL_dep {h : Int → Int → Int} : ∀ (ws : List Wd) (d : Int), depL (chgL (fun k d => .var (h k d)) ws d) = depL ws
  | [], d => by rw [chgL]
  | w :: ws, d => by rw [chgL, depL, depL, chg_dep w d, chgL_dep ws d]
end
mutual
theorem chg_id {g : Int → Int → Wd} (hg : ∀ k d, g k d = .var k) : ∀ (w : Wd) (d : Int), chg g w d = w
  | .var n, d => by rw [chg, hg]
  | .node t nm ps, d => by rw [chg, chgL_id hg ps _]
theorem chgL_id {g : Int → Int → Wd} (hg : ∀ k d, g k d = .var k) : ∀ (ws : List Wd) (d : Int), chgL g ws d = ws
  | [], d => by rw [chgL]
  | w :: ws, d => by rw [chgL, chg_id hg w d, chgL_id hg ws d]
end
/-! ### the head of a law -/
def tabAt (l : List (Addr × (Pos × Str))) (a : Addr) : Option (Pos × Str) := l.lookup a
variable [Inn]
def spLawT (K : PySem.W.Frag) (Ts : List Addr) : Sp := fun vs H Q _ => ∃ (a : Addr) (ns : List Int), vs = [.ref a] ∧ SqL K H a (ns.map V.int) ∧ ns.length ≤ 63 ∧ (∀ T ∈ Ts, TabI H T) ∧ ∀ H', Q (.bl true) H'
end Sh
namespace Sh
open PySem
end Sh
namespace Sh
open PySem PySem.Spec PyProof.Rows L2
/-! ### free numbers -/
mutual
def frees : Wd → Int → List Int
  | .var n, d => if d ≤ n then [n - d] else []
  | .node t _ ps, d => freesL ps (if t = .all then d + 1 else d)
def freesL : List Wd → Int → List Int
  | [], _ => []
  | w :: ws, d => frees w d ++ freesL ws d
end
mutual
theorem frees_len : ∀ (w : Wd) (d : Int), (frees w d).length ≤ knots w
  | .var n, d => by
    rw [frees, knots]
    split
    · exact Nat.le_refl _
    · exact Nat.zero_le _
  | .node t nm ps, d => by
    have := freesL_len ps (if t = .all then d + 1 else d)
    rw [frees, knots]; omega
theorem freesL_len : ∀ (ws : List Wd) (d : Int), (freesL ws d).length ≤ knotsL ws
  | [], d => by rw [freesL, knotsL]; exact Nat.le_refl _
  | w :: ws, d => by
    have h1 := frees_len w d
    have h2 := freesL_len ws d
    rw [freesL, knotsL, List.length_append]; omega
end
theorem mem_cutV {xs : List V} {lo hi : Option Int} {x : V} (h : x ∈ cutV xs lo hi) : x ∈ xs := by
  unfold cutV at h
  exact List.mem_of_mem_drop (List.mem_of_mem_take h)
theorem len_cutV {xs : List V} {lo hi : Option Int} : (cutV xs lo hi).length ≤ xs.length := by
  unfold cutV
  rw [List.length_take, List.length_drop]
  omega
variable [Inn]
/-- a list of ints that is told -/
def spFrees (n : Nat) : Sp := fun vs H Q _ => ∃ v w d, vs = [v, .int d] ∧ Rw H w v ∧ Her noOk w ∧ dep w ≤ n ∧ knots w ≤ 1000 ∧ ∀ l H', Same H H' → H' l = some (.lst ((frees w d).map V.int)) → Q (.ref l) H'
def mvd (b : Int) (n d : Int) : Int := if d ≤ n then n + b else n
def spShift (n : Nat) : Sp := fun vs H Q _ => ∃ v w d b, vs = [v, .int d, .int b] ∧ Rw H w v ∧ Her noOk w ∧ dep w ≤ n ∧ knots w ≤ 1000 ∧ ∀ r H', Same H H' → Rw H' (chg (fun n d => .var (mvd b n d)) w d) r → Q r H'
end Sh
namespace Sh
open PySem PySem.Spec PyProof.Rows L2
/-! ### a statement whose ways join behind it -/
def tCut (t u : TS) : TS := fun D σ H => ∃ J : L2.St → Hp → Prop, t { D with nx := J } σ H ∧ ∀ σ' H', J σ' H' → u D σ' H'
theorem pss_cut {X : Cx} {st : Stmt} {rest : List Stmt} {t u : TS} (h1 : PS X st t) (h2 : PSs X rest u) : PSs X (st :: rest) (tCut t u) := by
  intro pins s σ H D I ⟨J, h, k⟩
  refine wpAny_execs_cons (thn (h1 pins s σ H { D with nx := J } I h) fun f s1 q => ?_)
  cases f with
  | next =>
    obtain ⟨σ', H', I', q⟩ := q
    exact h2 pins s1 σ' H' D I' (k σ' H' q)
  | ret v => exact q
  | brk => exact q
  | cont => exact q
/-- an expression whose ways join behind it -/
def tCutE (t : TE) : TE := fun σ H Q => ∃ R : VK, t σ H R ∧ ∀ v H', R v H' → Q v H'
end Sh
namespace Sh
open PySem PySem.Spec PyProof.Rows L2
/-! ### a term put into a form -/
def gput (tw : Wd) (n d : Int) : Wd := if n = d then chg (fun k _ => .var (k + d)) tw 0 else .var (if d < n then n - 1 else n)
mutual
theorem chg_dep_le {g : Int → Int → Wd} {m : Nat} (hg : ∀ n d, dep (g n d) ≤ m + 1) : ∀ (w : Wd) (d : Int), dep (chg g w d) ≤ dep w + m
  | .var n, d => by
    have := hg n d
    rw [chg, dep]; omega
  | .node t nm ps, d => by
    have := chgL_dep_le hg ps (if t = .all then d + 1 else d)
    rw [chg, dep, dep]; omega
theorem chgL_dep_le {g : Int → Int → Wd} {m : Nat} (hg : ∀ n d, dep (g n d) ≤ m + 1) : ∀ (ws : List Wd) (d : Int), depL (chgL g ws d) ≤ depL ws + m
  | [], d => by rw [chgL, depL]; omega
  | w :: ws, d => by
    have h1 := chg_dep_le hg w d
    have h2 := chgL_dep_le hg ws d
    rw [chgL, depL, depL]; omega
end
variable [Inn]
end Sh

end
section
set_option Elab.async false
set_option linter.all false
set_option maxRecDepth 100000
set_option maxHeartbeats 4000000
namespace Sh
open PySem PySem.Spec PyProof.Rows L2
/-! ### for c in text -/
def Its (x : Str) : It := ⟨fun i _ => i < x.cps.size, fun i H v H' => H' = H ∧ ∃ c, x.cps[i]? = some c ∧ v = .str ⟨#[c]⟩, fun i _ => x.cps.size ≤ i⟩
def iStr (tl : TE) : TI := fun σ H R => tl σ H fun v H1 => ∃ x, v = .str x ∧ R (Its x) H1
end Sh
namespace Sh
open PySem PySem.Spec PyProof.Rows L2
/-! ### y = [elt for x in iter], y a local name -/
section
variable {X : Cx} {x : Str} {fr : List Str} {scope : Scope} {iter elt : Expr} {px pos : Pos} {wi : TI} {te : TE} {ix : List Nat}
theorem ps_setLC {y : Str} {py spos : Pos} {k : Nat} (hNd : X.N.Nodup) (hk0 : X.N[k]? = some y) (hyL : Loc X.env.scope y) (hxe : X.xe = fun _ _ => False) (hcalm : X.calm = true) (S : LcScope x fr X.env.scope scope) (hix : ix.length = fr.length) (hN : ∀ (j : Nat) (i : Nat) (y : Str), ix[j]? = some i → fr[j]? = some y → X.N[i]? = some y)
    (hi : PI X (.Name x px) iter wi) (he : ∀ s₃ H₃ fp pins, PE (cxLc X x fr scope s₃.heap.objs.size s₃ H₃ fp pins) elt te) (hcl : closureFor scope X.env = pure (clOf scope X.env) := by rfl) (hs : ∀ v, foldedSetIterable iter X.env v = pure v := by intro _; rfl)
    (hsw : swapsWith (.ListComp elt [⟨.Name x px, iter, [], 0⟩] scope pos) (some (.Name y py)) spos.line X.env = pure true := by rfl) (hfy : X.fn y = true ∨ X.env.scope.names.lookup y = some .local := by first | exact .inl rfl | exact .inr rfl | assumption) :
    PS X (.Assign [.Name y py] (.ListComp elt [⟨.Name x px, iter, [], 0⟩] scope pos) spos) (tAsg (tLC wi ix te) (gName k)) := by
  intro pins s σ H Dn I h
  rw [exec_Assign_Name_used _ _ _ _ hsw]
  refine wpAny_bind (wpAny_standAt (wpAny_bind ?_))
  show wpAny _ X.A (do let _ ← comprehension (.ListComp elt [⟨.Name x px, iter, [], 0⟩] scope pos) scope X.env _ (newList []) false (eval iter X.env) (some (assign (.Name y py) X.env))) _ _ s
  have hi' := hi pins s σ H _ I h
  rw [hxe] at hi' ⊢
  refine wpAny_bind (wpAny_mono (wpAny_comprehension_free (use := some (assign (.Name y py) X.env)) (Q := fun _ s' => SP X pins Dn .next s') rfl hs hcl S.kind S.names (wpAny_mono hi' (fun v s1 h1 => wpAny_mono h1 (fun itv s2 h2 => ?_) fun _ _ e => e) fun _ _ e => e)) (fun _ s' hq => wpAny_pure (wpAny_pure hq)) fun _ _ e => e)
  obtain ⟨it, fp, tn, J, H1, rfl, I2, T, ht0, hfp, hR⟩ := h2
  have hD0 : H1 s2.heap.objs.size = none := I2.fresh
  obtain ⟨W, ⟨m0, hW0⟩, hW⟩ := hR s2.heap.objs.size hD0
  have I3 : Inv X pins σ (upd H1 s2.heap.objs.size (.lst [])) { s2 with heap := s2.heap.push { cls := .type "list", data := .seq ([] : List Value).toArray } } := I2.lnew (t' := s2.toks) (ys := []) (its := []) .nil (Nat.zero_le _)
  refine wpAny_newObj_type (wpAny_newFunctionEnv S.nocell (by intro y hy; simp at hy) (fun h₁ hns hsb => ?_) S.kind)
  have hk : ∀ b o, (s2.heap.push { cls := .type "list", data := .seq ([] : List Value).toArray }).get? b = some o → h₁.get? b = some o := fun b o e => hsb.extBut b o (Nat.ne_of_lt (Heap.lt_size e)) (Heap.get?_push_of_some _ e)
  have hfp3 : ∀ b ∈ fp, FpOk X pins (upd H1 s2.heap.objs.size (.lst [])) b ∧ b < (s2.heap.push { cls := .type "list", data := .seq ([] : List Value).toArray }).objs.size := fun b hb => by
    obtain ⟨o, ho, _⟩ := T.obj 0 _ ht0 b hb
    have hlt := Heap.lt_size ho
    obtain ⟨f0, f1, f2, f3, f4, f5⟩ := hfp b hb
    exact ⟨⟨by rw [upd_ne (Nat.ne_of_lt hlt)]; exact f0, f1, f2, f3, f4, f5⟩, Nat.lt_of_lt_of_le hlt (by rw [Heap.size_push]; exact Nat.le_succ _)⟩
  have J4 := inv_lc (tk := s2.toks + ([] : List (Str × Value)).length) I3 S hix hN hfp3 hns hk
  generalize hs3 : ({ s2 with heap := s2.heap.push { cls := .type "list", data := .seq ([] : List Value).toArray } } : Shared) = s3 at *
  have ht1 : tn 0 h₁ := T.keep 0 _ _ ht0 fun b hb o e => hk b o (Heap.get?_push_of_some _ e)
  -- the loop
  have loop : ∀ s4, Inv (cxLc X x fr scope s3.heap.objs.size s3 (upd H1 s2.heap.objs.size (.lst [])) fp pins) [] (none :: capS σ ix) (upd H1 s2.heap.objs.size (.lst [])) s4 → tn 0 s4.heap →
      codeAny (model X.prog X.w) X.A (.compLoop (.ListComp elt [⟨.Name x px, iter, [], 0⟩] scope pos) 0 (.ref it) (.ref s2.heap.objs.size) (compEnvC scope (clOf scope X.env) s3.heap.objs.size X.env)) (compPost (model X.prog X.w) X.A (fun _ _ => False) (some (assign (.Name y py) X.env)) (fun _ s' => SP X pins Dn .next s') (.ref s2.heap.objs.size) s3.heap.objs.size) s4 := by
    intro s4 J4 ht4
    have hpg : PG (cxLc X x fr scope s3.heap.objs.size s3 (upd H1 s2.heap.objs.size (.lst [])) fp pins) (.Name x px) (gName 0) := pg_name (i := 0) S.nd rfl (Or.inl (by
      show (relabel scope X.env).names.lookup x = some .local
      rw [relabel_kind, S.loc]; rfl)) (Or.inr (by
      show (relabel scope X.env).names.lookup x = some .local
      rw [relabel_kind, S.loc]; rfl))
    have stat : ∀ {H' : Hp}, (∀ b ∈ fp, H' b = none) → ∀ b ∈ fp, FpOk (cxLc X x fr scope s3.heap.objs.size s3 (upd H1 s2.heap.objs.size (.lst [])) fp pins) [] H' b := fun hn b hb => by
      obtain ⟨⟨f0, f1, f2, f3, f4, f5⟩, hlt⟩ := hfp3 b hb
      have hlt' : b < s3.heap.objs.size := by rw [← hs3]; exact hlt
      refine ⟨hn b hb, Nat.ne_of_lt hlt', fun hs => ?_, .inl hb, fun y c e => f4 y c (clOf_some e), fun p hp => f5 p (by simpa [cxLc] using hp)⟩
      rcases List.mem_cons.mp (I3.stkSub b hs) with z | z
      · exact f1 z
      · exact f2 z
    refine codeAny_loop rfl (fun n s5 => ∃ i H5 o, Inv (cxLc X x fr scope s3.heap.objs.size s3 (upd H1 s2.heap.objs.size (.lst [])) fp pins) [] (o :: capS σ ix) H5 s5 ∧ tn i s5.heap ∧ (∀ b ∈ fp, H5 b = none) ∧ W i n H5) (fun n s5 hI => ?_) m0
      ⟨0, _, none, J4, ht4, fun b hb => (hfp3 b hb).1.1, hW0⟩
    obtain ⟨i, H5, o, J5, ht5, fr5, w5⟩ := hI
    show wpAny _ X.A ((compTurn (.ListComp elt [⟨.Name x px, iter, [], 0⟩] scope pos) 0 (.ref it) (.ref s2.heap.objs.size) (compEnvC scope (clOf scope X.env) s3.heap.objs.size X.env)).onRaise _) _ _ s5
    refine wpAny_noted ?_
    rw [compTurn_list1]
    refine wpAny_bind (wpAny_standAt (wpAny_bind ?_))
    rcases hW i n H5 w5 with ⟨stop, q⟩ | ⟨go, N, hN', step⟩
    · refine wpAny_mono (T.done (cxLc X x fr scope s3.heap.objs.size s3 (upd H1 s2.heap.objs.size (.lst [])) fp pins) rfl rfl rfl hcalm i [] s5 _ H5 (fun _ _ => False) J5 (stat fr5) ht5 stop) (fun r s6 ⟨hr, J6⟩ => ?_) fun _ _ z => z.elim
      subst hr
      obtain ⟨m, hn, _⟩ := id J6.loc
      have I6 : Inv X pins σ H5 s6 := inv_lc_end I3 J6 (fun b hb => (hfp3 b hb).1) (Heap.SameBut.refl ..)
      have hC5 : H5 s3.heap.objs.size = none := J6.free
      have fC := I3.fpOk (H' := H5) (Nat.le_refl _) hC5
      refine wpAny_pure (show wpAny _ X.A (assign (.Name y py) X.env (.ref s2.heap.objs.size)) _ _ s6 from wpAny_assign_Name (store_ok2 (v := .ref s2.heap.objs.size) I6 hNd hk0 hyL rfl (fun s7 I7 ⟨a, sb, ha⟩ => ?_) hfy))
      have hCa : s3.heap.objs.size ≠ a := fun z => by
        rcases ha with e | e
        · exact fC.2.1 (z.trans e)
        · exact fC.2.2.2.2.1 _ _ e z.symm
      exact ⟨m, hn.sameBut sb hCa, fun h' hs => ⟨_, H5, I7.turned (t' := s7.toks) (fun b o hb e => (hs.2 b hb).trans e) fC.1 fC.2.1 fC.2.2.2.1 fC.2.2.2.2.1 fC.2.2.2.2.2, q⟩⟩
    · refine wpAny_mono (T.item (cxLc X x fr scope s3.heap.objs.size s3 (upd H1 s2.heap.objs.size (.lst [])) fp pins) rfl rfl rfl hcalm i [] s5 _ H5 (fun _ _ => False) J5 (stat fr5) ht5 go) (fun r s6 ⟨u, hr, h6⟩ => ?_) fun _ _ z => z.elim
      subst hr
      refine wpAny_bind (wpAny_mono h6 (fun _ s7 ⟨v, H7, J7, r7, y7, ht7, fr7⟩ => ?_) fun _ _ z => z.elim)
      have J7' := J7.pinned (stat fr7) (T.obj _ _ ht7)
      refine wpAny_bind (wpAny_mono (hpg _ s7 _ H7 v u (fun σ' H' => σ' = some v :: capS σ ix ∧ H' = H7) J7' r7 ⟨rfl, rfl⟩) (fun _ s8 ⟨σ8, H8, J8, e8, e9⟩ => ?_) fun _ _ z => False.elim z)
      subst e8; subst e9
      refine wpAny_bind (wpAny_bind (wpAny_mono (he _ _ _ _ _ s8 _ H8 _ J8 (step v H8 y7)) (fun yv s9 ⟨y, H9, J9, r9, q9⟩ => ?_) fun _ _ z => False.elim z))
      refine wpAny_bind (wpAny_mono (mt_append (X := cxLc X x fr scope s3.heap.objs.size s3 (upd H1 s2.heap.objs.size (.lst [])) fp pins) _ s9 _ H9 (.ref s2.heap.objs.size) [y] (.ref s2.heap.objs.size) [yv] _ J9 rfl (.cons r9 .nil) q9) (fun _ s10 ⟨z, H10, J10, _, q10⟩ => ?_) fun _ _ z => False.elim z)
      obtain ⟨m', hm, w10⟩ := hN' _ q10
      refine wpAny_pure (wpAny_pure ⟨rfl, m', hm, i + 1, H10, some v, J10.unpinned, T.keep _ _ _ ht7 fun b hb ob e => (J10.pin (b, ob) (List.mem_append_right _ (List.mem_append_right _ (mem_pinsAt hb e)))).1, fun b hb => ?_, w10⟩)
      obtain ⟨ob, e, d⟩ := T.obj _ _ ht7 b hb
      exact (J10.pin (b, ob) (List.mem_append_right _ (List.mem_append_right _ (mem_pinsAt hb e)))).2.1
  subst hs3
  exact codeAny_compStart_list (loop _ J4 ht1) (T.self _ 0 _ _ _ ht1 (loop _ J4 ht1))
end
theorem dec_int' {i j : Int} : decide (V.int i = V.int j) = decide (i = j) := by
  by_cases h : i = j
  · rw [h, decide_eq_true rfl, decide_eq_true rfl]
  · rw [decide_eq_false h, decide_eq_false fun e => h (by injection e)]
end Sh

end
section
set_option Elab.async false
set_option linter.all false
set_option maxRecDepth 100000
set_option maxHeartbeats 4000000
namespace Sh
open PySem PySem.Spec PyProof.Rows L2
/-! ### worlds that a number makes: what a term means, whether a form is true -/
def nxt (s : Int) : Int := (s * 48271 + 12345) % 2147483647
def mixN (sd : Int) (cs : List Nat) : Int := cs.foldl (fun s c => nxt (s + (c : Nat))) sd
def mixR (sd : Int) (row : List Int) : Int := row.foldl (fun s t => nxt (s + 31 + t)) sd
def mixF (sd : Int) (nm : Str) (row : List Int) : Int := mixR (mixN sd nm.cps.toList) row / 8
mutual
def val (sz sd : Int) (th : List Int) : Wd → Int
  | .var n => th.getD n.toNat 0
  | .node _ nm ps => mixF sd nm (valL sz sd th ps) % sz
def valL (sz sd : Int) (th : List Int) : List Wd → List Int
  | [] => []
  | w :: ws => val sz sd th w :: valL sz sd th ws
end
mutual
def tru (sz sd : Int) : Wd → List Int → Bool
  | .var _, _ => false
  | .node t nm ps, th => match t with
    | .no => false
    | .fn => false
    | .rel => decide (mixF (sd + 1) nm (valL sz sd th ps) % 2 = 1)
    | .same => match valL sz sd th ps with
      | [x, y] => decide (x = y)
      | _ => false
    | .cond => !truH sz sd ps th || truT sz sd ps th
    | .all => (List.range sz.toNat).all fun i => truH sz sd ps ((i : Int) :: th)
def truH (sz sd : Int) : List Wd → List Int → Bool
  | [], _ => false
  | w :: _, th => tru sz sd w th
def truT (sz sd : Int) : List Wd → List Int → Bool
  | [], _ => false
  | _ :: ws, th => truH sz sd ws th
end
/-! ### terms and forms as the worlds take them -/
mutual
def TmW : Wd → Prop
  | .var n => 0 ≤ n
  | .node t _ ps => t = .fn ∧ ps.length ≤ 3 ∧ TmWL ps
def TmWL : List Wd → Prop
  | [] => True
  | w :: ws => TmW w ∧ TmWL ws
end
mutual
def FmW : Wd → Prop
  | .var _ => False
  | .node t _ ps => match t with
    | .no => ps = []
    | .fn => False
    | .rel => ps.length ≤ 3 ∧ TmWL ps
    | .same => ps.length = 2 ∧ TmWL ps
    | .cond => ps.length = 2 ∧ FmWL ps
    | .all => ps.length = 1 ∧ FmWL ps
def FmWL : List Wd → Prop
  | [] => True
  | w :: ws => FmW w ∧ FmWL ws
end
theorem TmWL.mem : ∀ {ws : List Wd} {w : Wd}, TmWL ws → w ∈ ws → TmW w
  | [], w, _, h => by cases h
  | u :: r, w, h, m => by
    rw [TmWL] at h
    rcases List.mem_cons.mp m with rfl | m
    · exact h.1
    · exact TmWL.mem h.2 m
theorem TmWL.of : ∀ {ws : List Wd}, (∀ w ∈ ws, TmW w) → TmWL ws
  | [], _ => by rw [TmWL]; exact True.intro
  | w :: r, h => by rw [TmWL]; exact ⟨h w (List.mem_cons_self ..), TmWL.of fun u hu => h u (List.mem_cons_of_mem _ hu)⟩
theorem TmW.of : ∀ {m : Nat} {w : Wd}, IsTerm m w → TmW w
  | m, .var n, h => by
    rw [TmW]
    cases m <;> (simp only [IsTerm] at h; exact h.1)
  | 0, .node t nm ps, h => by simp only [IsTerm] at h
  | m + 1, .node t nm ps, h => by
    simp only [IsTerm] at h
    rw [TmW]
    exact ⟨h.1, h.2.2.1, TmWL.of fun p hp => TmW.of (h.2.2.2 p hp)⟩
theorem FmW.of : ∀ {m : Nat} {w : Wd}, IsForm m w → FmW w
  | m, .var n, h => by simp only [IsForm] at h
  | m, .node t nm ps, h => by
    cases t with
    | fn => simp only [IsForm] at h
    | no => simp only [IsForm] at h; simp only [FmW]; exact h.2
    | same =>
      simp only [IsForm] at h
      obtain ⟨_, a, b, rfl, ha, hb⟩ := h
      simp only [FmW, TmWL]
      exact ⟨rfl, TmW.of ha, TmW.of hb, True.intro⟩
    | rel =>
      simp only [IsForm] at h
      simp only [FmW]
      exact ⟨h.2.1, TmWL.of fun p hp => TmW.of (h.2.2 p hp)⟩
    | cond =>
      cases m with
      | zero => simp only [IsForm] at h
      | succ m =>
        simp only [IsForm] at h
        obtain ⟨h0, a, b, rfl, ha, hb⟩ := h
        simp only [FmW, FmWL]
        exact ⟨rfl, FmW.of ha, FmW.of hb, True.intro⟩
    | all =>
      cases m with
      | zero => simp only [IsForm] at h
      | succ m =>
        simp only [IsForm] at h
        obtain ⟨h0, a, rfl, ha⟩ := h
        simp only [FmW, FmWL]
        exact ⟨rfl, FmW.of ha, True.intro⟩
theorem FmW.all {w : Wd} (h : FmW w) : FmW (.node .all "" [w]) := by
  simp only [FmW, FmWL]; exact ⟨rfl, h, True.intro⟩
/-! ### putting keeps what is meant -/
theorem getD_app_r {pre th : List Int} {n : Nat} (h : pre.length ≤ n) : (pre ++ th).getD n 0 = th.getD (n - pre.length) 0 := by
  rw [List.getD_eq_getElem?_getD, List.getD_eq_getElem?_getD, List.getElem?_append_right h]
theorem getD_app_l {pre th : List Int} {n : Nat} (h : n < pre.length) : (pre ++ th).getD n 0 = pre.getD n 0 := by
  rw [List.getD_eq_getElem?_getD, List.getD_eq_getElem?_getD, List.getElem?_append_left h]
mutual
theorem val_raise {sz sd : Int} {pre th : List Int} : ∀ (tw : Wd) (c : Int), TmW tw → val sz sd (pre ++ th) (chg (fun k _ => .var (k + (pre.length : Nat))) tw c) = val sz sd th tw
  | .var n, c, h => by
    rw [TmW] at h
    rw [chg, val, val, getD_app_r (by omega)]
    congr 1; omega
  | .node t nm ps, c, h => by
    rw [TmW] at h
    rw [chg, val, val, valL_raise ps _ h.2.2]
theorem valL_raise {sz sd : Int} {pre th : List Int} : ∀ (ws : List Wd) (c : Int), TmWL ws → valL sz sd (pre ++ th) (chgL (fun k _ => .var (k + (pre.length : Nat))) ws c) = valL sz sd th ws
  | [], c, h => by rw [chgL, valL, valL]
  | w :: ws, c, h => by
    rw [TmWL] at h
    rw [chgL, valL, valL, val_raise w c h.1, valL_raise ws c h.2]
end
mutual
theorem val_put {sz sd : Int} {pre th : List Int} {tw : Wd} (ht : TmW tw) : ∀ (w : Wd), TmW w → val sz sd (pre ++ th) (chg (gput tw) w (pre.length : Nat)) = val sz sd (pre ++ val sz sd th tw :: th) w
  | .var n, h => by
    rw [TmW] at h
    rw [chg, gput]
    by_cases e : n = (pre.length : Nat)
    · rw [if_pos e, val_raise tw 0 ht, val, getD_app_r (by omega)]
      have : n.toNat - pre.length = 0 := by omega
      rw [this]; rfl
    · rw [if_neg e, val, val]
      by_cases l : (pre.length : Nat) < n
      · rw [if_pos l, getD_app_r (by omega), getD_app_r (by omega)]
        obtain ⟨m, hm⟩ : ∃ m, n.toNat - pre.length = m + 1 := ⟨n.toNat - pre.length - 1, by omega⟩
        have e2 : (n - 1).toNat - pre.length = m := by omega
        rw [hm, e2]; rfl
      · rw [if_neg l, getD_app_l (by omega), getD_app_l (by omega)]
  | .node t nm ps, h => by
    rw [TmW] at h
    obtain ⟨rfl, _, h⟩ := h
    rw [chg, val, val, if_neg (by decide), valL_put ht ps h]
theorem valL_put {sz sd : Int} {pre th : List Int} {tw : Wd} (ht : TmW tw) : ∀ (ws : List Wd), TmWL ws → valL sz sd (pre ++ th) (chgL (gput tw) ws (pre.length : Nat)) = valL sz sd (pre ++ val sz sd th tw :: th) ws
  | [], h => by rw [chgL, valL, valL]
  | w :: ws, h => by
    rw [TmWL] at h
    rw [chgL, valL, valL, val_put ht w h.1, valL_put ht ws h.2]
end
mutual
theorem tru_put {sz sd : Int} {th : List Int} {tw : Wd} (ht : TmW tw) : ∀ (w : Wd) (pre : List Int), FmW w → tru sz sd (chg (gput tw) w (pre.length : Nat)) (pre ++ th) = tru sz sd w (pre ++ val sz sd th tw :: th)
  | .var n, pre, h => by simp only [FmW] at h
  | .node t nm ps, pre, h => by
    rw [chg]
    cases t with
    | fn => simp only [FmW] at h
    | no => simp only [tru]
    | rel =>
      simp only [FmW] at h
      rw [if_neg (by decide)]
      simp only [tru]
      rw [valL_put ht ps h.2]
    | same =>
      simp only [FmW] at h
      rw [if_neg (by decide)]
      simp only [tru]
      rw [valL_put ht ps h.2]
    | cond =>
      simp only [FmW] at h
      rw [if_neg (by decide)]
      simp only [tru]
      rw [truH_put ht ps pre h.2, truT_put ht ps pre h.2]
    | all =>
      simp only [FmW] at h
      rw [if_pos rfl]
      simp only [tru]
      congr 1
      funext i
      have := truH_put (sz := sz) (sd := sd) (th := th) ht ps ((i : Int) :: pre) h.2
      rw [List.length_cons] at this
      have e : ((pre.length : Nat) : Int) + 1 = ((pre.length + 1 : Nat) : Int) := by omega
      rw [e]
      exact this
theorem truH_put {sz sd : Int} {th : List Int} {tw : Wd} (ht : TmW tw) : ∀ (ws : List Wd) (pre : List Int), FmWL ws → truH sz sd (chgL (gput tw) ws (pre.length : Nat)) (pre ++ th) = truH sz sd ws (pre ++ val sz sd th tw :: th)
  | [], pre, h => by rw [chgL, truH, truH]
  | w :: ws, pre, h => by
    rw [FmWL] at h
    rw [chgL, truH, truH, tru_put ht w pre h.1]
theorem truT_put {sz sd : Int} {th : List Int} {tw : Wd} (ht : TmW tw) : ∀ (ws : List Wd) (pre : List Int), FmWL ws → truT sz sd (chgL (gput tw) ws (pre.length : Nat)) (pre ++ th) = truT sz sd ws (pre ++ val sz sd th tw :: th)
  | [], pre, h => by rw [chgL, truT, truT]
  | w :: ws, pre, h => by
    rw [FmWL] at h
    rw [chgL, truT, truT, truH_put ht ws pre h.2]
end
theorem chgL_len {g : Int → Int → Wd} (ws : List Wd) (d : Int) : (chgL g ws d).length = ws.length := by rw [chgL_map, List.length_map]
mutual
theorem TmW.raise {b : Int} (hb : 0 ≤ b) : ∀ (w : Wd) (d : Int), TmW w → TmW (chg (fun k _ => .var (k + b)) w d)
  | .var n, d, h => by rw [TmW] at h; rw [chg, TmW]; omega
  | .node t nm ps, d, h => by
    rw [TmW] at h
    rw [chg, TmW, chgL_len]
    exact ⟨h.1, h.2.1, TmWL.raise hb ps _ h.2.2⟩
theorem TmWL.raise {b : Int} (hb : 0 ≤ b) : ∀ (ws : List Wd) (d : Int), TmWL ws → TmWL (chgL (fun k _ => .var (k + b)) ws d)
  | [], d, h => by rw [chgL]; exact h
  | w :: ws, d, h => by
    rw [TmWL] at h
    rw [chgL, TmWL]
    exact ⟨TmW.raise hb w d h.1, TmWL.raise hb ws d h.2⟩
end
mutual
theorem TmW.put {tw : Wd} (ht : TmW tw) : ∀ (w : Wd) (d : Int), 0 ≤ d → TmW w → TmW (chg (gput tw) w d)
  | .var n, d, hd, h => by
    rw [TmW] at h
    rw [chg, gput]
    split
    · exact TmW.raise hd tw 0 ht
    · rw [TmW]; split <;> omega
  | .node t nm ps, d, hd, h => by
    rw [TmW] at h
    rw [chg, TmW, chgL_len]
    exact ⟨h.1, h.2.1, TmWL.put ht ps _ (by split <;> omega) h.2.2⟩
theorem TmWL.put {tw : Wd} (ht : TmW tw) : ∀ (ws : List Wd) (d : Int), 0 ≤ d → TmWL ws → TmWL (chgL (gput tw) ws d)
  | [], d, hd, h => by rw [chgL]; exact h
  | w :: ws, d, hd, h => by
    rw [TmWL] at h
    rw [chgL, TmWL]
    exact ⟨TmW.put ht w d hd h.1, TmWL.put ht ws d hd h.2⟩
end
mutual
theorem FmW.put {tw : Wd} (ht : TmW tw) : ∀ (w : Wd) (d : Int), 0 ≤ d → FmW w → FmW (chg (gput tw) w d)
  | .var n, d, hd, h => by simp only [FmW] at h
  | .node t nm ps, d, hd, h => by
    rw [chg]
    have hd' : 0 ≤ (if t = .all then d + 1 else d) := by split <;> omega
    cases t with
    | fn => simp only [FmW] at h
    | no => simp only [FmW] at h ⊢; rw [h, chgL]
    | rel => simp only [FmW] at h ⊢; rw [chgL_len]; exact ⟨h.1, TmWL.put ht ps _ hd' h.2⟩
    | same => simp only [FmW] at h ⊢; rw [chgL_len]; exact ⟨h.1, TmWL.put ht ps _ hd' h.2⟩
    | cond => simp only [FmW] at h ⊢; rw [chgL_len]; exact ⟨h.1, FmWL.put ht ps _ hd' h.2⟩
    | all => simp only [FmW] at h ⊢; rw [chgL_len]; exact ⟨h.1, FmWL.put ht ps _ hd' h.2⟩
theorem FmWL.put {tw : Wd} (ht : TmW tw) : ∀ (ws : List Wd) (d : Int), 0 ≤ d → FmWL ws → FmWL (chgL (gput tw) ws d)
  | [], d, hd, h => by rw [chgL]; exact h
  | w :: ws, d, hd, h => by
    rw [FmWL] at h
    rw [chgL, FmWL]
    exact ⟨FmW.put ht w d hd h.1, FmWL.put ht ws d hd h.2⟩
end
end Sh

end
section
set_option Elab.async false
set_option linter.all false
set_option maxRecDepth 100000
set_option maxHeartbeats 4000000
namespace Sh
open PySem PySem.Spec PyProof.Rows L2
/-! ### an exception on its way: B is all that stands, less the frames that run -/
structure Fl (X : Cx) (pins : List (Addr × Obj)) (H : Hp) (B : Heap) : Prop where
  hok : HOk X.prog X.w H B
  lnk : ∀ b o, X.s₀.heap.get? b = some o → b ∉ frs X.stack → ∃ o', B.get? b = some o'
  pin : ∀ p ∈ X.pn ++ pins, ∃ o', B.get? p.1 = some o'
inductive XSt (X : Cx) (B : Heap) (ea : Addr) (cls : Value) (h : Heap) : Prop
  | made (h0 : Heap) (args : List Value) (m : Heap.MadeExcOf h0 h ea cls args) (st : B.StaysIn h0) (ff : h0.FunFrames B X.stack)
  | fly (a0 : Value) (f : Heap.FlyingW B X.stack ea cls a0 h)
  | held (a0 : Value) (f : Heap.HeldW B X.stack ea cls a0 X.env.locals h)
theorem XSt.stays {X : Cx} {B h : Heap} {ea : Addr} {cls : Value} (x : XSt X B ea cls h) : B.StaysIn h := by
  cases x with
  | made h0 args m st ff => exact fun b o e => m.keeps b o (st b o e)
  | fly a0 f => exact f.1
  | held a0 f => exact f.1
/-- what is wanted of an exception in X: it is on its way, and R holds of its class, the locals and the abstract heap -/
def XS (X : Cx) (R : Value → L2.St → Hp → Prop) : Value → Shared → Prop := fun e s => ∃ ea cls σ H B, e = .ref ea ∧ Inv X [] σ H s ∧ Fl X [] H B ∧ XSt X B ea cls s.heap ∧ R cls σ H
section
variable {X : Cx} {pins : List (Addr × Obj)} {σ : L2.St} {H : Hp} {s : Shared} {B h' : Heap} {ea : Addr} {cls a0 : Value}
theorem _root_.L2.Inv.nopins (I : Inv X pins σ H s) : Inv X [] σ H s := I.pins_of fun p hp => nomatch hp
theorem nostk (I : Inv X pins σ H s) {b : Addr} (h1 : b ≠ X.env.locals) (h2 : b ∉ X.fs) : b ∉ frs X.stack := fun z => (List.mem_cons.mp (I.stkSub b z)).elim h1 h2
/-- the exception's own records and the frames' slots may turn: all that X speaks of stays -/
theorem _root_.L2.Inv.flown (I : Inv X pins σ H s) (F : Fl X pins H B) (sb : B.StaysIn s.heap) (st : B.StaysIn h') (up : s.heap.UpToSlots h') : Inv X pins σ H { s with heap := h' } := by
  have neL : ∀ b o, X.s₀.heap.get? b = some o → b ≠ X.env.locals := fun b o e => Nat.ne_of_lt (Nat.lt_of_lt_of_le (Heap.lt_size e) I.ok.above)
  have cellK : ∀ c v, s.heap.IsCell c v → h'.IsCell c v := fun c v ⟨o, ho, hd⟩ => by
    obtain ⟨sl, q⟩ := up c o ho fun vs z => by rw [hd] at z; cases z
    exact ⟨_, q, hd⟩
  have viaB : ∀ b o, (∃ o', B.get? b = some o') → s.heap.get? b = some o → h'.get? b = some o := fun b o ⟨o', e'⟩ e => by
    have e2 := sb b o' e'
    rw [e] at e2; cases e2
    exact st b o e'
  refine ⟨I.ok, I.os, I.bare, ⟨fun b o e n hb hx => ?_, fun b o e n hb hx => ?_, I.base.free, fun b o e hx => ?_, I.base.tups, I.base.frzs, I.base.tbls⟩, ?_, fun x c e => ?_, I.free, I.freeC, fun p hp => ?_, F.hok.kept st, I.len⟩
  · exact viaB b o (F.lnk b o e (nostk I (neL b o e) hb)) (I.base.keep b o e n hb hx)
  · obtain ⟨sl, e1⟩ := I.base.slot b o e n hb hx
    obtain ⟨_, o2, ho2, nf⟩ := I.ok.funs.mem hb
    rw [e] at ho2; cases ho2
    obtain ⟨sl', e2⟩ := up b _ e1 nf
    exact ⟨sl', e2⟩
  · obtain ⟨o', e1⟩ := I.base.there b o e hx
    by_cases hb : b ∈ X.fs
    · obtain ⟨_, o2, ho2, nf⟩ := I.funs.mem hb
      obtain ⟨sl, e2⟩ := up b o2 ho2 nf
      exact ⟨_, e2⟩
    · exact ⟨o', viaB b o' (F.lnk b o e (nostk I (neL b o e) hb)) e1⟩
  · obtain ⟨m, hn, hl⟩ := I.loc
    refine ⟨m, up.ns hn, fun i x v e1 e2 e3 => ?_⟩
    obtain ⟨u, r, l⟩ := hl i x v e1 e2 e3
    refine ⟨u, r, ?_⟩
    rcases l with l | ⟨k, c, e, z⟩
    · exact .inl l
    · exact .inr ⟨k, c, e, cellK c _ z⟩
  · obtain ⟨v, z⟩ := I.cell x c e
    exact ⟨v, cellK c v z⟩
  · obtain ⟨e, n, ne, nf, d⟩ := I.pin p hp
    exact ⟨viaB p.1 p.2 (F.pin p hp) e, n, ne, nf, d⟩
end

/-! ### noting, holding, leaving -/
section
variable {M : Model} {A : Around} {E : Value → Shared → Prop} {s : Shared}
theorem noteFrame_made {base h0 : Heap} {env : Env} {outer : List Env} {L e : Addr} {cls : Value} {args : List Value} {Q : Unit → Shared → Prop}
    (hfr : A.frames = some (env :: outer)) (hf : env.frame = some L) (m : Heap.MadeExcOf h0 s.heap e cls args) (st : base.StaysIn h0) (ff : h0.FunFrames base (env :: outer))
    (hQ : ∀ h' t, Heap.HeldW base (env :: outer) e cls (.ref t) L h' → s.heap.UpToSlots h' → Q () { s with heap := h' }) : wpAny M A (noteFrame (.ref e) env) Q E s := by
  obtain ⟨t, he, htn, ht⟩ := m.there
  have hen : base.get? e = none := by
    cases hq : base.get? e with
    | none => rfl
    | some o' => have := st e o' hq; rw [m.new] at this; cases this
  unfold noteFrame
  simp only [hf]
  refine wpAny_bind (wpAny_field he rfl (x := .none) rfl ?_)
  rw [if_neg (by decide)]
  refine wpAny_entryW (vs := #[.ref t, .none, .none, .none, .bool false, .none]) (a0 := .ref t) hfr (ff.of_keeps fun b o hb _ => ⟨o, m.keeps b o hb, rfl⟩) hf he (fun b o hb => m.keeps b o (st b o hb)) hen rfl (by show 1 < 6; decide) rfl fun h' hN => ?_
  obtain ⟨k1, k2, k3, k4⟩ := hN
  exact hQ h' t ⟨k1, hen, k2, k3⟩ k4
/-- one field of a record is written: every other address reads as before -/
theorem rec_put {h : Heap} {a : Addr} {o : Obj} {fs : Array Value} (at_ : h.get? a = some o) (rec_ : o.data = .fields fs) (f : Array Value → Array Value) :
    (∀ c, c ≠ a → (h.update a (Obj.mapFields f)).get? c = h.get? c) ∧ ∃ o', (h.update a (Obj.mapFields f)).get? a = some o' ∧ o'.data = .fields (f fs) := by
  have d := Obj.data_mapFields rec_ f
  exact ⟨fun c n => Heap.get?_update_other _ _ n.symm, o.mapFields f, Heap.get?_update_self _ at_ (Obj.isFreed_of_fields d), d⟩
theorem setFlight_held {base : Heap} {l : List Env} {e L : Addr} {cls a0 : Value} {Q : Unit → Shared → Prop} (R : Heap.HeldW base l e cls a0 L s.heap)
    (fin : ∀ g, Heap.HeldW base l e cls a0 L g → s.heap.UpToSlots g → Q () { s with heap := g }) : wpAny M A (setFlight (.ref e) (some L)) Q E s := by
  rcases R with ⟨below, new, frames, ox, xs, tb, ot, ys, gx, kx, dx, toTb, newTb, apart, gt, dt, place⟩
  have room : 3 < ys.size := by
    rcases Array.getElem?_eq_some_iff.mp place with ⟨r, _⟩
    exact r
  rcases rec_put gt dt (fun v => v.setIfInBounds 3 (rawInt L)) with ⟨rest, ot', gt', dt'⟩
  have plain : ∀ c o, s.heap.get? c = some o → (∀ v, o.data ≠ .fields v) → c ≠ tb := by
    rintro c o g n rfl
    exact n ys ((Option.some.inj (g.symm.trans gt)) ▸ dt)
  have go := fin (s.heap.update tb (Obj.mapFields fun v => v.setIfInBounds 3 (rawInt L)))
    ⟨fun c o g => (rest c (by rintro rfl; rw [newTb] at g; cases g)).trans (below c o g), new, frames.of_keeps fun c o g n => ⟨o, (rest c (plain c o g n)).trans g, rfl⟩,
      ox, xs, tb, ot', _, (rest e apart.symm).trans gx, kx, dx, toTb, newTb, apart, gt', dt', by simp [room]⟩
    (fun c o g n => ⟨o.slots, (rest c (plain c o g n)).trans g⟩)
  unfold setFlight
  refine wpAny_bind (wpAny_field gx dx toTb ?_)
  have some_ : (Value.ref tb != Value.none) = true := rfl
  rw [some_]
  exact wpAny_setField gt dt room go
/-- a noted exception comes back to its own frame -/
theorem cameBack_held {base : Heap} {env : Env} {l : List Env} {e L : Addr} {cls a0 : Value} (hf : env.frame = some L) (R : Heap.HeldW base l e cls a0 L s.heap) (h : ∀ h', Heap.HeldW base l e cls a0 L h' → s.heap.UpToSlots h' → E (.ref e) { s with heap := h' }) :
    cameBackBy M A env E (.ref e) s := by
  rcases id R with ⟨_, _, _, ox, xs, tb, _, _, gx, _, dx, toTb, _⟩
  unfold cameBackBy
  refine wpAny_bind (wpAny_field gx dx toTb ?_)
  have none_ : (Value.ref tb == Value.none) = false := rfl
  rw [none_, if_neg Bool.false_ne_true, hf]
  first
    | exact wpAny_bind (wpAny_pure (setFlight_held R h))
    | exact setFlight_held R h
end

section
variable {X : Cx} {R : Value → L2.St → Hp → Prop}
/-- X is a def's body: its frame stands on top -/
structure Top1 (X : Cx) : Prop where
  stk : X.stack = X.env :: X.outer
  frm : X.env.frame = some X.env.locals
/-- the exception is held by X's frame -/
theorem XS.note {e : Value} {s : Shared} {M : Model} {E : Value → Shared → Prop} {Q : Unit → Shared → Prop} (T : Top1 X) (x : XS X R e s)
    (h : ∀ h' ea cls a0 σ H B, e = .ref ea → Inv X [] σ H { s with heap := h' } → Fl X [] H B → Heap.HeldW B X.stack ea cls a0 X.env.locals h' → R cls σ H → Q () { s with heap := h' }) : wpAny M X.A (noteFrame e X.env) Q E s := by
  obtain ⟨ea, cls, σ, H, B, rfl, I, F, st, r⟩ := x
  have sb := st.stays
  have hfr : X.A.frames = some (X.env :: X.outer) := by rw [← T.stk]; exact I.ok.frames
  cases st with
  | made h0 args m s0 ff =>
    rw [T.stk] at ff
    exact noteFrame_made hfr T.frm m s0 ff fun h' t hh up => h h' ea cls _ σ H B rfl (I.flown F sb hh.1 up) F (by rw [T.stk]; exact hh) r
  | fly a0 f =>
    rw [T.stk] at f
    exact wpAny_looks_onW hfr T.frm f fun h' hh up => h h' ea cls _ σ H B rfl (I.flown F sb hh.1 up) F (by rw [T.stk]; exact hh) r
  | held a0 f => exact wpAny_noteFrame_againW T.frm f.2.2.2 (h s.heap ea cls a0 σ H B rfl I F f r)
theorem passes_XS {M : Model} (T : Top1 X) : PassesOwn M X.A X.env (XS X R) := fun e s x => by
  refine XS.note T x fun h' ea cls a0 σ H B e1 I F hh r => ?_
  subst e1
  exact cameBack_held T.frm hh fun h2 hh2 up => ⟨ea, cls, σ, H, B, rfl, I.flown F hh.1 hh2.1 up, F, .held a0 hh2, r⟩
end

/-! ### how an exception lies behind a call -/
def CX1 (P : Program) (w : World) : CXT := fun outer H s E e s' => ∃ (ea : Addr) (cls a0 : Value) (H' : Hp) (B : Heap), e = .ref ea ∧ s'.os = s.os ∧ AllBare s'.gens ∧ Heap.FlyingW B outer ea cls a0 s'.heap ∧ Un (frs outer) [] H H' s.heap s'.heap ∧ HOk P w H' B ∧
  (∀ b o, s.heap.get? b = some o → b ∉ frs outer → ∃ o', B.get? b = some o') ∧ E cls none H'
section
variable {X : Cx} {R : Value → L2.St → Hp → Prop} {pins : List (Addr × Obj)} {σ : L2.St} {H : Hp} {s s' : Shared} {e : Value}
/-- a callee's exception reaches X -/
theorem XS.of_call (I : Inv X pins σ H s) (hex : X.ex = []) (x : CX1 X.prog X.w X.stack H s (fun cls _ H' => R cls σ H') e s') : XS X R e s' := by
  obtain ⟨ea, cls, a0, H', B, rfl, os, bare, f, un, hok, lnk, r⟩ := x
  have I' : Inv X [] σ H' s' := I.nopins.call' (ch := []) os un (hok.kept f.1) bare fun b z => nomatch z
  refine ⟨ea, cls, σ, H', B, rfl, I', ⟨hok, fun b o q hb => ?_, fun p hp => ?_⟩, .fly a0 f, r⟩
  · obtain ⟨o', e1⟩ := I.base.there b o q (by rw [hex]; simp)
    exact lnk b o' e1 hb
  · have hp' : p ∈ X.pn ++ [] := hp
    obtain ⟨q, n, ne, nf, _⟩ := I.nopins.pin p hp'
    exact lnk p.1 p.2 q (nostk I ne nf)
/-- an exception leaves X's frame -/
theorem XS.leave {M : Model} {E : Value → Shared → Prop} {E' : XK} (T : Top1 X) (hex : X.ex = []) (x : XS X (fun cls _ H' => E' cls none H') e s) : wpAny M X.A (leaving X.env e) (fun _ s' => CX1 X.prog X.w X.outer X.H₀ X.s₀ E' e s') E s := by
  unfold leaving
  refine wpAny_bind (XS.note T x fun h' ea cls a0 σ H B e1 I F hh r => ?_)
  subst e1
  refine wpAny_landsW hh fun h2 f up => ?_
  have J := I.flown F hh.1 f.1 up
  rw [T.stk] at f
  obtain ⟨k1, k2, ⟨_, _, k3⟩, k4⟩ := f
  refine ⟨ea, cls, a0, H, B, rfl, J.os, J.bare, ⟨k1, k2, k3, k4⟩, ?_, F.hok, fun b o q hb => F.lnk b o q ?_, r⟩
  · have u := J.base
    rw [hex] at u
    exact u
  · exact nostk I (Nat.ne_of_lt (Nat.lt_of_lt_of_le (Heap.lt_size q) I.ok.above)) hb
end
end Sh
namespace Sh
open PySem PySem.Spec PyProof.Rows L2
/-! ### defs that may raise -/
def OkX (P : Program) (w : World) (K : PySem.W.Frag) (mg : Str → Option Value) (base : Heap) (x : Str) (ps : List Str) (k : Nat) (sp : Sp) : Prop :=
  ∃ f fd, FnOk P w K mg base (CX1 P w) k f fd ps sp ∧ Binds K fd ps [] ∧ mg x = some (.ref f) ∧ PySem.W.keepIn K (.ref f) = true
/-- the context of a def's body, an exception wanted as XS says -/
abbrev cxX (P : Program) (w : World) (K : PySem.W.Frag) (mg : Str → Option Value) (base : Heap) (N : List Str) (x : Str) (scope : Scope) (f : Addr) (cd : Value) (A : Around) (outer : List Env) (s : Shared) (H : Hp) (E : XK) : Cx :=
  (cxOf (CX1 P w) P w K mg base N x scope f cd A outer s H E).wish (XS (cxOf (CX1 P w) P w K mg base N x scope f cd A outer s H E) fun cls _ H' => E cls none H')
theorem top_cxOf {CX : CXT} {P : Program} {w : World} {K : PySem.W.Frag} {mg : Str → Option Value} {base : Heap} {N : List Str} {x : Str} {scope : Scope} {f : Addr} {cd : Value} {A : Around} {outer : List Env} {s : Shared} {H : Hp} {E : XK} :
    Top1 (cxOf CX P w K mg base N x scope f cd A outer s H E) := ⟨rfl, rfl⟩
section
variable {P : Program} {w : World} {K : PySem.W.Frag} {mg : Str → Option Value} {base : Heap} {x : Str} {st : Stmt} {N ps : List Str} {k : Nat} {sp : Sp}
theorem Def.okX (D : Def K mg x st ps) (S : FnScope N ps (defScope st)) (len : ∀ vs H Q E, sp vs H Q E → vs.length = ps.length)
    (hbody : ∀ (f : Addr) (cdv : Value) (A : Around) (outer : List Env) (s : Shared) (H : Hp) (vs : List V) (Q : VK) (E : XK), Room k (A.deeper (envOfC x (defScope st) s.heap.objs.size f cdv)) → sp vs H Q E →
      ∃ t, PSs (cxX P w K mg base N x (defScope st) f cdv A outer s H E) (defBody st) t ∧ t { nx := fun _ H' => Q .non H', rt := Q } (start N vs) H) : OkX P w K mg base x ps (k + 1) sp := by
  obtain ⟨f, fd, F, b, m⟩ := D
  refine ⟨f, fd, ?_, b, m, F.kp⟩
  obtain ⟨oc, od, kV, doc, pm, an, cdv, ct, osl, rfl, lk, hcd⟩ := F.ex
  refine fn_of lk hcd S len fun A outer s H vs Q E hr hsp => ?_
  obtain ⟨t, h, q⟩ := hbody f cdv A outer s H vs Q E hr hsp
  refine ⟨t, fun pins s1 σ H1 D1 I hq => ?_, q⟩
  refine wpAny_mono (h pins s1 σ H1 D1 (I.wish _) hq) (fun fl s2 z => z.unwish) fun e s2 z => ?_
  exact XS.leave top_cxOf rfl z
end
/-! ### a call that may raise, within X.wish (XS X R) -/
def tCallX (sp : Sp) (R : Value → L2.St → Hp → Prop) (t : TA) : TE := fun σ H Q => t σ H fun vs H1 => sp vs H1 Q fun cls _ H' => R cls σ H'
section
variable {X : Cx} {R : Value → L2.St → Hp → Prop} {x : Str} {ps : List Str} {k j : Nat} {sp : Sp} {p pos : Pos} {e : Expr} {es : List Expr} {t : TA}
/-! ### raise C(..) -/
/-- C is an error class of the program's own, under ValueError -/
structure Exc (K : PySem.W.Frag) (mg : Str → Option Value) (base : Heap) (x : Str) (C : Addr) : Prop where
  own : OwnCls x C [.type "ValueError", .type "Exception", .type "BaseException", .type "object"] "ValueError.__new__" mg base
def tRaise (C : Addr) (R : Value → L2.St → Hp → Prop) (t : TA) : TS := fun _ σ H => t σ H fun vs H1 => vs.length ≤ sizeLine ∧ R (.ref C) σ H1
theorem ps_raise {C : Addr} (O : Exc X.K X.mg X.base x C) (hex : X.ex = []) (hc : X.calm = true) (hg : Gl X x) (ha : PA (X.wish (XS X R)) (e :: es) t) (hdb : (x == ("__debug__" : Str)) = false := by decide)
    (he : starEach (e :: es) X.env = (false, eval e X.env) :: starEach es X.env := by rfl) (hpl : (backTo pos (starEach es X.env)).any (·.1) = false := by rfl) {rpos : Pos} :
    PS (X.wish (XS X R)) (.Raise (some (.Call (.Name x p) (e :: es) [] pos)) none rpos) (tRaise C R t) := by
  intro pins s σ H D I h
  have O' := O.own
  obtain ⟨tl, N, nm, q, bs, hdct, sn, sub, ab, col, dd, k0, k1, k2, k3, k5, mN, hC, hN, hni, T⟩ := O'.obj
  have base_ := PySem.F.excBase_ValueError
  have plain_ : (backTo pos (starEach (e :: es) X.env)).any (·.1) = false := by
    rw [he]
    exact hpl
  refine @wpAny_Raise_call_subT _ _ _ _ _ _ nm q C N bs tl _ hdct sn sub ab col dd k0 k1 k2 k3 k5 _ _ _ base_ mN _ _ _ _ _ _ (T.hasType base_.hasBase) (I.ok.hd hc) plain_ hni (ld_glob I hg O'.bound ⟨rfl, ?_⟩ hdb)
  have ha' := ha pos pins s σ H _ I h
  have he' : starEach (e :: es) (X.wish (XS X R)).env = (false, eval e (X.wish (XS X R)).env) :: starEach es (X.wish (XS X R)).env := he
  rw [he'] at ha' ⊢
  refine Calls.evalArgs_plain (wpAny_mono ha' (fun us s1 ⟨vs, H1, I1, r, hl, q1⟩ => ?_) fun _ _ y => y)
  have J := I1.unwish
  refine ⟨rfl, by rw [← r.length]; exact hl, J.bk _ _ hC, hN.keeps J.bk, T.keeps J.bk, fun h' ea m => ?_⟩
  have J' : Inv X [] σ H1 { s1 with heap := h' } := J.nopins.kept (t' := s1.toks) m.keeps
  have stk : ∀ b o, s1.heap.get? b = some o → b ∉ frs X.stack → (PySem.W.hideAll s1.heap (frs X.stack)).get? b = some o := fun b o z hb => PySem.W.hideAll_get _ z hb
  refine ⟨ea, _, σ, H1, PySem.W.hideAll s1.heap (frs X.stack), rfl, J', ⟨fun a o z => ?_, fun b o z hb => ?_, fun p hp => ?_⟩, .made s1.heap us m (fun b o z => PySem.W.of_hideAll _ z) (PySem.W.funFrames_hide J.stack fun env henv a hf => List.mem_filterMap.mpr ⟨env, henv, hf⟩), q1⟩
  · have nf : ∀ b u, H1 b = some u → b ∉ frs X.stack := fun b u z hb => by rw [J.stkFree b hb] at z; cases z
    refine (J.hok a o z).stay (fun b u hb y => stk b u y ?_) (fun _ y => y) fun _ _ y => y
    rcases hb with rfl | hb
    · exact nf _ _ z
    · exact nf _ _ hb
  · obtain ⟨o', e1⟩ := J.base.there b o z (by rw [hex]; simp)
    exact ⟨o', stk b o' e1 hb⟩
  · obtain ⟨q, n, ne, nf, _⟩ := J.nopins.pin p hp
    exact ⟨p.2, stk p.1 p.2 q (nostk J ne nf)⟩
end
theorem PS.nox {X : Cx} {st : Stmt} {t : TS} (h : PS X.nox st t) : PS X st t := fun pins s σ H D I hw => by
  refine wpAny_mono (h pins s σ H D (I.wish _) hw) (fun f s' z => z.unwish) fun _ _ z => z.elim
end Sh

end
section
set_option Elab.async false
set_option linter.all false
set_option maxRecDepth 100000
set_option maxHeartbeats 4000000
namespace Sh
open PySem PySem.Spec PySem.Calls PyProof.Rows L2 PySem.W PySem.Builtin PySem.Builtin.ObjectAttr PySem.Builtin.Getset_descriptor
/-! ### isinstance of an exception of an own class: what its class answers, by the written part K -/
def IsEx (ea : Addr) (cls : Value) (h : Heap) : Prop := ∃ o, h.get? ea = some o ∧ o.cls = cls
structure ExK (K : Frag) (C : Addr) : Prop where
  ga : findIn K (.ref C) "__getattribute__" = some (some (.builtin "BaseException.__getattribute__"))
  gn : findIn K (.ref C) "__getattr__" = some none
  ca : findIn K (.ref C) "__class__" = some (some (.builtin "object.__class__"))
  ob : mroIn K C (.type "object") = some true
  be : mroIn K C (.type "BaseException") = some true
  it : (clsIn K C).isSome = true
section
variable {prog : Program} {w : World} {A : Around} {E : Value → Shared → Prop} {s : Shared} {K : Frag} {ea C : Addr}
theorem IsEx.ty {M : Model} {cls : Value} {h : Heap} (x : IsEx ea cls h) : Looks M h (typeOf (.ref ea)) cls := by
  rcases x with ⟨o, g, c⟩
  rw [← c]
  exact (Looks.ld g).andThen .now
/-- e.__class__ by the descriptor of object -/
theorem ex_descr {R : Result → Shared → Prop} {tp : Value} (X : K.In s.heap) (I : IsEx ea (.ref C) s.heap) (k : ExK K C) (fin : R (.ok (.ret (.ref C))) s) :
    codeAny (model prog w) A (.call (.builtin "getset_descriptor.__get__") ⟨[.builtin "object.__class__", .ref ea, tp], []⟩) R s := by
  cases s with
  | mk hp gn dw tk os =>
    have ty := I.ty (M := model prog w)
    have up := looks_mroIn (M := model prog w) X k.ob
    have up' : Looks (model prog w) hp (isSubtype (.ref C) (.type (".".intercalate ("object.__class__".cutAt '.').dropLast))) true := by
      have ow : (".".intercalate ("object.__class__".cutAt '.').dropLast) = "object" := by decide +kernel
      rw [ow]
      exact up
    refine codeAny_call_builtin KF.slot_gs.plain KF.entry_gs ?_
    refine KF.slot_gs.check _ _ _ _ _ _ _ _ KF.type_class (KF.args_gs _ _ _) ?_
    repeat (any_goals (first | assumption | with_reducible refine Looks.at ty ?_ | with_reducible refine Looks.at up' ?_ | wp_step))
    refine ⟨Code.quiet_builtin _ (by decide +kernel), ?_⟩
    refine codeAny_builtin KF.entry_class ?_
    repeat (any_goals (first | exact fin | with_reducible refine Looks.at ty ?_ | wp_step))
/-- the slot takes e -/
theorem ex_checked {M : Model} {v : Value} {Q : Unit → Shared → Prop} (X : K.In s.heap) (I : IsEx ea (.ref C) s.heap) (k : ExK K C) (fin : Q () s) : wpAny M A (checkBuiltinCall "BaseException.__getattribute__" ⟨[.ref ea, v], []⟩) Q E s := by
  cases s with
  | mk hp gn dw tk os =>
    have ty := I.ty (M := M)
    have up := looks_mroIn (M := M) X k.be
    have ar := F.args_bexc_ga (.ref ea) v
    simp only [checkBuiltinCall, show builtinKind "BaseException.__getattribute__" = some .slot from by decide +kernel, show splitId "BaseException.__getattribute__" = some ("BaseException", "__getattribute__") from by decide +kernel, isInstance]
    repeat (any_goals (first | exact fin | assumption | with_reducible refine Looks.at ty ?_ | with_reducible refine Looks.at up ?_ | wp_step))
/-- e.__class__ -/
theorem ex_class {Q : Option Value → Shared → Prop} (X : K.In s.heap) (I : IsEx ea (.ref C) s.heap) (k : ExK K C) (fin : Q (some (.ref C)) { s with toks := s.toks + 1 }) : wpAny (model prog w) A (getAttr? (.ref ea) "__class__") Q E s := by
  cases s with
  | mk hp gn dw tk os =>
    have ty := I.ty (M := model prog w)
    have l1 := looks_findIn (M := model prog w) X k.ga
    have l2 := looks_findIn (M := model prog w) X k.gn
    have l3 := looks_findIn (M := model prog w) X k.ca
    have l4 := looks_mroIn (M := model prog w) X k.be
    have sl := F.excAttr_ValueError.ga
    have bd := sl.bind (.ref ea)
    have t1 := F.typeOf_object_class
    have t2 : (⟨hp, gn, dw, tk + 1, os⟩ : Shared).TypeIs (.builtin "object.__class__") "getset_descriptor" := t1
    have d1 := F.slot_gs_get.lookup
    have d2 := F.slot_gs_set.lookup
    have ne : (Value.builtin "BaseException.__getattribute__" == .builtin "object.__getattribute__") = false := by decide +kernel
    have ne' : (onTheHeap (.ref C) && Value.builtin "BaseException.__getattribute__" == .builtin "object.__getattribute__") = false := by rw [ne, Bool.and_false]
    unfold getAttr? getAttrBy? getAttrBy
    repeat (any_goals (first | exact fin | assumption | with_reducible refine Looks.at ty ?_ | with_reducible refine Looks.at l1 ?_ | with_reducible refine Looks.at l2 ?_ | wp_step))
    refine codeAny_call_builtin sl.plain F.entry_bexc_ga (ex_checked (s := ⟨hp, gn, dw, tk + 1, os⟩) X I k ?_)
    repeat (any_goals (first | exact fin | assumption | with_reducible refine Looks.at ty ?_ | with_reducible refine Looks.at l4 ?_ | with_reducible refine Looks.at l3 ?_ | with_reducible refine ex_descr (s := ⟨hp, gn, dw, tk + 1, os⟩) X I k ?_ | wp_step))
theorem kitx_ex (k : ExK K C) : KitX K (.ref ea) (.ref C) (IsEx ea (.ref C)) := by
  have cls : ∃ o cd, K.lookup C = some o ∧ o.data = .cls cd := by
    have q := k.it
    unfold clsIn at q
    split at q
    · exact ⟨_, _, by assumption, rfl⟩
    · cases q
  obtain ⟨o, cd, lo, dc⟩ := cls
  refine ⟨fun _ _ _ I => I.ty, fun M h X _ => ?_, fun h tp dd its n sl X at_ => ?_, fun X I fin => ex_class X I k fin⟩
  · intro A' Q' E' s' up fin
    obtain ⟨c', d', da', sl'⟩ := o
    cases dc
    exact wpAny_bind (wpAny_loadPart (up _ _ (X _ _ lo)) (wpAny_pure fin))
  · by_cases e : C = tp
    · subst e
      have z := X _ _ lo
      rw [at_] at z
      cases z
      cases dc
    · exact beq_eq_false_iff_ne.mpr fun q => e (Value.ref.inj q)
end
end Sh

end
section
set_option Elab.async false
set_option linter.all false
set_option maxRecDepth 100000
set_option maxHeartbeats 4000000
namespace Sh
open PySem PySem.Spec PyProof.Rows L2
/-- a tracked thing stands in the heap -/
theorem obj_has {P : Program} {w : World} {H : Hp} {h : Heap} {a : Addr} {o : HO} (x : ObjOk P w H h a o) : ∃ ob, h.get? a = some ob := by
  cases o with
  | lst xs => obtain ⟨_, _, _, _, e⟩ := x; exact ⟨_, e⟩
  | tup xs => obtain ⟨_, _, _, ob, e, _⟩ := x; exact ⟨_, e⟩
  | dK kvs => obtain ⟨_, _, _, _, ob, _, _, e, _⟩ := x; exact ⟨_, e⟩
  | dT kvs => obtain ⟨_, _, _, _, ob, _, _, e, _⟩ := x; exact ⟨_, e⟩
  | set S n => obtain ⟨ob, _, _, _, e, _⟩ := x; exact ⟨_, e⟩
  | ins C dx fs => obtain ⟨_, _, _, e, _⟩ := x; exact ⟨_, e⟩
  | own y => exact x
  | xd fs => obtain ⟨_, ⟨_, _, _, e, _⟩, _⟩ := x; exact ⟨_, e⟩
  | rng lo hi => obtain ⟨_, _, _, e⟩ := x; exact ⟨_, e⟩
  | frz ob u => exact ⟨_, x.1⟩
  | tbl ps => exact ⟨_, show h.get? a = some _ from x⟩
  | met f y => exact ⟨_, show h.get? a = some _ from x⟩
  | ext φ => exact x.2.1
/-! ### the context of an except suite: the exception at ea is handled, none leaves -/
abbrev cxH (X : Cx) (ea : Addr) : Cx := { X with A := X.A.mark (some (.ref ea)), calm := false, xe := fun _ _ => False }
section
variable {X : Cx} {pins : List (Addr × Obj)} {σ σ' : L2.St} {H : Hp} {s : Shared} {h' : Heap} {ea : Addr} {cls : Value}
theorem _root_.L2.Inv.toH (I : Inv X pins σ H s) : Inv (cxH X ea) pins σ H s :=
  have o := I.ok
  ⟨⟨o.mod, o.kind, o.glob, o.blt, o.above, o.inj, o.has, o.cab, (fun z => by cases z), o.frames, o.stk, o.exf, o.bs, o.bsz, o.noex, o.exfs, o.funs, o.frf⟩, I.os, I.bare, I.base, I.loc, I.cell, I.free, I.freeC, I.pin, I.hok, I.len⟩
theorem _root_.L2.Inv.ofH (J : Inv (cxH X ea) pins σ H s) (o : X.Ok) : Inv X pins σ H s := ⟨o, J.os, J.bare, J.base, J.loc, J.cell, J.free, J.freeC, J.pin, J.hok, J.len⟩
/-- the frame's own map has turned -/
theorem _root_.L2.Inv.nsTurn {t' : Nat} (I : Inv X pins σ H s) (hs : Heap.SameBut X.env.locals s.heap h') (hl : σ'.length = σ.length)
    (loc : ∃ m, h'.Ns X.env.locals m ∧ ∀ (i : Nat) (x : Str) (v : V), X.N[i]? = some x → σ'[i]? = some (some v) → Vis X.env.scope x → ∃ u, RelV v u ∧ Look X.env h' m x u) : Inv X pins σ' H { s with heap := h', toks := t' } := by
  have neL : ∀ b o, X.s₀.heap.get? b = some o → b ≠ X.env.locals := fun b o e => Nat.ne_of_lt (Nat.lt_of_lt_of_le (Heap.lt_size e) I.ok.above)
  have to : ∀ b o, b ≠ X.env.locals → s.heap.get? b = some o → h'.get? b = some o := fun b o n e => (hs.2 b n).trans e
  refine ⟨I.ok, I.os, I.bare, ⟨fun b o e n hb hx => to b o (neL b o e) (I.base.keep b o e n hb hx), fun b o e n hb hx => ?_, I.base.free, fun b o e hx => ?_, I.base.tups, I.base.frzs, I.base.tbls⟩, loc, fun y c e => ?_, I.free, I.freeC, fun p hp => ?_, fun a o e => ?_, hl.trans I.len⟩
  · obtain ⟨sl, z⟩ := I.base.slot b o e n hb hx
    exact ⟨sl, to b _ (neL b o e) z⟩
  · obtain ⟨o', z⟩ := I.base.there b o e hx
    exact ⟨o', to b o' (neL b o e) z⟩
  · obtain ⟨v, o, z, d⟩ := I.cell y c e
    exact ⟨v, o, to c o (I.cne y c e) z, d⟩
  · obtain ⟨e, n, ne, nf, d⟩ := I.pin p hp
    exact ⟨to p.1 p.2 ne e, n, ne, nf, d⟩
  · refine (I.hok a o e).stay (fun b u hb z => to b u (fun q => ?_) z) (fun _ z => z) fun _ _ z => z
    rcases hb with rfl | hb
    · rw [q, I.free] at e; cases e
    · rw [q, I.free] at hb; cases hb
/-- except .. as n: the name goes -/
theorem nameGoes_ok {M : Model} {A : Around} {E : Value → Shared → Prop} {i : Nat} {n : Str} {pos : Pos} {Q : Unit → Shared → Prop} (I : Inv X pins σ H s) (hN : X.N.Nodup) (hi : X.N[i]? = some n) (hx : X.env.kindOf n = some .local)
    (h : ∀ s', Inv X pins (σ.set i none) H s' → Q () s') : wpAny M A (do bindName X.env n .none; unbindBehindTheSuite X.env n pos) Q E s := by
  obtain ⟨m, hn, hl⟩ := id I.loc
  refine wpAny_nameGoes_keeps hx hn (by rw [I.ok.kind]; rfl) fun g v hn' hs => h _ (I.nsTurn hs (by rw [List.length_set]) ⟨_, hn', fun j y u e1 e2 e3 => ?_⟩)
  have hj : j ≠ i := fun e => by
    subst e
    have hlt : j < σ.length := by rw [I.len]; exact (List.getElem?_eq_some_iff.mp e1).1
    rw [List.getElem?_set_self hlt] at e2
    cases e2
  rw [List.getElem?_set_ne hj.symm] at e2
  obtain ⟨w, r, l⟩ := hl j y u e1 e2 e3
  refine ⟨w, r, ?_⟩
  rcases l with ⟨k, z⟩ | ⟨k, c, e, o, z, d⟩
  · refine .inl ⟨k, ?_⟩
    have hy : y ≠ n := fun e => hj (nodup_ix hN e1 (e ▸ hi))
    show (if y = n then v else m y) = some w
    rw [if_neg hy]; exact z
  · exact .inr ⟨k, c, e, o, (hs.2 c (I.cne y c e)).trans z, d⟩
/-- an object that nobody spoke of is tracked -/
theorem _root_.L2.Inv.adopt {o : HO} (I : Inv X pins σ H s) (h0 : H ea = none) (h1 : X.s₀.heap.get? ea = none) (h2 : ea ≠ X.env.locals) (h3 : ∀ x c, X.env.cells.lookup x = some c → c ≠ ea) (h4 : ∀ p ∈ X.pn ++ pins, p.1 ≠ ea) (hn : ObjOk X.prog X.w (upd H ea o) s.heap ea o) :
    Inv X pins σ (upd H ea o) s := by
  have old : ∀ b u, H b = some u → upd H ea o b = some u := fun b u e => by rw [upd_ne (ne_of_none e h0)]; exact e
  have no : ∀ b, b ≠ ea → H b = none → upd H ea o b = none := fun b n e => by rw [upd_ne n]; exact e
  refine ⟨I.ok, I.os, I.bare, ⟨I.base.keep, I.base.slot, fun b u e n hx => no b (fun z => by rw [z, h1] at e; cases e) (I.base.free b u e n hx), I.base.there, fun b xs e => old b _ (I.base.tups b xs e), fun b u v e => old b _ (I.base.frzs b u v e), fun b ps e => ?_⟩, I.loc, I.cell, no _ (Ne.symm h2) I.free, fun x c e => no c (h3 x c e) (I.freeC x c e), fun p hp => ?_, fun b u e => ?_, I.len⟩
  · obtain ⟨more, z⟩ := I.base.tbls b ps e
    exact ⟨more, old b _ z⟩
  · obtain ⟨e, n, r⟩ := I.pin p hp
    exact ⟨e, no p.1 (h4 p hp) n, r⟩
  · by_cases hb : b = ea
    · subst hb
      rw [upd_same] at e; cases e
      exact hn
    · rw [upd_ne hb] at e
      exact (I.hok b u e).stay (fun _ _ _ z => z) (fun c z => old c _ z) fun c xs z => old c _ z
theorem exc_new {B : Heap} {a0 : Value} (I : Inv X pins σ H s) (F : Fl X pins H B) (f : Heap.FlyingW B X.stack ea cls a0 s.heap) : H ea = none ∧ X.s₀.heap.get? ea = none ∧ ea ≠ X.env.locals ∧ (∀ x c, X.env.cells.lookup x = some c → c ≠ ea) ∧ (∀ p ∈ X.pn ++ pins, p.1 ≠ ea) ∧ IsEx ea cls s.heap := by
  obtain ⟨f1, f2, f3, oe, vs, tb, ot, ts, he, hc, hd, _⟩ := id f
  have ns : ea ∉ frs X.stack := fun z => by
    obtain ⟨_, o, ho, nf⟩ := f3.mem z
    rw [he] at ho; cases ho
    exact nf vs hd
  refine ⟨?_, ?_, fun z => ?_, fun x c e z => ?_, fun p hp z => ?_, oe, he, hc.1⟩
  · cases e : H ea with
    | none => rfl
    | some u =>
      obtain ⟨o, q⟩ := obj_has (F.hok ea u e)
      rw [f2] at q; cases q
  · cases e : X.s₀.heap.get? ea with
    | none => rfl
    | some o =>
      obtain ⟨o', q⟩ := F.lnk ea o e ns
      rw [f2] at q; cases q
  · obtain ⟨m, ⟨o, es, ep, ho, hd', _⟩, _⟩ := I.loc
    rw [← z, he] at ho; cases ho
    rw [hd] at hd'; cases hd'
  · obtain ⟨v, o, ho, hd'⟩ := I.cell x c e
    rw [z, he] at ho; cases ho
    rw [hd] at hd'; cases hd'
  · obtain ⟨o', q⟩ := F.pin p hp
    rw [z, f2] at q; cases q
end
end Sh
namespace Sh
open PySem PySem.Spec PyProof.Rows L2
/-! ### try, except -/
abbrev TH := Value → Ends → L2.St → Hp → Prop
/-- the handlers take an exception that flies -/
def PH (X : Cx) (hs : List ExceptHandler) (t : TH) : Prop := ∀ (pins : List (Addr × Obj)) (s : Shared) (σ : L2.St) (H : Hp) (D : Ends) (ea : Addr) (cls a0 : Value) (B : Heap), Inv X pins σ H s → Fl X pins H B → Heap.FlyingW B X.stack ea cls a0 s.heap → t cls D σ H →
  wpAny (model X.prog X.w) X.A (handleBy (.ref ea) X.env hs) (SP X pins D) X.xe s
section
variable {X : Cx} {x n : Str} {c : Value} {np hpos : Pos} {b₀ : Stmt} {suite : List Stmt} {rest : List ExceptHandler} {ts : TS} {tr : TH}
theorem ph_nil : PH X [] fun _ _ _ _ => False := fun _ _ _ _ _ _ _ _ _ _ _ _ h => h.elim
theorem SP.ofH {pins : List (Addr × Obj)} {D : Ends} {ea : Addr} {f : Flow} {s : Shared} (h : SP (cxH X ea) pins D f s) (o : X.Ok) : SP X pins D f s := by
  cases f with
  | next => obtain ⟨σ, H, J, q⟩ := h; exact ⟨σ, H, J.ofH o, q⟩
  | brk => obtain ⟨σ, H, J, q⟩ := h; exact ⟨σ, H, J.ofH o, q⟩
  | cont => obtain ⟨σ, H, J, q⟩ := h; exact ⟨σ, H, J.ofH o, q⟩
  | ret u => obtain ⟨v, σ, H, J, q⟩ := h; exact ⟨v, σ, H, J.ofH o, q⟩
def hPlain (K : PySem.W.Frag) (c : Value) (ts : TS) (tr : TH) : TH := fun cls D σ H => ∃ b, PySem.W.exmOne K cls c = some b ∧ if b = true then ts D σ H else tr cls D σ H
/-- except C: suite -/
theorem ph_plain (hg : Gl X x) (hm : X.mg x = some c) (hS : ∀ ea, PSs (cxH X ea) (b₀ :: suite) ts) (hr : PH X rest tr) (hdb : (x == ("__debug__" : Str)) = false := by decide) :
    PH X (.ExceptHandler (some (.Name x np)) none (b₀ :: suite) hpos :: rest) (hPlain X.K c ts tr) := by
  intro pins s σ H D ea cls a0 B I F f h
  obtain ⟨b, e, h⟩ := h
  have ex := (exc_new I F f).2.2.2.2.2
  refine wpAny_handleBy_cons (codeAny_handlers_test (ld_glob (I.toH (ea := ea)) hg hm ?_ hdb)) (by intro q; cases q)
  refine (PySem.W.exm_one I.kIn ex.ty e).here ?_
  cases b with
  | false => exact hr pins s σ H D ea cls a0 B I F f h
  | true =>
    refine codeAny_handlers_suite (lands_againW f fun h' f' up => ?_)
    refine wpAny_mono (hS ea pins _ σ H D (I.flown F f.1 f'.1 up).toH h) (fun fl s' q => SP.ofH q I.ok) fun _ _ q => q.elim
/-- what is known of the exception: its class -/
def hAs (K : PySem.W.Frag) (c : Value) (i : Nat) (ts : TS) (tr : TH) : TH := fun cls D σ H => ∃ b, PySem.W.exmOne K cls c = some b ∧
  if b = true then ∀ ea, H ea = none → ts { D with nx := fun σ' H' => D.nx (σ'.set i none) H', bk := fun σ' H' => D.bk (σ'.set i none) H', ct := fun σ' H' => D.ct (σ'.set i none) H' } (σ.set i (some (.ref ea))) (upd H ea (.ext (IsEx ea cls))) else tr cls D σ H
/-- except C as n: suite -/
theorem ph_as {i : Nat} (hN : X.N.Nodup) (hi : X.N[i]? = some n) (hl : X.env.kindOf n = some .local) (hg : Gl X x) (hm : X.mg x = some c) (hS : ∀ ea, PSs (cxH X ea) (b₀ :: suite) ts) (hr : PH X rest tr) (hdb : (x == ("__debug__" : Str)) = false := by decide) :
    PH X (.ExceptHandler (some (.Name x np)) (some n) (b₀ :: suite) hpos :: rest) (hAs X.K c i ts tr) := by
  intro pins s σ H D ea cls a0 B I F f h
  obtain ⟨b, e, h⟩ := h
  have ex := (exc_new I F f).2.2.2.2.2
  refine wpAny_handleBy_cons (codeAny_handlers_test (ld_glob (I.toH (ea := ea)) hg hm ?_ hdb)) (by intro q; cases q)
  refine (PySem.W.exm_one I.kIn ex.ty e).here ?_
  cases b with
  | false => exact hr pins s σ H D ea cls a0 B I F f h
  | true =>
    refine codeAny_handlers_suite_as (lands_againW f fun h' f' up => ?_)
    have J := I.flown F f.1 f'.1 up
    obtain ⟨n0, n1, n2, n3, n4, ex'⟩ := exc_new J F f'
    have J1 : Inv X pins σ (upd H ea (.ext (IsEx ea cls))) { s with heap := h' } := J.adopt n0 n1 n2 n3 n4 ⟨ex', (let ⟨o, g, _⟩ := ex'; ⟨o, g⟩), fun h1 h2 ⟨o, g, k⟩ up => ⟨o, up o g, k⟩⟩
    refine store_ok (v := .ref ea) J1 hN hi (.inl hl) rfl (fun s2 J2 => ?_) (.inr hl)
    refine wpAny_mono (hS ea pins s2 _ _ _ J2.toH (h ea n0)) (fun fl s3 q => ?_) fun _ _ q => q.elim
    have fin : ∀ {σ' : L2.St} {H' : Hp} {Qf : Flow → Shared → Prop}, Inv (cxH X ea) pins σ' H' s3 → (∀ s4, Inv X pins (σ'.set i none) H' s4 → Qf fl s4) →
        wpAny (model X.prog X.w) X.A (do bindName X.env n .none; unbindBehindTheSuite X.env n hpos) (fun _ s4 => Qf fl s4) X.xe s3 := fun {σ' H' Qf} J3 k => nameGoes_ok (J3.ofH I.ok) hN hi hl fun s4 J4 => k s4 J4
    cases fl with
    | next => obtain ⟨σ', H', J3, q⟩ := q; exact fin J3 fun s4 J4 => ⟨_, H', J4, q⟩
    | brk => obtain ⟨σ', H', J3, q⟩ := q; exact fin J3 fun s4 J4 => ⟨_, H', J4, q⟩
    | cont => obtain ⟨σ', H', J3, q⟩ := q; exact fin J3 fun s4 J4 => ⟨_, H', J4, q⟩
    | ret u => obtain ⟨v, σ', H', J3, r, q⟩ := q; exact fin J3 fun s4 J4 => ⟨v, _, H', J4, r, q⟩
end
/-- the body's context: what is pinned around stays pinned -/
abbrev cxP (X : Cx) (pins : List (Addr × Obj)) : Cx := { X with pn := X.pn ++ pins }
section
variable {X : Cx} {pins : List (Addr × Obj)} {σ : L2.St} {H : Hp} {s : Shared}
theorem okP (o : X.Ok) : (cxP X pins).Ok := ⟨o.mod, o.kind, o.glob, o.blt, o.above, o.inj, o.has, o.cab, o.hd, o.frames, o.stk, o.exf, o.bs, o.bsz, o.noex, o.exfs, o.funs, o.frf⟩
theorem _root_.L2.Inv.toP (I : Inv X pins σ H s) : Inv (cxP X pins) [] σ H s := ⟨okP I.ok, I.os, I.bare, I.base, I.loc, I.cell, I.free, I.freeC, fun p hp => I.pin p (by simpa using hp), I.hok, I.len⟩
theorem _root_.L2.Inv.ofP (J : Inv (cxP X pins) [] σ H s) (o : X.Ok) : Inv X pins σ H s := ⟨o, J.os, J.bare, J.base, J.loc, J.cell, J.free, J.freeC, fun p hp => J.pin p (by simpa using hp), J.hok, J.len⟩
end
def tTry (tb : (Value → L2.St → Hp → Prop) → TS) (th : TH) : TS := fun D σ H => tb (fun cls σ' H' => th cls D σ' H') D σ H
theorem ps_try {X : Cx} {body : List Stmt} {h₀ : ExceptHandler} {hs : List ExceptHandler} {pos : Pos} {tb : (Value → L2.St → Hp → Prop) → TS} {th : TH} (T : Top1 X) (hex : X.ex = [])
    (hb : ∀ (pins : List (Addr × Obj)) (R : Value → L2.St → Hp → Prop), PSs ((cxP X pins).wish (XS (cxP X pins) R)) body (tb R)) (hh : PH X (h₀ :: hs) th) : PS X (.Try body (h₀ :: hs) [] [] pos) (tTry tb th) := by
  intro pins s σ H D I h
  have back : ∀ {σ' : L2.St} {H' : Hp} {s' : Shared} {E : Value → Shared → Prop}, Inv ((cxP X pins).wish E) [] σ' H' s' → Inv X pins σ' H' s' := fun J => (J.unwish).ofP I.ok
  refine wpAny_Try_except (wpAny_mono (hb pins (fun cls σ' H' => th cls D σ' H') [] s σ H D ((I.toP).wish _) h) (fun f s1 q => ?_) fun e s1 q => ?_)
  · cases f with
    | next =>
      obtain ⟨σ', H', J, q⟩ := q
      exact wpAny_execs_nil ⟨σ', H', back J, q⟩
    | brk => obtain ⟨σ', H', J, q⟩ := q; exact ⟨σ', H', back J, q⟩
    | cont => obtain ⟨σ', H', J, q⟩ := q; exact ⟨σ', H', back J, q⟩
    | ret u => obtain ⟨v, σ', H', J, r, q⟩ := q; exact ⟨v, σ', H', back J, r, q⟩
  · refine XS.note (X := cxP X pins) ⟨T.stk, T.frm⟩ q fun g ea cls a0 σ' H' B e1 J F hh' r => ?_
    subst e1
    refine wpAny_landsW hh' fun g2 f up => ?_
    have F' : Fl X pins H' B := ⟨F.hok, F.lnk, fun p hp => F.pin p (by simpa using hp)⟩
    have J' : Inv X pins σ' H' { s1 with heap := g2 } := (J.flown F hh'.1 f.1 up).ofP I.ok
    exact hh pins _ σ' H' D ea cls a0 B J' F' f r
/-! ### isinstance(e, C) -/
def clsV : V → Option Value
  | .ty T => some (.type T)
  | .ref C => some (.ref C)
  | _ => none
theorem call_isinstX {X : Cx} {K : PySem.W.Frag} (hK : X.K = K) : CallR X (.builtin "isinstance") (fun xs H Q => ∃ ea C cv c b, xs = [.ref ea, cv] ∧ H ea = some (.ext (IsEx ea (.ref C))) ∧ clsV cv = some c ∧ ExK K C ∧ PySem.W.kitOne K (.ref C) c = some b ∧ Q (.bl b) H) := by
  subst hK
  intro pins s σ H xs us Q I r h
  obtain ⟨ea, C, cv, c, b, rfl, he, hc, k, e, q⟩ := h
  obtain ⟨u, v, rfl, rx, rc⟩ := vals2 r
  cases (show u = Value.ref ea from rx)
  have ex : IsEx ea (.ref C) s.heap := (show ObjOk X.prog X.w H s.heap ea (.ext _) from I.hok ea _ he).1
  have ev : v = c := by
    cases cv <;> first | cases hc | skip
    all_goals exact rc
  subst ev
  exact PySem.W.kia_one (kitx_ex k) I.kIn ex e (fun z => nomatch z) fun tk => ⟨.bl b, H, I.tok tk, rfl, q⟩
/-- the name of an own class -/
theorem pe_cls {X : Cx} {x : Str} {C : Addr} {p : Pos} (hg : Gl X x) (hm : X.mg x = some (.ref C)) (hdb : (x == ("__debug__" : Str)) = false := by decide) : PE X (.Name x p) (tC (.ref C)) := pe_glob (v := .ref C) hg hm rfl hdb
end Sh

end
section
set_option Elab.async false
set_option linter.all false
set_option maxRecDepth 100000
set_option maxHeartbeats 4000000
namespace Sh
open PySem PySem.Spec PyProof.Rows L2
/-! ### the program's own error classes -/
abbrev veMro : List Value := [.type "ValueError", .type "Exception", .type "BaseException", .type "object"]
structure ECls (K : PySem.W.Frag) (mg : Str → Option Value) (base : Heap) (x : Str) (C : Addr) : Prop where
  own : OwnCls x C veMro "ValueError.__new__" mg base
  exk : ExK K C
theorem ECls.exc {K : PySem.W.Frag} {mg : Str → Option Value} {base : Heap} {x : Str} {C : Addr} (E : ECls K mg base x C) : Exc K mg base x C := ⟨E.own⟩
theorem ECls.bound {K : PySem.W.Frag} {mg : Str → Option Value} {base : Heap} {x : Str} {C : Addr} (E : ECls K mg base x C) : mg x = some (.ref C) := E.own.bound
/-- a class that the written part K tells, over any heap that has K -/
theorem own_in {K : PySem.W.Frag} {mg : Str → Option Value} {h : Heap} {x : Str} {C : Addr} {bm : List Value} {id : String} (X : K.In h) (b : mg x = some (.ref C)) (q : PySem.W.excIn K C bm id = true) : OwnCls x C bm id mg h := by
  constructor
  · exact b
  · revert q
    unfold PySem.W.excIn
    cases lk : K.lookup C with
    | none => intro q; cases q
    | some o =>
      rcases o with ⟨cl, dd, da, sl⟩
      intro q
      split at q
      · rename_i heq
        cases heq
        rename_i cd
        rcases cd with ⟨nm, bs, mro, ns, qn, hd, sn, sub, ab, col, del⟩
        split at q
        · rename_i m1 m2
          simp only [Bool.and_eq_true, beq_iff_eq, Bool.not_eq_true'] at q
          rcases q with ⟨⟨⟨⟨⟨c1, c2⟩, c3⟩, c4⟩, c5⟩, c6⟩
          subst c1; subst c2
          have e1 : mro = _ := m1
          have e3 : del = false := c3
          subst e1; subst e3
          have e2 := congrArg List.toArray m2
          rw [Array.toArray_toList] at e2
          subst e2
          exact ⟨_, _, _, _, _, _, _, _, _, _, _, _, _, _, _, _, _, X _ _ lk, .of_isNs (PySem.W.isNs_of_in X c5), PySem.W.nsMap_none_of_in X c5 c6, PySem.W.tail_of_in X c4⟩
        · cases q
      · cases q
theorem ecls_mk {K : PySem.W.Frag} {mg : Str → Option Value} {base : Heap} {x : Str} {C : Addr} (X : K.In base) (b : mg x = some (.ref C)) (q : PySem.W.excIn K C veMro "ValueError.__new__" = true)
    (ga : PySem.W.findIn K (.ref C) "__getattribute__" = some (some (.builtin "BaseException.__getattribute__"))) (gn : PySem.W.findIn K (.ref C) "__getattr__" = some none) (ca : PySem.W.findIn K (.ref C) "__class__" = some (some (.builtin "object.__class__")))
    (ob : PySem.W.mroIn K C (.type "object") = some true) (be : PySem.W.mroIn K C (.type "BaseException") = some true) : ECls K mg base x C := by
  refine ⟨own_in X b q, ⟨ga, gn, ca, ob, be, ?_⟩⟩
  unfold PySem.W.mroIn at ob
  cases e : PySem.W.clsIn K C with
  | none => rw [e] at ob; cases ob
  | some cd => rfl
theorem boot_ValueError : bootBuiltins "ValueError" = some (.type "ValueError") := by decide +kernel
theorem pe_ty_ValueError {X : Cx} {p : Pos} (h : X.mg "ValueError" = none) (hg : Gl X "ValueError") : PE X (.Name "ValueError" p) (tC (.ty "ValueError")) := pe_bltn hg h boot_ValueError rfl
/-! ### words that come back -/
mutual
theorem chg_chg {g g' : Int → Int → Wd} {f : Int → Int → Int} (hf : ∀ n d, g n d = .var (f n d)) : ∀ (w : Wd) (d : Int), chg g' (chg g w d) d = chg (fun n d => g' (f n d) d) w d
  | .var n, d => by rw [chg, hf, chg, chg]
  | .node t nm ps, d => by rw [chg, chg, chg, chgL_chg hf ps _]
theorem chgL_chg {g g' : Int → Int → Wd} {f : Int → Int → Int} (hf : ∀ n d, g n d = .var (f n d)) : ∀ (ws : List Wd) (d : Int), chgL g' (chgL g ws d) d = chgL (fun n d => g' (f n d) d) ws d
  | [], d => by rw [chgL, chgL, chgL]
  | w :: ws, d => by rw [chgL, chgL, chgL, chg_chg hf w d, chgL_chg hf ws d]
end
mutual
theorem lift_low : ∀ (w : Wd) (d : Int), (0 : Int) ∉ frees w d → chg (fun n d => .var (mvd 1 n d)) (chg (fun n d => .var (mvd (-1) n d)) w d) d = w
  | .var n, d, h => by
    rw [frees] at h
    rw [chg, chg]
    by_cases l : d ≤ n
    · rw [if_pos l] at h
      have hne : n - d ≠ 0 := fun e => h (by rw [e]; exact List.mem_cons_self ..)
      unfold mvd
      rw [if_pos l, if_pos (by omega)]
      congr 1; omega
    · unfold mvd
      rw [if_neg l, if_neg l]
  | .node t nm ps, d, h => by
    rw [frees] at h
    rw [chg, chg, liftL_low ps _ h]
theorem liftL_low : ∀ (ws : List Wd) (d : Int), (0 : Int) ∉ freesL ws d → chgL (fun n d => .var (mvd 1 n d)) (chgL (fun n d => .var (mvd (-1) n d)) ws d) d = ws
  | [], d, h => by rw [chgL, chgL]
  | w :: ws, d, h => by
    rw [freesL, List.mem_append] at h
    rw [chgL, chgL, lift_low w d (fun z => h (.inl z)), liftL_low ws d fun z => h (.inr z)]
end
mutual
theorem lift_frees : ∀ (w : Wd) (d : Int), (0 : Int) ∉ frees (chg (fun n d => .var (mvd 1 n d)) w d) d
  | .var n, d => by
    rw [chg, frees, mvd]
    split
    · split
      · intro h
        rcases List.mem_cons.mp h with h | h
        · omega
        · cases h
      · intro h; cases h
    · intro h; cases h
  | .node t nm ps, d => by rw [chg, frees]; exact liftL_frees ps _
theorem liftL_frees : ∀ (ws : List Wd) (d : Int), (0 : Int) ∉ freesL (chgL (fun n d => .var (mvd 1 n d)) ws d) d
  | [], d => by rw [chgL, freesL]; intro h; cases h
  | w :: ws, d => by
    rw [chgL, freesL, List.mem_append]
    rintro (h | h)
    · exact lift_frees w d h
    · exact liftL_frees ws d h
end
mutual
theorem her_chg {f : Int → Int → Int} : ∀ (w : Wd) (d : Int), Her noOk w → Her noOk (chg (fun n d => .var (f n d)) w d)
  | .var n, d, h => by rw [chg]; exact fun nm ps e => by cases e
  | .node t nm ps, d, h => by
    rw [chg]
    refine ⟨fun nm' ps' e => ?_, herL_chg ps _ h.2⟩
    cases e
    have := h.1 nm ps rfl
    rw [this, chgL]
theorem herL_chg {f : Int → Int → Int} : ∀ (ws : List Wd) (d : Int), HerL noOk ws → HerL noOk (chgL (fun n d => .var (f n d)) ws d)
  | [], d, h => by rw [chgL]; exact True.intro
  | w :: ws, d, h => by rw [chgL]; exact ⟨her_chg w d h.1, herL_chg ws d h.2⟩
end
mutual
theorem knots_chg {f : Int → Int → Int} : ∀ (w : Wd) (d : Int), knots (chg (fun n d => .var (f n d)) w d) = knots w
  | .var n, d => by rw [chg, knots, knots]
  | .node t nm ps, d => by rw [chg, knots, knots, knotsL_chg ps _]
theorem knotsL_chg {f : Int → Int → Int} : ∀ (ws : List Wd) (d : Int), knotsL (chgL (fun n d => .var (f n d)) ws d) = knotsL ws
  | [], d => by rw [chgL]
  | w :: ws, d => by rw [chgL, knotsL, knotsL, knots_chg w d, knotsL_chg ws d]
end
end Sh

end
section
set_option Elab.async false
set_option linter.all false
set_option maxRecDepth 100000
set_option maxHeartbeats 4000000
namespace Sh
open PySem PySem.Spec PyProof.Rows L2
/-! ### methods that may raise, called within X.wish (XS X R) -/
section
variable {X : Cx} {R : Value → L2.St → Hp → Prop} {pins : List (Addr × Obj)} {σ : L2.St} {H : Hp} {s : Shared} {k : Nat} {f C : Addr} {fd : FuncData} {ps : List Str} {sp : Sp} {ds : List Value} {dvs : List V} {m : Str} {pos apos : Pos} {e o : Expr} {es : List Expr} {ta : TE} {t : TA}
/-- the callee runs; what it raises reaches X -/
theorem run_fnX {Q : VK} {us : List Value} {vs : List V} (F : FnOk X.prog X.w X.K X.mg X.base (CX1 X.prog X.w) k f fd ps sp) (hex : X.ex = []) (hr : Room k X.A) (hb : Binds X.K fd ps ds) (hd : Vals dvs ds) (I : Inv (X.wish (XS X R)) pins σ H s) (r : Vals vs us)
    (h : sp (vs ++ dvs) H Q fun cls _ H' => R cls σ H') : wpAny (model X.prog X.w) X.A (call (.ref f) us) (EP (X.wish (XS X R)) pins σ Q) (XS X R) s := by
  have r2 : Vals (vs ++ dvs) (us ++ ds) := r.append hd
  have hl : (us ++ ds).length = ps.length := by
    rw [← r2.length]
    exact F.len _ _ _ _ h
  refine wpAny_call (codeAny_mono (F.run X.A X.stack s H ⟨us, []⟩ (us ++ ds) (vs ++ dvs) Q _ hr I.unwish.env0 (hb s us I.kIn hl) r2 h) fun rs s' z => ?_)
  cases rs with
  | error x => exact XS.of_call I.unwish hex z
  | ok fl =>
    cases fl with
    | ret u =>
      obtain ⟨v, H2, J, rv, q⟩ := I.unwish.after z
      exact ⟨v, H2, J.wish _, rv, q⟩
    | next => exact z.elim
    | brk => exact z.elim
    | cont => exact z.elim
def tMethX (C : Addr) (m : Str) (sp : Sp) (dvs : List V) (R : Value → L2.St → Hp → Prop) (ta : TE) (t : TA) : TE := fun σ H Q => ta σ H fun x H1 => ∃ a dx fs, x = .ref a ∧ H1 a = some (.ins C dx fs) ∧ fs.lookup m = none ∧
  t σ H1 fun vs H2 => sp (x :: (vs ++ dvs)) H2 Q fun cls _ H' => R cls σ H'
theorem pe_methX {pl : Sem Bool} (he : PE (X.wish (XS X R)) o ta) (c : Cls X.K C) (hm : Meth X.K C m f) (F : FnOk X.prog X.w X.K X.mg X.base (CX1 X.prog X.w) k f fd ps sp) (hex : X.ex = []) (hr : Room k X.A) (hb : Binds X.K fd ps ds) (hd : Vals dvs ds) (ha : PA (X.wish (XS X R)) (e :: es) t)
    (hst : starEach (e :: es) X.env = (false, eval e X.env) :: starEach es X.env := by rfl) (hpl : (backTo pos (starEach es X.env)).any (·.1) = false := by rfl)
    (ht : eval (.Call (.Attribute o m apos) (e :: es) [] pos) X.env = (do
      let ov ← eval o X.env
      standAt apos.atName
      let (f, first) ← holding [ov] (getMethod ov m pl)
      callWith pos f first (backTo pos (starEach (e :: es) X.env)) (backToKw pos (keywordEach [] X.env))) := by rfl) :
    PE (X.wish (XS X R)) (.Call (.Attribute o m apos) (e :: es) [] pos) (tMethX C m sp dvs R ta t) := by
  intro pins s σ H Q I h
  refine PySem.W.methodCall_KW (pl := pl) (thn (he pins s σ H _ I h) fun u s1 ⟨x, H1, I1, rx, a, dx, fs, ex, ea, l, q⟩ => ?_) ht
  subst ex
  obtain rfl : u = Value.ref a := rx
  refine getmeth_ok I1 ea c hm l ?_
  refine PySem.W.callWith_K (first := [.ref a]) (h₀ := X.base) I.ok.mod.kin hm.kp (thn (ha pos pins s1 σ H1 _ I1 q) fun us s2 ⟨vs, H2, I2, r, q2⟩ => ⟨I2.kIn, ?_⟩) hst hpl
  exact run_fnX (us := .ref a :: us) (vs := .ref a :: vs) F hex hr hb hd I2 (.cons rfl r) q2
end
end Sh

end
section
set_option Elab.async false
set_option linter.all false
set_option maxRecDepth 100000
set_option maxHeartbeats 4000000
namespace Sh
open PySem PySem.Spec PyProof.Rows L2
/-! ### data that are equal: ints, texts, tuples within tuples -/
mutual
def deq : Dt → Dt → Bool
  | .int a, .int b => a == b
  | .str a, .str b => a == b
  | .tup xs, .tup ys => deqL xs ys
  | _, _ => false
def deqL : List Dt → List Dt → Bool
  | [], [] => true
  | x :: xs, y :: ys => deq x y && deqL xs ys
  | _, _ => false
end
mutual
theorem deq_iff : ∀ a b : Dt, deq a b = true ↔ a = b
  | .int a, .int b => by rw [deq, beq_iff_eq]; exact ⟨fun e => by rw [e], fun e => by injection e⟩
  | .str a, .str b => by rw [deq, beq_iff_eq]; exact ⟨fun e => by rw [e], fun e => by injection e⟩
  | .tup xs, .tup ys => by rw [deq, deqL_iff xs ys]; exact ⟨fun e => by rw [e], fun e => by injection e⟩
  | .int a, .str b => by simp [deq]
  | .int a, .tup b => by simp [deq]
  | .str a, .int b => by simp [deq]
  | .str a, .tup b => by simp [deq]
  | .tup a, .int b => by simp [deq]
  | .tup a, .str b => by simp [deq]
theorem deqL_iff : ∀ a b : List Dt, deqL a b = true ↔ a = b
  | [], [] => by rw [deqL]; exact ⟨fun _ => rfl, fun _ => rfl⟩
  | x :: xs, y :: ys => by
    rw [deqL, Bool.and_eq_true, deq_iff x y, deqL_iff xs ys]
    exact ⟨fun ⟨e1, e2⟩ => by rw [e1, e2], fun e => by injection e with e1 e2; exact ⟨e1, e2⟩⟩
  | [], y :: ys => by simp [deqL]
  | x :: xs, [] => by simp [deqL]
end
/-- the value tells its data -/
theorem Rd.inj {H : Hp} {d d' : Dt} {v : V} (h : Rd H d v) (h' : Rd H d' v) : d = d' := by
  have both : (∀ (d : Dt) (d' : Dt) (v : V), Rd H d v → Rd H d' v → d = d') ∧ (∀ (ds ds' : List Dt) (vs : List V), Rds H ds vs → Rds H ds' vs → ds = ds') := by
    have key : ∀ n : Nat, (∀ (d d' : Dt) (v : V), ddep d ≤ n → Rd H d v → Rd H d' v → d = d') := by
      intro n
      induction n with
      | zero => intro d d' v hd; have := ddep_pos d; omega
      | succ n ih =>
        have lists : ∀ (ds ds' : List Dt) (vs : List V), ddepL ds ≤ n → Rds H ds vs → Rds H ds' vs → ds = ds' := by
          intro ds
          induction ds with
          | nil =>
            intro ds' vs _ h h'
            rw [Rds] at h
            subst h
            cases ds' with
            | nil => rfl
            | cons d r => rw [Rds] at h'; obtain ⟨_, _, e, _⟩ := h'; cases e
          | cons d r ihr =>
            intro ds' vs hd h h'
            rw [Rds] at h
            obtain ⟨v, us, rfl, h1, h2⟩ := h
            cases ds' with
            | nil => rw [Rds] at h'; cases h'
            | cons d' r' =>
              rw [Rds] at h'
              obtain ⟨v', us', e, h1', h2'⟩ := h'
              cases e
              rw [ddepL] at hd
              rw [ih d d' v (by omega) h1 h1', ihr r' us (by omega) h2 h2']
        intro d d' v hd h h'
        cases d with
        | int i =>
          rw [Rd] at h; subst h
          cases d' with
          | int j => rw [Rd] at h'; cases h'; rfl
          | str y => rw [Rd] at h'; cases h'
          | tup ds => rw [Rd] at h'; obtain ⟨_, _, e, _⟩ := h'; cases e
        | str x =>
          rw [Rd] at h; subst h
          cases d' with
          | int j => rw [Rd] at h'; cases h'
          | str y => rw [Rd] at h'; cases h'; rfl
          | tup ds => rw [Rd] at h'; obtain ⟨_, _, e, _⟩ := h'; cases e
        | tup ds =>
          rw [Rd] at h
          obtain ⟨a, vs, rfl, ha, hr⟩ := h
          cases d' with
          | int j => rw [Rd] at h'; cases h'
          | str y => rw [Rd] at h'; cases h'
          | tup ds' =>
            rw [Rd] at h'
            obtain ⟨a', vs', e, ha', hr'⟩ := h'
            cases e
            rw [ha] at ha'; cases ha'
            rw [ddep] at hd
            rw [lists ds ds' vs (by omega) hr hr']
    refine ⟨fun d d' v h h' => key (ddep d) d d' v (Nat.le_refl _) h h', fun ds ds' vs h h' => ?_⟩
    have l1 := h.length
    have l2 := h'.length
    refine List.ext_getElem? fun i => ?_
    cases q : vs[i]? with
    | none =>
      have : vs.length ≤ i := by rw [List.getElem?_eq_none_iff] at q; exact q
      rw [List.getElem?_eq_none (by omega), List.getElem?_eq_none (by omega)]
    | some v =>
      obtain ⟨d, e1, r1⟩ := h.get q
      obtain ⟨d', e2, r2⟩ := h'.get q
      rw [e1, e2, key (ddep d) d d' v (Nat.le_refl _) r1 r2]
  exact both.1 d d' v h h'
end Sh
namespace Sh
open PySem PySem.Spec PyProof.Rows L2
def eqJ (a b : List Dt) (j : Nat) : Bool := match a[j]?, b[j]? with
  | some x, some y => deq x y
  | _, _ => false
theorem all_eqJ (a b : List Dt) : ((List.range (min a.length b.length)).all (eqJ a b) && a.length == b.length) = deqL a b := by
  rw [Bool.eq_iff_iff, deqL_iff, Bool.and_eq_true, List.all_eq_true, beq_iff_eq]
  constructor
  · rintro ⟨h, hl⟩
    refine List.ext_getElem hl fun i h1 h2 => ?_
    have q := h i (List.mem_range.mpr (by omega))
    unfold eqJ at q
    rw [List.getElem?_eq_getElem h1, List.getElem?_eq_getElem h2] at q
    exact (deq_iff _ _).mp q
  · rintro rfl
    refine ⟨fun i hi => ?_, rfl⟩
    have h1 : i < a.length := by have := List.mem_range.mp hi; omega
    unfold eqJ
    rw [List.getElem?_eq_getElem h1]
    exact (deq_iff _ _).mpr rfl
section
variable {X : Cx} {pins : List (Addr × Obj)} {σ : L2.St} {H : Hp} {s : Shared}
theorem tupAt (I : Inv X pins σ H s) {a : Addr} {xs : List V} (h : H a = some (.tup xs)) : ∃ its : List Value, Vals xs its ∧ s.heap.IsTuple a its.toArray := by
  obtain ⟨its, r, p, _⟩ := I.tup1 h
  exact ⟨its, r, p⟩
/-- == of data, item by item -/
theorem eqAt_D (I : Inv X pins σ H s) : ∀ (n : Nat) (A : Around) (d e : Dt) (x y : V) (u v : Value), ddep d ≤ n → A.units + n < cLine → Rd H d x → Rd H e y → RelV x u → RelV y v → SeqAt.EqAt A s u v (deq d e) := by
  intro n
  induction n with
  | zero => intro A d e x y u v hd; have := ddep_pos d; omega
  | succ n ih =>
    intro A d e x y u v hd hu h h' r r'
    have hu' : A.units < cLine := by omega
    cases d with
    | int i =>
      rw [Rd] at h; subst h; obtain ⟨t, rfl⟩ := r
      cases e with
      | int j => rw [Rd] at h'; subst h'; obtain ⟨t', rfl⟩ := r'; rw [deq]; exact SeqAt.EqAt.int_int i t j t'
      | str j => rw [Rd] at h'; subst h'; obtain ⟨t', rfl⟩ := r'; rw [show deq (.int i) (.str j) = false by simp [deq]]; exact SeqAt.EqAt.int_str i t j t'
      | tup ds =>
        rw [Rd] at h'; obtain ⟨b, ys, rfl, hb, _⟩ := h'; cases r'
        obtain ⟨its, _, p⟩ := tupAt I hb
        rw [show deq (.int i) (.tup ds) = false by simp [deq]]; exact SeqAt.EqAt.int_tuple i t p hu'
    | str i =>
      rw [Rd] at h; subst h; obtain ⟨t, rfl⟩ := r
      cases e with
      | int j => rw [Rd] at h'; subst h'; obtain ⟨t', rfl⟩ := r'; rw [show deq (.str i) (.int j) = false by simp [deq]]; exact SeqAt.EqAt.str_int i t j t'
      | str j => rw [Rd] at h'; subst h'; obtain ⟨t', rfl⟩ := r'; rw [deq]; exact SeqAt.EqAt.str_str i t j t'
      | tup ds =>
        rw [Rd] at h'; obtain ⟨b, ys, rfl, hb, _⟩ := h'; cases r'
        obtain ⟨its, _, p⟩ := tupAt I hb
        rw [show deq (.str i) (.tup ds) = false by simp [deq]]; exact SeqAt.EqAt.str_tuple i t p hu'
    | tup ds =>
      have h0 := h
      rw [Rd] at h; obtain ⟨a, xs, rfl, ha, hx⟩ := h; cases r
      obtain ⟨its, ri, p⟩ := tupAt I ha
      cases e with
      | int j => rw [Rd] at h'; subst h'; obtain ⟨t', rfl⟩ := r'; rw [show deq (.tup ds) (.int j) = false by simp [deq]]; exact SeqAt.EqAt.tuple_int j t' p hu'
      | str j => rw [Rd] at h'; subst h'; obtain ⟨t', rfl⟩ := r'; rw [show deq (.tup ds) (.str j) = false by simp [deq]]; exact SeqAt.EqAt.tuple_str j t' p hu'
      | tup es =>
        have h0' := h'
        rw [Rd] at h'; obtain ⟨b, ys, rfl, hb, hy⟩ := h'; cases r'
        obtain ⟨its', ri', p'⟩ := tupAt I hb
        by_cases hab : a = b
        · subst hab
          rw [(deq_iff _ _).mpr (Rd.inj h0 h0')]
          exact SeqAt.EqAt.same _
        · have l1 := hx.length
          have l2 := hy.length
          have l3 := ri.length
          have l4 := ri'.length
          rw [deq, ← all_eqJ, ← l1, ← l2, l3, l4]
          refine SeqAt.EqAt.of_refs hab ?_
          have z := SeqAt.RcAt.tuples (A := A) (e := eqJ ds es) p p' hu' fun j h1 h2 => ?_
          · simpa using z
          · have j1 : j < xs.length := by rw [l3]; simpa using h1
            have j2 : j < ys.length := by rw [l4]; simpa using h2
            obtain ⟨d1, e1, r1⟩ := hx.get (List.getElem?_eq_getElem j1)
            obtain ⟨d2, e2, r2⟩ := hy.get (List.getElem?_eq_getElem j2)
            obtain ⟨u1, f1, q1⟩ := ri.get (List.getElem?_eq_getElem j1)
            obtain ⟨u2, f2, q2⟩ := ri'.get (List.getElem?_eq_getElem j2)
            have g1 : its.toArray[j] = u1 := by
              have := List.getElem?_eq_some_iff.mp f1
              simpa using this.2
            have g2 : its'.toArray[j] = u2 := by
              have := List.getElem?_eq_some_iff.mp f2
              simpa using this.2
            have ej : eqJ ds es j = deq d1 d2 := by unfold eqJ; rw [e1, e2]
            rw [g1, g2, ej]
            have dm := ddepL_mem (List.mem_of_getElem? e1)
            rw [ddep] at hd
            exact ih A.in1 d1 d2 _ _ u1 u2 (by omega) (by show A.units + 1 + n < cLine; omega) r1 r2 q1 q2
end
/-- x == y of two tuples -/
def rEqD (n : Nat) : R2 := fun x y H Q => ∃ ds es, Rd H (.tup ds) x ∧ Rd H (.tup es) y ∧ ddep (.tup ds) ≤ n ∧ Q (.bl (deq (.tup ds) (.tup es))) H
end Sh
namespace Sh
open PySem PySem.Spec PyProof.Rows L2
/-! ### x in a list or a tuple of data -/
noncomputable def hasD (H : Hp) (d : Dt) (u : Value) : Bool := @decide (∃ v, RelV v u ∧ Rd H d v) (Classical.propDecidable _)
def rInD (K : PySem.W.Frag) (n : Nat) (neg : Bool) : R2 := fun x y H Q => ∃ p xs d ds, y = .ref p ∧ (SqL K H p xs ∨ SqT K H p xs) ∧ Rds H ds xs ∧ Rd H d x ∧ ddepL ds ≤ n ∧ Q (.bl (if neg then !(ds.any fun e => deq e d) else ds.any fun e => deq e d)) H
section
variable {X : Cx} {n : Nat}
end
end Sh

end
section
set_option Elab.async false
set_option linter.all false
set_option maxRecDepth 100000
set_option maxHeartbeats 4000000
namespace Sh
open PySem PySem.Spec PyProof.Rows L2
/-! ### dicts whose keys are data: tuples within tuples -/
instance decDt : DecidableEq Dt := fun a b => decidable_of_iff (deq a b = true) (deq_iff a b)
theorem decide_Dt (a b : Dt) : decide (a = b) = deq a b := by
  rw [Bool.eq_iff_iff, decide_eq_true_iff, deq_iff]
/-! data as the heap has them -/
mutual
def DtAt (h : Heap) : Dt → Value → Prop
  | .int i, u => ∃ t, u = .int i t
  | .str x, u => ∃ t, u = .str x t
  | .tup ds, u => ∃ a its, u = .ref a ∧ h.IsTuple a its ∧ DtsAt h ds its.toList
def DtsAt (h : Heap) : List Dt → List Value → Prop
  | [], us => us = []
  | d :: ds, us => ∃ u vs, us = u :: vs ∧ DtAt h d u ∧ DtsAt h ds vs
end
theorem tuple_one {h : Heap} {a : Addr} {x y : Array Value} (p : h.IsTuple a x) (q : h.IsTuple a y) : x = y := by
  obtain ⟨o, e1, _, n, e2⟩ := p
  obtain ⟨o', f1, _, m, f2⟩ := q
  cases e1.symm.trans f1
  rw [e2] at f2
  injection f2
mutual
theorem DtAt.inj {h : Heap} : ∀ (d e : Dt) (u : Value), DtAt h d u → DtAt h e u → d = e
  | .int i, e, u, x, y => by
    rw [DtAt] at x; obtain ⟨t, rfl⟩ := x
    cases e with
    | int j => rw [DtAt] at y; obtain ⟨_, y⟩ := y; cases y; rfl
    | str j => rw [DtAt] at y; obtain ⟨_, y⟩ := y; cases y
    | tup j => rw [DtAt] at y; obtain ⟨_, _, y, _⟩ := y; cases y
  | .str i, e, u, x, y => by
    rw [DtAt] at x; obtain ⟨t, rfl⟩ := x
    cases e with
    | int j => rw [DtAt] at y; obtain ⟨_, y⟩ := y; cases y
    | str j => rw [DtAt] at y; obtain ⟨_, y⟩ := y; cases y; rfl
    | tup j => rw [DtAt] at y; obtain ⟨_, _, y, _⟩ := y; cases y
  | .tup ds, e, u, x, y => by
    rw [DtAt] at x; obtain ⟨a, its, rfl, p, x⟩ := x
    cases e with
    | int j => rw [DtAt] at y; obtain ⟨_, y⟩ := y; cases y
    | str j => rw [DtAt] at y; obtain ⟨_, y⟩ := y; cases y
    | tup es =>
      rw [DtAt] at y; obtain ⟨b, its', e, q, y⟩ := y
      cases e
      rw [tuple_one q p] at y
      rw [DtsAt.inj ds es _ x y]
theorem DtsAt.inj {h : Heap} : ∀ (ds es : List Dt) (us : List Value), DtsAt h ds us → DtsAt h es us → ds = es
  | [], es, us, x, y => by
    rw [DtsAt] at x; subst x
    cases es with
    | nil => rfl
    | cons e es => rw [DtsAt] at y; obtain ⟨_, _, y, _⟩ := y; cases y
  | d :: ds, es, us, x, y => by
    rw [DtsAt] at x; obtain ⟨u, vs, rfl, x1, x2⟩ := x
    cases es with
    | nil => rw [DtsAt] at y; cases y
    | cons e es =>
      rw [DtsAt] at y; obtain ⟨u', vs', q, y1, y2⟩ := y
      cases q
      rw [DtAt.inj d e u x1 y1, DtsAt.inj ds es vs x2 y2]
end
theorem DtsAt.length {h : Heap} : ∀ {ds : List Dt} {us : List Value}, DtsAt h ds us → us.length = ds.length
  | [], us, x => by rw [DtsAt] at x; subst x; rfl
  | d :: ds, us, x => by rw [DtsAt] at x; obtain ⟨u, vs, rfl, _, x⟩ := x; rw [List.length_cons, List.length_cons, x.length]
theorem DtsAt.get {h : Heap} : ∀ {ds : List Dt} {us : List Value} {i : Nat} {u : Value}, DtsAt h ds us → us[i]? = some u → ∃ d, ds[i]? = some d ∧ DtAt h d u
  | [], us, i, u, x, e => by rw [DtsAt] at x; subst x; simp at e
  | d :: ds, us, i, u, x, e => by
    rw [DtsAt] at x; obtain ⟨v, vs, rfl, x1, x2⟩ := x
    cases i with
    | zero => simp at e; subst e; exact ⟨d, by simp, x1⟩
    | succ i => obtain ⟨d', e1, r⟩ := x2.get (i := i) (by simpa using e); exact ⟨d', by simpa using e1, r⟩
mutual
theorem DtAt.stay {h h' : Heap} (k : ∀ a its, h.IsTuple a its → h'.IsTuple a its) : ∀ (d : Dt) (u : Value), DtAt h d u → DtAt h' d u
  | .int i, u, x => by rw [DtAt] at x ⊢; exact x
  | .str i, u, x => by rw [DtAt] at x ⊢; exact x
  | .tup ds, u, x => by
    rw [DtAt] at x ⊢
    obtain ⟨a, its, e, p, x⟩ := x
    exact ⟨a, its, e, k a its p, DtsAt.stay k ds _ x⟩
theorem DtsAt.stay {h h' : Heap} (k : ∀ a its, h.IsTuple a its → h'.IsTuple a its) : ∀ (ds : List Dt) (us : List Value), DtsAt h ds us → DtsAt h' ds us
  | [], us, x => by rw [DtsAt] at x ⊢; exact x
  | d :: ds, us, x => by
    rw [DtsAt] at x ⊢
    obtain ⟨u, vs, e, x1, x2⟩ := x
    exact ⟨u, vs, e, DtAt.stay k d u x1, DtsAt.stay k ds vs x2⟩
end
/-! the hash -/
mutual
def dHash (w : World) : Dt → Int
  | .int i => hashInt i
  | .str x => hashStr w x
  | .tup ds => reduceHash (Builtin.Tuple.tupleHashOf (dHashes w ds))
def dHashes (w : World) : List Dt → List Int
  | [] => []
  | d :: ds => dHash w d :: dHashes w ds
end
mutual
def dDraw : Dt → Nat
  | .int _ => 1
  | .str _ => 1
  | .tup ds => dDraws ds + 1
def dDraws : List Dt → Nat
  | [] => 0
  | d :: ds => dDraw d + dDraws ds
end
section
variable {prog : Program} {w : World} {E : Value → Shared → Prop}
mutual
theorem hash_D : ∀ (d : Dt) (u : Value) (A : Around) (s : Shared) (Q : Int → Shared → Prop), DtAt s.heap d u → A.units + ddep d < cLine → Q (dHash w d) { s with toks := s.toks + dDraw d } → wpAny (model prog w) A (pyHash u) Q E s
  | .int i, u, A, s, Q, x, hu, q => by
    rw [DtAt] at x; obtain ⟨t, rfl⟩ := x
    rw [dHash, dDraw] at q
    exact wpAny_pyHash_int q
  | .str i, u, A, s, Q, x, hu, q => by
    rw [DtAt] at x; obtain ⟨t, rfl⟩ := x
    rw [dHash, dDraw] at q
    exact wpAny_pyHash_str q
  | .tup ds, u, A, s, Q, x, hu, q => by
    rw [DtAt] at x; obtain ⟨a, its, rfl, ⟨o, ho, hc, n, hd⟩, x⟩ := x
    rw [ddep] at hu
    rw [dHash, dDraw] at q
    refine PySem.W.pyHash_slot (T := "tuple") ⟨o, ho, hc⟩ PySem.F.slot_tuple_hash PySem.F.entry_tuple_hash (PySem.F.args_tuple_hash_1 _) (beq_builtin_none _) (.inr (by omega)) ?_
    change wpAny _ _ (Builtin.Tuple.tupleItemsOf (.ref a) >>= _) _ _ s
    refine wpAny_bind (wpAny_tupleItemsOf ho hd (wpAny_bind ?_))
    rw [← Array.forIn_toList]
    exact hash_Ds ds its.toList A.in1 s #[] _ x (by show A.units + 1 + ddepL ds < cLine; omega) fun b hb => by
      change wpAny _ _ (retInt (Builtin.Tuple.tupleHashOf b.toList)) _ _ _
      rw [show b.toList = dHashes w ds by simpa using hb]
      exact wpAny_bind (wpAny_mkInt (wpAny_pure ⟨_, _, rfl, q⟩))
theorem hash_Ds : ∀ (ds : List Dt) (us : List Value) (A : Around) (s : Shared) (b : Array Int) (Q : Array Int → Shared → Prop), DtsAt s.heap ds us → A.units + ddepL ds < cLine →
    (∀ c : Array Int, c.toList = b.toList ++ dHashes w ds → Q c { s with toks := s.toks + dDraws ds }) →
    wpAny (model prog w) A (forIn us b fun x r => do let h ← pyHash x; pure PUnit.unit; pure (ForInStep.yield (r.push h))) Q E s
  | [], us, A, s, b, Q, x, hu, q => by
    rw [DtsAt] at x; subst x
    exact wpAny_pure (q b (by simp [dHashes]))
  | d :: ds, us, A, s, b, Q, x, hu, q => by
    rw [DtsAt] at x; obtain ⟨u, vs, rfl, x1, x2⟩ := x
    rw [ddepL] at hu
    rw [List.forIn_cons]
    refine wpAny_bind (wpAny_bind (hash_D d u A s _ x1 (by omega) (wpAny_bind (wpAny_pure (wpAny_pure ?_)))))
    refine hash_Ds ds vs A { s with toks := s.toks + dDraw d } _ Q x2 (by omega) fun c hc => ?_
    have := q c (by rw [hc]; simp [dHashes])
    rw [dDraws, ← Nat.add_assoc] at this
    exact this
end
end
end Sh
namespace Sh
open PySem PySem.Spec PyProof.Rows L2
section
variable {prog : Program} {w : World} {E : Value → Shared → Prop}
/-- == of data is quiet: it runs no code of one's own -/
theorem quiet_D {A : Around} {s : Shared} : ∀ (n : Nat) (d : Dt) (u : Value) (Q : Bool → Shared → Prop), ddep d ≤ n → DtAt s.heap d u → Q true s → wpAny (model prog w) A (eqIsQuiet n u) Q E s := by
  intro n
  induction n with
  | zero => intro d u Q hd; have := ddep_pos d; omega
  | succ n ih =>
    intro d u Q hd x q
    cases d with
    | int i => rw [DtAt] at x; obtain ⟨t, rfl⟩ := x; rw [eqIsQuiet_byValue _ rfl]; exact wpAny_pure q
    | str i => rw [DtAt] at x; obtain ⟨t, rfl⟩ := x; rw [eqIsQuiet_byValue _ rfl]; exact wpAny_pure q
    | tup ds =>
      rw [DtAt] at x; obtain ⟨a, its, rfl, ⟨o, ho, hc, m, hd'⟩, x⟩ := x
      rw [ddep] at hd
      have ty : s.TypeIs (.ref a) "tuple" := ⟨o, ho, hc⟩
      rw [eqIsQuiet]
      refine wpAny_bind (wpAny_specialOf ty PySem.F.slot_tuple_eq.lookup ?_)
      change wpAny _ _ (isInstance (.ref a) (.type "tuple") >>= _) _ _ s
      refine wpAny_bind (wpAny_isInstance ty isSubtype_tuple_tuple ?_)
      simp only [Bool.not_true, Bool.false_eq_true, if_false]
      refine wpAny_bind (wpAny_seqItems ho hd' (wpAny_bind ?_))
      change wpAny _ _ (forIn its _ _) _ _ s
      rw [← Array.forIn_toList]
      have items : ∀ z ∈ its.toList, ∃ e ∈ ds, DtAt s.heap e z := fun z hz => by
        obtain ⟨i, hi, e⟩ := List.mem_iff_getElem.mp hz
        obtain ⟨e', f, r⟩ := x.get (i := i) (u := z) (by rw [List.getElem?_eq_getElem hi, e])
        exact ⟨e', List.mem_of_getElem? f, r⟩
      refine wpAny_forIn_list _ (fun left r t => r.1 = none ∧ t = s ∧ ∀ z ∈ left, ∃ e ∈ ds, DtAt s.heap e z) _ ?_ ?_ _ _ ⟨rfl, rfl, items⟩
      · rintro z left r t ⟨hr, rfl, all⟩
        obtain ⟨e, he, ze⟩ := all z List.mem_cons_self
        have := ddepL_mem he
        refine wpAny_bind (ih e z _ (by omega) ze ?_)
        simp only [Bool.not_true, Bool.false_eq_true, if_false]
        exact wpAny_pure ⟨rfl, rfl, fun y hy => all y (List.mem_cons_of_mem _ hy)⟩
      · rintro ⟨r1, r2⟩ t ⟨hr, rfl, _⟩
        simp only at hr
        subst hr
        exact wpAny_pure q
end
/-- == of data, on the heap -/
theorem eqAt_At {s : Shared} : ∀ (n : Nat) (A : Around) (d e : Dt) (u v : Value), ddep d ≤ n → A.units + n < cLine → DtAt s.heap d u → DtAt s.heap e v → SeqAt.EqAt A s u v (deq d e) := by
  intro n
  induction n with
  | zero => intro A d e u v hd; have := ddep_pos d; omega
  | succ n ih =>
    intro A d e u v hd hu h h'
    have hu' : A.units < cLine := by omega
    cases d with
    | int i =>
      rw [DtAt] at h; obtain ⟨t, rfl⟩ := h
      cases e with
      | int j => rw [DtAt] at h'; obtain ⟨t', rfl⟩ := h'; rw [deq]; exact SeqAt.EqAt.int_int i t j t'
      | str j => rw [DtAt] at h'; obtain ⟨t', rfl⟩ := h'; rw [show deq (.int i) (.str j) = false by simp [deq]]; exact SeqAt.EqAt.int_str i t j t'
      | tup ds =>
        rw [DtAt] at h'; obtain ⟨b, ys, rfl, p, _⟩ := h'
        rw [show deq (.int i) (.tup ds) = false by simp [deq]]; exact SeqAt.EqAt.int_tuple i t p hu'
    | str i =>
      rw [DtAt] at h; obtain ⟨t, rfl⟩ := h
      cases e with
      | int j => rw [DtAt] at h'; obtain ⟨t', rfl⟩ := h'; rw [show deq (.str i) (.int j) = false by simp [deq]]; exact SeqAt.EqAt.str_int i t j t'
      | str j => rw [DtAt] at h'; obtain ⟨t', rfl⟩ := h'; rw [deq]; exact SeqAt.EqAt.str_str i t j t'
      | tup ds =>
        rw [DtAt] at h'; obtain ⟨b, ys, rfl, p, _⟩ := h'
        rw [show deq (.str i) (.tup ds) = false by simp [deq]]; exact SeqAt.EqAt.str_tuple i t p hu'
    | tup ds =>
      have h0 := h
      rw [DtAt] at h; obtain ⟨a, xs, rfl, p, hx⟩ := h
      cases e with
      | int j => rw [DtAt] at h'; obtain ⟨t', rfl⟩ := h'; rw [show deq (.tup ds) (.int j) = false by simp [deq]]; exact SeqAt.EqAt.tuple_int j t' p hu'
      | str j => rw [DtAt] at h'; obtain ⟨t', rfl⟩ := h'; rw [show deq (.tup ds) (.str j) = false by simp [deq]]; exact SeqAt.EqAt.tuple_str j t' p hu'
      | tup es =>
        have h0' := h'
        rw [DtAt] at h'; obtain ⟨b, ys, rfl, p', hy⟩ := h'
        by_cases hab : a = b
        · subst hab
          rw [(deq_iff _ _).mpr (DtAt.inj _ _ _ h0 h0')]
          exact SeqAt.EqAt.same _
        · have l1 := hx.length
          have l2 := hy.length
          rw [deq, ← all_eqJ, ← l1, ← l2]
          refine SeqAt.EqAt.of_refs hab ?_
          have z := SeqAt.RcAt.tuples (A := A) (e := eqJ ds es) p p' hu' fun j h1 h2 => ?_
          · simpa using z
          · obtain ⟨d1, e1, r1⟩ := hx.get (i := j) (u := xs[j]) (by simp)
            obtain ⟨d2, e2, r2⟩ := hy.get (i := j) (u := ys[j]) (by simp)
            have ej : eqJ ds es j = deq d1 d2 := by unfold eqJ; rw [e1, e2]
            rw [ej]
            have dm := ddepL_mem (List.mem_of_getElem? e1)
            rw [ddep] at hd
            exact ih A.in1 d1 d2 _ _ (by omega) (by show A.units + 1 + n < cLine; omega) r1 r2
/-- a key: a tuple of data, at most eight deep -/
def KeyAt (h : Heap) (d : Dt) (a : Addr) : Prop := DtAt h d (.ref a) ∧ ddep d ≤ 8
def deepKind (prog : Program) (w : World) : HeapKind prog w Dt where
  is := KeyAt
  hash := dHash w
  draws := dDraw
  room := fun A => A.units + 8 < cLine
  inj := fun x y => DtAt.inj _ _ _ x.1 y.1
  keeps := fun {h h' k a d o es ep} x ho hd hs => ⟨DtAt.stay (fun b its p => by
    obtain ⟨ob, e1, e2, n, e3⟩ := p
    have ne : b ≠ d := fun q => by subst q; cases ho.symm.trans e1; rw [hd] at e3; cases e3
    exact ⟨ob, (hs.2 b ne).trans e1, e2, n, e3⟩) _ _ x.1, x.2⟩
  pyHash := fun {A E s k a Q} hu hk q => hash_D k _ A s Q hk.1 (by have := hk.2; omega) q
  eqBool := fun {A E s x y a b Q} hu hx hy q => eqAt_At 8 A x y _ _ hx.2 hu hx.1 hy.1 prog w E Q (by rw [← decide_Dt]; exact q)
  quiet := fun {A E s k a Q} hk q => quiet_D 8 k _ Q hk.2 hk.1 q
end Sh

end
section
set_option Elab.async false
set_option linter.all false
set_option maxRecDepth 100000
set_option maxHeartbeats 4000000
namespace Sh
open PySem PySem.Spec PyProof.Rows L2
/-! ### dicts whose keys are data: {}, d.get(k, x), d[k] = x -/
/-- the data, the address that the key has, the value -/
abbrev DKv := List (Dt × Addr × V)
def lookN (kvs : DKv) (k : Dt) : Option V := (kvs.find? fun x => decide (x.1 = k)).map (·.2.2)
def setN (k : Dt) (v : V) (x : Dt × Addr × V) : Dt × Addr × V := if x.1 = k then (x.1, x.2.1, v) else x
def putN (kvs : DKv) (k : Dt) (a : Addr) (v : V) : DKv := if (lookN kvs k).isSome then kvs.map (setN k v) else kvs ++ [(k, a, v)]
def PN (p : Dt × Addr × V) (q : Dt × Addr × Value) : Prop := p.1 = q.1 ∧ p.2.1 = q.2.1 ∧ RelV p.2.2 q.2.2
theorem lookN_cons {p : Dt × Addr × V} {r : DKv} {k : Dt} : lookN (p :: r) k = if p.1 = k then some p.2.2 else lookN r k := by
  unfold lookN
  by_cases e : p.1 = k
  · simp [List.find?_cons, e]
  · simp [List.find?_cons, e]
theorem atKey_cons {p : Dt × Addr × Value} {r : List (Dt × Addr × Value)} {k : Dt} : atKey (p :: r) k = if p.1 = k then some p.2 else atKey r k := by
  unfold atKey
  by_cases e : p.1 = k
  · simp [List.find?_cons, e]
  · simp [List.find?_cons, e]
theorem look_rel {k : Dt} : ∀ {kvs : DKv} {xs : List (Dt × Addr × Value)}, Paired PN kvs xs → RelO (lookN kvs k) ((atKey xs k).map (·.2))
  | _, _, .nil => trivial
  | _, _, .cons (a := p) (b := q) r t => by
    rw [lookN_cons, atKey_cons, ← r.1]
    by_cases e : p.1 = k
    · rw [if_pos e, if_pos e]; exact r.2.2
    · rw [if_neg e, if_neg e]; exact look_rel t
theorem put_rel {k : Dt} {a : Addr} {v : V} {u : Value} (rv : RelV v u) {kvs : DKv} {xs : List (Dt × Addr × Value)} (h : Paired PN kvs xs) : Paired PN (putN kvs k a v) (storedH xs k a u) := by
  have hs : (lookN kvs k).isSome = (atKey xs k).isSome := by
    have := look_rel (k := k) h
    cases q : lookN kvs k <;> cases q' : atKey xs k <;> rw [q, q'] at this <;> first | rfl | exact False.elim this
  unfold putN storedH
  rw [hs]
  have maps : ∀ {kvs : DKv} {xs : List (Dt × Addr × Value)}, Paired PN kvs xs → Paired PN (kvs.map (setN k v)) (xs.map (putAt k u)) := by
    intro kvs xs h
    induction h with
    | nil => exact .nil
    | @cons p q _ _ r t ih =>
      refine .cons ?_ ih
      unfold setN putAt
      rw [← r.1]
      by_cases e : p.1 = k
      · rw [if_pos e, if_pos e]; exact ⟨rfl, r.2.1, rv⟩
      · rw [if_neg e, if_neg e]; exact r
  have snoc : ∀ {kvs : DKv} {xs : List (Dt × Addr × Value)}, Paired PN kvs xs → Paired PN (kvs ++ [(k, a, v)]) (xs ++ [(k, a, u)]) := by
    intro kvs xs h
    induction h with
    | nil => exact .cons ⟨rfl, rfl, rv⟩ .nil
    | cons r t ih => exact .cons r ih
  by_cases e : (atKey xs k).isSome = true
  · rw [if_pos e, if_pos e]; exact maps h
  · rw [if_neg e, if_neg e]; exact snoc h
theorem look_put {k j : Dt} {a : Addr} {v : V} (kvs : DKv) : lookN (putN kvs k a v) j = if j = k then some v else lookN kvs j := by
  have hm : ∀ kvs : DKv, lookN (kvs.map (setN k v)) j = if j = k then (lookN kvs k).map (fun _ => v) else lookN kvs j := by
    intro kvs
    induction kvs with
    | nil => by_cases e : j = k <;> simp [e, lookN]
    | cons p r ih =>
      rw [List.map_cons, lookN_cons, ih, lookN_cons, lookN_cons]
      unfold setN
      by_cases e : p.1 = k
      · rw [if_pos e, if_pos e]
        by_cases ej : j = k
        · simp only [if_pos ej, if_pos (show (p.1, p.2.1, v).1 = j from e.trans ej.symm)]; rfl
        · rw [if_neg ej, if_neg (show ¬ (p.1, p.2.1, v).1 = j from fun q => ej (q.symm.trans e)), if_neg (fun q : p.1 = j => ej (q.symm.trans e)), if_neg ej]
      · rw [if_neg e, if_neg e]
        by_cases ej : j = k
        · subst ej; rw [if_pos rfl, if_neg e, if_pos rfl]
        · rw [if_neg ej, if_neg ej]
  have ha : ∀ kvs : DKv, lookN kvs k = none → lookN (kvs ++ [(k, a, v)]) j = if j = k then some v else lookN kvs j := by
    intro kvs
    induction kvs with
    | nil =>
      intro _
      rw [List.nil_append, lookN_cons]
      by_cases e : j = k
      · rw [if_pos e, if_pos (show (k, a, v).1 = j from e.symm)]
      · rw [if_neg e, if_neg (show ¬ (k, a, v).1 = j from fun q => e q.symm)]
    | cons p r ih =>
      intro hn
      rw [lookN_cons] at hn
      by_cases e : p.1 = k
      · rw [if_pos e] at hn; cases hn
      · rw [if_neg e] at hn
        rw [List.cons_append, lookN_cons, ih hn, lookN_cons]
        by_cases ej : j = k
        · subst ej; rw [if_pos rfl, if_neg e, if_pos rfl]
        · rw [if_neg ej, if_neg ej]
  unfold putN
  cases q : lookN kvs k with
  | none => rw [if_neg (by simp)]; exact ha kvs q
  | some x => rw [if_pos (by rfl), hm kvs, q]; rfl
theorem len_put {k : Dt} {a : Addr} {v : V} (kvs : DKv) : (putN kvs k a v).length ≤ kvs.length + 1 := by
  unfold putN
  split
  · rw [List.length_map]; omega
  · rw [List.length_append, List.length_singleton]; omega
theorem mem_put {k : Dt} {a : Addr} {v : V} {kvs : DKv} {x : Dt × Addr × V} (h : x ∈ putN kvs k a v) : (x.1 = k ∧ x.2.1 = a) ∨ ∃ y ∈ kvs, y.1 = x.1 ∧ y.2.1 = x.2.1 := by
  unfold putN at h
  split at h
  · obtain ⟨y, hy, rfl⟩ := List.mem_map.mp h
    refine .inr ⟨y, hy, ?_⟩
    unfold setN
    split <;> exact ⟨rfl, rfl⟩
  · rcases List.mem_append.mp h with h' | h'
    · exact .inr ⟨x, h', rfl, rfl⟩
    · rw [List.mem_singleton] at h'
      subst h'
      exact .inl ⟨rfl, rfl⟩
/-- one entry of the dict -/
def entN (w : World) (x : Dt × Addr × Value) : DictEntry := ⟨dHash w x.1, .ref x.2.1, x.2.2⟩
def dnHolds (w : World) (a : Addr) (kvs : DKv) (h : Heap) : Prop :=
  kvs.length ≤ sizeLine ∧ (a == sysModules) = false ∧ ∃ xs : List (Dt × Addr × Value), Paired PN kvs xs ∧
    ∃ o es ep, h.get? a = some o ∧ o.ExactDict ∧ o.data = .dict es ep ∧ es.toList = xs.map (entN w) ∧ (xs.map (·.1)).Nodup
def dN (w : World) (a : Addr) (kvs : DKv) : HO := .ext (dnHolds w a kvs)
theorem dn_ok {P : Program} {w w' : World} {H : Hp} {h : Heap} {a : Addr} {kvs : DKv} (x : dnHolds w a kvs h) : ObjOk P w' H h a (dN w a kvs) := by
  refine ⟨x, ?_, ?_⟩
  · obtain ⟨_, _, _, _, o, _, _, e, _⟩ := x; exact ⟨o, e⟩
  · rintro h1 h2 ⟨z, y, xs, r, o, es, ep, e, c⟩ k
    exact ⟨z, y, xs, r, o, es, ep, k o e, c⟩
/-- the dict at a answers as f does; it has at most n keys -/
def DMap (w : World) (H : Hp) (a : Addr) (n : Nat) (f : Dt → Option V) : Prop :=
  ∃ kvs : DKv, kvs.length ≤ n ∧ H a = some (dN w a kvs) ∧ (∀ x ∈ kvs, Rd H x.1 (.ref x.2.1) ∧ ddep x.1 ≤ 8) ∧ ∀ k, f k = lookN kvs k
theorem dmap_new {w : World} {H : Hp} {a : Addr} : DMap w (upd H a (dN w a [])) a 0 fun _ => none :=
  ⟨[], Nat.le_refl _, upd_same, (fun x hx => by simp at hx), fun _ => rfl⟩
/-- the dict stays, where it and the tuples do -/
theorem DMap.stay {w : World} {H H' : Hp} {a : Addr} {n : Nat} {f : Dt → Option V} (h : DMap w H a n f) (ha : H' a = H a) (ht : Tk H H') : DMap w H' a n f := by
  obtain ⟨kvs, l, e, r, q⟩ := h
  exact ⟨kvs, l, ha.trans e, fun x hx => ⟨(r x hx).1.mono ht, (r x hx).2⟩, q⟩
theorem DMap.wide {w : World} {H : Hp} {a : Addr} {n m : Nat} {f : Dt → Option V} (h : DMap w H a n f) (l : n ≤ m) : DMap w H a m f := by
  obtain ⟨kvs, k, r⟩ := h
  exact ⟨kvs, Nat.le_trans k l, r⟩
end Sh
namespace Sh
open PySem PySem.Spec PyProof.Rows L2
section
variable {X : Cx} {pins : List (Addr × Obj)} {σ : L2.St} {H : Hp} {s : Shared} {A : Around} {E : Value → Shared → Prop}
mutual
theorem Rd.heap (I : Inv X pins σ H s) : ∀ {d : Dt} {v : V} {u : Value}, Rd H d v → RelV v u → DtAt s.heap d u
  | .int i, v, u, h, r => by rw [Rd] at h; subst h; rw [DtAt]; exact r
  | .str i, v, u, h, r => by rw [Rd] at h; subst h; rw [DtAt]; exact r
  | .tup ds, v, u, h, r => by
    rw [Rd] at h
    obtain ⟨a, vs, rfl, ha, hv⟩ := h
    cases r
    obtain ⟨its, ri, p⟩ := tupAt I ha
    rw [DtAt]
    exact ⟨a, _, rfl, p, Rds.heap I hv (by simpa using ri)⟩
theorem Rds.heap (I : Inv X pins σ H s) : ∀ {ds : List Dt} {vs : List V} {us : List Value}, Rds H ds vs → Vals vs us → DtsAt s.heap ds us
  | [], vs, us, h, r => by rw [Rds] at h; subst h; cases r; rw [DtsAt]
  | d :: ds, vs, us, h, r => by
    rw [Rds] at h
    obtain ⟨v, ws, rfl, h1, h2⟩ := h
    cases r with
    | cons r1 r2 => rw [DtsAt]; exact ⟨_, _, rfl, Rd.heap I h1 r1, Rds.heap I h2 r2⟩
end
/-- the dict, as the heap has it -/
theorem DMap.heap {w : World} {a : Addr} {n : Nat} {f : Dt → Option V} (I : Inv X pins σ H s) (hw : X.w = w) (h : DMap w H a n f) :
    ∃ (kvs : DKv) (xs : List (Dt × Addr × Value)), kvs.length ≤ n ∧ kvs.length ≤ sizeLine ∧ H a = some (dN w a kvs) ∧ (∀ x ∈ kvs, Rd H x.1 (.ref x.2.1) ∧ ddep x.1 ≤ 8) ∧ (∀ k, f k = lookN kvs k) ∧ (a == sysModules) = false ∧ Paired PN kvs xs ∧ s.heap.DictOfH (deepKind X.prog X.w) a xs := by
  subst hw
  obtain ⟨kvs, l, e, r, q⟩ := h
  obtain ⟨⟨z, y, xs, p, o, es, ep, e1, e2, e3, e4, e5⟩, junk⟩ := (show ObjOk X.prog X.w H s.heap a (dN X.w a kvs) from I.hok a _ e)
  refine ⟨kvs, xs, l, z, e, r, q, y, p, o, es, ep, e1, e2, e3, e4, ?_, e5⟩
  clear e4 e5 q l z e junk
  induction p with
  | nil => intro x hx; simp at hx
  | @cons p' q' ps qs hq t ih =>
    intro x hx
    rcases List.mem_cons.mp hx with rfl | hx
    · have := r p' List.mem_cons_self
      rw [hq.1, hq.2.1] at this
      exact ⟨Rd.heap I this.1 rfl, this.2⟩
    · exact ih (fun y hy => r y (List.mem_cons_of_mem _ hy)) x hx
end
/-- {}, a dict for such keys -/
def tNewN (w : World) : TE := fun _ H Q => ∀ p, H p = none → Q (.ref p) (upd H p (dN w p []))
theorem big_of {X : Cx} {pins : List (Addr × Obj)} {σ : L2.St} {H : Hp} {s : Shared} (I : Inv X pins σ H s) : (s.heap.objs.size == sysModules) = false := by
  have h : mainGlobals < s.heap.objs.size := (I.mod.glob.keeps I.bk).lt
  exact beq_eq_false_iff_ne.mpr (Ne.symm (Nat.ne_of_lt (Nat.lt_trans (by decide) h)))
theorem pe_newN {X : Cx} {pos : Pos} {w : World} : PE X (.Dict [] [] pos) (tNewN w) := fun pins s σ H Q I h =>
  wpAny_Dict_empty ⟨.ref s.heap.objs.size, _, I.laid (a := s.heap.objs.size) (o := dN w s.heap.objs.size []) (t' := s.toks) (fun _ _ q => Heap.get?_push_of_some _ q) (Nat.le_refl _)
    (dn_ok ⟨Nat.zero_le _, big_of I, [], .nil, _, #[], 0, Heap.get?_push_size _ rfl, ⟨rfl, rfl, rfl⟩, rfl, rfl, List.nodup_nil⟩), rfl, h _ I.fresh⟩
/-- d.get(k, x) -/
def tGetN (w : World) (to : TE) (t : TA) : TE := fun σ H Q => to σ H fun x H1 => ∃ a, x = .ref a ∧ (∃ n f, DMap w H1 a n f) ∧ t σ H1 fun xs H2 => ∃ y z k n f, xs = [y, z] ∧ DMap w H2 a n f ∧ Rd H2 (.tup k) y ∧ ddep (.tup k) ≤ 8 ∧ Q ((f (.tup k)).getD z) H2
section
variable {X : Cx} {o e : Expr} {es : List Expr} {to : TE} {t : TA} {apos cpos : Pos} {w : World}
theorem pe_getN (hu : X.A.units + 9 < cLine) (ho : PE X o to) (ha : PA X (e :: es) t) (hw : X.w = w := by rfl)
    (hbase : attributeBase o "get" X.env (eval o X.env) = eval o X.env := by rfl)
    (hfew : ((backTo cpos (starEach (e :: es) X.env)).all (fun x => !x.1) && (backToKw cpos (keywordEach [] X.env)).all (fun x => x.1.isSome)
      && decide ((e :: es).length + ([] : List Keyword).length + (if ([] : List Keyword).isEmpty then 0 else 1) < 30)) = true := by rfl)
    (hline : (apos.endLine == cpos.line) = true := by rfl) (hs : starEach (e :: es) X.env = (false, eval e X.env) :: starEach es X.env := by rfl) (hplain : (backTo cpos (starEach es X.env)).any (·.1) = false := by rfl) :
    PE X (.Call (.Attribute o "get" apos) (e :: es) [] cpos) (tGetN w to t) := by
  intro pins s σ H Q I h
  refine wpAny_Call_method_late hbase hfew hline rfl (thn (ho pins s σ H _ I h) fun v s1 ⟨x, H1, I1, r1, a, ea, ⟨n, f, D⟩, q1⟩ => ?_)
  subst ea
  obtain rfl : v = Value.ref a := r1
  obtain ⟨kvs, xs, _, _, _, _, _, hd, _, dd⟩ := D.heap I1 hw
  refine ⟨"dict", "dict.get", PySem.F.plainAttrs_dict, PySem.F.slot_dict_get, PySem.F.type_dict_get, dd.typeIs, fun b eb => ?_, ?_⟩
  · cases eb
    obtain ⟨ob, _, _, h1, h2, _⟩ := dd
    exact ⟨ob, h1, h2.2.1⟩
  have hA := ha cpos pins s1 σ H1 _ I1 q1
  rw [hs] at hA ⊢
  refine Calls.callWith_builtin (by show (false || (backTo cpos (starEach es X.env)).any (·.1)) = false; rw [hplain] <;> rfl) (Calls.evalArgs_plain ?_)
  refine thn hA fun us s2 ⟨vs, H2, I2, r2, y, z, k, m, g, ev, D2, hk, hk8, q2⟩ => ?_
  subst ev
  cases r2 with
  | cons ry r2 => cases r2 with
    | cons rz r2 =>
      cases r2
      obtain ⟨kvs2, xs2, _, _, _, _, hg, hd2, p2, dd2⟩ := D2.heap I2 hw
      have kat := Rd.heap I2 hk ry
      have hk' := hk
      rw [Rd] at hk'
      obtain ⟨b, _, rfl, _⟩ := hk'
      cases ry
      refine call_meetsIn PySem.F.slot_dict_get dd2.typeIs PySem.F.entry_dict_get (PySem.F.args_dict_get_3 _ _ _) (meetsH_dict_get_default (deepKind X.prog X.w) a b hd2 _) ⟨?_, .tup k, xs2, ⟨kat, hk8⟩, dd2, ?_⟩
      · show X.A.units + 1 + 8 < cLine; omega
      · refine ⟨_, H2, I2.tok _, ?_, q2⟩
        have rl := look_rel (k := .tup k) p2
        rw [hg]
        revert rl
        cases lookN kvs2 (.tup k) <;> cases (atKey xs2 (.tup k)).map (·.2) <;> intro rl
        · exact rz
        · exact False.elim rl
        · exact False.elim rl
        · exact rl
/-- d[k] = x -/
def gPutN (w : World) : TSet := fun o i v H Q => ∃ a n f k, o = .ref a ∧ DMap w H a n f ∧ n < sizeLine ∧ Rd H (.tup k) i ∧ ddep (.tup k) ≤ 8 ∧
  ∀ ob, DMap w (upd H a ob) a (n + 1) (fun j => if j = .tup k then some v else f j) → Tk H (upd H a ob) → Q (upd H a ob)
theorem set_putN (hu : X.A.units + 9 < cLine) (hw : X.w = w := by rfl) : PSet X (gPutN w) := by
  intro pins s σ H o i v ov iv u Q I ro ri rv h
  obtain ⟨a, n, f, k, rfl, D, hn, hk, hk8, q⟩ := h
  cases ro
  obtain ⟨kvs, xs, l, z, e, r, hf, hd, p, dd⟩ := D.heap I hw
  have kat := Rd.heap I hk ri
  have hk' := hk
  rw [Rd] at hk'
  obtain ⟨b, _, rfl, _⟩ := hk'
  cases ri
  refine wpAny_setItem_heap (knd := deepKind X.prog X.w) (k := .tup k) (hsz := by rw [← Paired.length p]; exact z) (show X.A.units + 1 + 8 < cLine by omega) ⟨kat, hk8⟩ dd fun h' dd' hs => ?_
  have tk : ∀ ob, Tk H (upd H a ob) := fun ob c ys hc => by rw [upd_ne (ne_of hc e (fun z => nomatch z))]; exact hc
  have hl := len_put (k := .tup k) (a := b) (v := v) kvs
  obtain ⟨ob, es, ep, h1, h2, h3, h4, _, h5⟩ := dd'
  refine ⟨_, I.write (x := a) (e := a) (o := dN w a (putN kvs (.tup k) b v)) (by rw [e]; exact trivial) (.inl rfl) (fun c x hc hx => (hs.2 c hc).trans hx) ⟨ob, h1⟩ (dn_ok ⟨by omega, hd, _, put_rel rv p, ob, es, ep, h1, h2, h3, ?_, h5⟩), q _ ⟨_, ?_, upd_same, fun x hx => ?_, fun j => ?_⟩ (tk _)⟩
  · subst hw; exact h4
  · omega
  · rcases mem_put hx with ⟨x1, x2⟩ | ⟨y, hy, x1, x2⟩
    · rw [x1, x2]; exact ⟨hk.mono (tk _), hk8⟩
    · rw [← x1, ← x2]; exact ⟨(r y hy).1.mono (tk _), (r y hy).2⟩
  · rw [look_put, ← hf]
end
end Sh

end
section
set_option Elab.async false
set_option linter.all false
set_option maxRecDepth 100000
set_option maxHeartbeats 4000000
namespace Sh
open PySem PySem.Spec PyProof.Rows L2
/-! ### f"..{e}..", e an int or a text -/
abbrev TJ := Str → L2.St → Hp → VK → Prop
/-- the parts, joined behind what there is -/
def PJ (X : Cx) (es : List Expr) (t : TJ) : Prop := ∀ (pins : List (Addr × Obj)) (s : Shared) (σ : L2.St) (H : Hp) (out : Str) (Q : VK), Inv X pins σ H s → t out σ H Q →
  wpAny (model X.prog X.w) X.A (joinParts out (evalEach es X.env)) (EP X pins σ Q) X.xe s
section
variable {X : Cx} {e e' : Expr} {es : List Expr} {te : TE} {t : TJ} {pos : Pos}
def jNil : TJ := fun out σ H Q => out.length ≤ sizeLine ∧ Q (.str out) H
def jCons (te : TE) (t : TJ) : TJ := fun out σ H Q => te σ H fun v H1 => ∃ y : Str, v = .str y ∧ (out ++ y).length ≤ sizeLine ∧ t (out ++ y) σ H1 Q
theorem pj_nil : PJ X [] jNil := fun pins s σ H out Q I h => joinParts_nil ⟨.str out, H, I.tok _, ⟨_, rfl⟩, h.2⟩ h.1
theorem pj_cons (he : PE X e te) (hs : PJ X es t) (hv : evalEach (e :: es) X.env = eval e X.env :: evalEach es X.env := by rfl) : PJ X (e :: es) (jCons te t) := by
  intro pins s σ H out Q I h
  rw [hv]
  refine joinParts_cons (thn (he pins s σ H _ I h) fun v s1 ⟨x, H1, I1, rx, y, ex, hl, q⟩ => ?_)
  subst ex
  obtain ⟨tk, rfl⟩ := rx
  exact ⟨hl, hs pins s1 σ H1 _ Q I1 q⟩
def tJoin (t : TJ) : TE := fun σ H Q => t Str.empty σ H Q
theorem pe_join (h : PJ X (e :: e' :: es) t) (hv : evalEach (e :: e' :: es) X.env = eval e X.env :: eval e' X.env :: evalEach es X.env := by rfl) : PE X (.JoinedStr (e :: e' :: es) pos) (tJoin t) := by
  intro pins s σ H Q I q
  refine JoinedStr_many ?_
  rw [← hv]
  exact h pins s σ H _ Q I q
/-- {e} -/
def tFmt (te : TE) : TE := fun σ H Q => te σ H fun v H1 => (∃ x : Str, v = .str x ∧ x.length ≤ sizeLine ∧ Q (.str x) H1) ∨ ∃ i : Int, v = .int i ∧ i.natAbs.log2 < 1920 ∧ Q (.str (toString i)) H1
theorem pe_fmt (he : PE X e te) : PE X (.FormattedValue e (-1) none pos) (tFmt te) := by
  intro pins s σ H Q I h
  refine FormattedValue_plain (thn (he pins s σ H _ I h) fun v s1 ⟨x, H1, I1, rx, q⟩ => ?_)
  rcases q with ⟨y, rfl, hl, q⟩ | ⟨i, rfl, hl, q⟩
  · obtain ⟨tk, rfl⟩ := rx
    exact formatField_str (fun t' tk' => ⟨.str y, H1, I1.tok _, ⟨_, rfl⟩, q⟩) hl
  · obtain ⟨tk, rfl⟩ := rx
    exact formatField_int_small hl ⟨.str _, H1, I1.tok _, ⟨_, rfl⟩, q⟩
end
/-! ### == of two lists of data -/
def rEqLD (K : PySem.W.Frag) (n : Nat) : R2 := fun x y H Q => ∃ p q xs ys ds es, x = .ref p ∧ y = .ref q ∧ SqL K H p xs ∧ SqL K H q ys ∧ Rds H ds xs ∧ Rds H es ys ∧ ddepL ds ≤ n ∧ Q (.bl (deqL ds es)) H
theorem op_eqLD {X : Cx} {n : Nat} (hu : X.A.units + n + 1 < cLine) : OpR X (compareOp .Eq) (rEqLD X.K n) := by
  intro pins s σ H x y u v Q I r r' h
  obtain ⟨p, q, xs, ys, ds, es, rfl, rfl, h1, h2, hd, he, hn, hq⟩ := h
  cases r
  cases r'
  obtain ⟨its, ri, pl, _⟩ := I.list h1
  obtain ⟨its', ri', pl', _⟩ := I.list h2
  have l1 := hd.length
  have l2 := he.length
  have l3 := ri.length
  have l4 := ri'.length
  by_cases hl : its.length = its'.length
  · refine SeqAt.eq_listAt (e := eqJ ds es) pl.isList pl'.isList (by simpa using hl) (by omega) (fun j g1 g2 => ?_) ⟨.bl _, H, I, rfl, ?_⟩
    · have j1 : j < xs.length := by rw [l3]; simpa using g1
      have j2 : j < ys.length := by rw [l4]; simpa using g2
      obtain ⟨d1, e1, r1⟩ := hd.get (List.getElem?_eq_getElem j1)
      obtain ⟨d2, e2, r2⟩ := he.get (List.getElem?_eq_getElem j2)
      obtain ⟨u1, f1, q1⟩ := ri.get (List.getElem?_eq_getElem j1)
      obtain ⟨u2, f2, q2⟩ := ri'.get (List.getElem?_eq_getElem j2)
      have z1 : its.toArray[j] = u1 := by
        have := List.getElem?_eq_some_iff.mp f1
        simpa using this.2
      have z2 : its'.toArray[j] = u2 := by
        have := List.getElem?_eq_some_iff.mp f2
        simpa using this.2
      have ej : eqJ ds es j = deq d1 d2 := by unfold eqJ; rw [e1, e2]
      rw [z1, z2, ej]
      have dm := ddepL_mem (List.mem_of_getElem? e1)
      exact eqAt_D I n X.A.in1 d1 d2 _ _ u1 u2 (by omega) (by show X.A.units + 1 + n < cLine; omega) r1 r2 q1 q2
    · have z := all_eqJ ds es
      rw [← l1, ← l2, l3, l4, ← hl, Nat.min_self] at z
      rw [← z] at hq
      simpa using hq
  · refine SeqAt.eq_list_lengthsAt pl.isList pl'.isList (by simpa using hl) (by omega) ⟨.bl false, H, I, rfl, ?_⟩
    have z : deqL ds es = false := by
      cases e : deqL ds es with
      | false => rfl
      | true => rw [deqL_iff] at e; subst e; omega
    rw [z] at hq
    exact hq
end Sh

end
section
set_option Elab.async false
set_option linter.all false
set_option maxRecDepth 100000
set_option maxHeartbeats 4000000
namespace Sh
open PySem PySem.Spec PyProof.Rows L2
/-! ### defs that are called within an except suite -/
structure RoomH (k : Nat) (A : Around) : Prop where
  dp : A.depth + 3 * k + 5 < recursionLimit
  un : A.units + 16 * k + 200 < cLine
theorem RoomH.of {k : Nat} {A : Around} (r : Room k A) (v : Option Value) : RoomH k (A.mark v) := ⟨r.dp, r.un⟩
theorem RoomH.mono {j k : Nat} {A : Around} (r : RoomH k A) (h : j ≤ k) : RoomH j A := ⟨by have := r.dp; omega, by have := r.un; omega⟩
theorem RoomH.deeper {k : Nat} {A : Around} (r : RoomH (k + 1) A) (env : Env) : RoomH k (A.deeper env) :=
  ⟨by have := r.dp; show A.depth + 1 + 3 * k + 5 < _; omega, by have := r.un; show A.units + 3 + 16 * k + 200 < _; omega⟩
/-- the context of such a def's body: an exception may be handled outside, none leaves -/
abbrev cxQ (P : Program) (w : World) (K : PySem.W.Frag) (mg : Str → Option Value) (base : Heap) (N : List Str) (qual : Str) (scope : Scope) (f : Addr) (cd : Value) (A : Around) (outer : List Env) (s : Shared) (H : Hp) : Cx :=
  { cxOf CX0 P w K mg base N qual scope f cd A outer s H E0 with calm := false, xe := fun _ _ => False }
/-- what a def promises wherever it is called -/
structure FnOkH (P : Program) (w : World) (K : PySem.W.Frag) (mg : Str → Option Value) (base : Heap) (k : Nat) (f : Addr) (fd : FuncData) (ps : List Str) (sp : Sp) : Prop where
  len : ∀ vs H Q E, sp vs H Q E → vs.length = ps.length
  run : ∀ (A : Around) (outer : List Env) (s : Shared) (H : Hp) (args : Args) (us : List Value) (vs : List V) (Q : VK), RoomH k A → Env0 P w K mg base A outer s H → BindsTo s fd args (ps.zip us) → Vals vs us → sp vs H Q E0 →
    codeAny (model P w) A (.call (.ref f) args) (CR CX0 outer P w H s Q E0) s
section
variable {P : Program} {w : World} {K : PySem.W.Frag} {mg : Str → Option Value} {base : Heap} {x : Str} {st : Stmt} {N ps : List Str} {k : Nat} {sp : Sp}
theorem env0_calm {A : Around} {outer : List Env} {s : Shared} {H : Hp} (e : Env0 P w K mg base A outer s H) : Env0 P w K mg base { A with handled := none } outer s H := ⟨e.frames, e.mod, e.bs, e.bsz, e.funs, e.frf, e.hok, e.bare⟩
theorem Fun.okH {qual : Str} {f : Addr} {fd : FuncData} (F : Fun K x qual st f fd) (S : FnScope N ps (defScope st)) (len : ∀ vs H Q E, sp vs H Q E → vs.length = ps.length)
    (hbody : ∀ (cdv : Value) (A : Around) (outer : List Env) (s : Shared) (H : Hp) (vs : List V) (Q : VK), RoomH k (A.deeper (envOfC qual (defScope st) s.heap.objs.size f cdv)) → sp vs H Q E0 →
      ∃ t, PSs (cxQ P w K mg base N qual (defScope st) f cdv A outer s H) (defBody st) t ∧ t { nx := fun _ H' => Q .non H', rt := Q } (start N vs) H) : FnOkH P w K mg base (k + 1) f fd ps sp := by
  obtain ⟨oc, od, kV, doc, pm, an, cdv, ct, osl, rfl, lk, hcd⟩ := F.ex
  refine ⟨len, fun A outer s H args us vs Q hr e0 hb r hsp => ?_⟩
  have there : ∀ b o, base.get? b = some o → s.heap.get? b = some o := fun b o e => (e0.bs b o e).1
  have kin : K.In s.heap := e0.mod.kin.keeps there
  have pars : ∀ y ∈ ps.zip us, (defScope st).names.lookup y.1 = some .local ∨ ((defScope st).names.lookup y.1 = some .cell ∧ ((cellsFrom (s.heap.objs.size + 1) (defScope st).names []).lookup y.1).isSome = true) :=
    fun y hy => (S.par y.1 (List.of_mem_zip (show (y.1, y.2) ∈ _ from hy)).1).imp id fun z => ⟨z, PySem.W.cellsFrom_some _ _ _ (.inl z)⟩
  have deep : A.depth < recursionLimit := by have := hr.dp; omega
  refine codeAny_call_function deep (kin _ _ lk) rfl S.co S.gen rfl (PySem.W.codeRec_of kin hcd) (hb _ _ _ _ (wpAny_newFunctionEnv_cells S.kind pars fun env he s1 ic => ?_))
  subst he
  obtain ⟨t, ht, hq⟩ := hbody cdv A outer s H vs Q (hr.deeper _) hsp
  have I0 := inv_start (CX := CX0) (E := E0) (cd := cdv) (f := f) (qual := qual) S (A := { A with handled := none }) rfl (env0_calm e0) (len _ _ _ _ hsp) r ic
  have o := I0.ok
  have I : Inv (cxQ P w K mg base N qual (defScope st) f cdv A outer s H) [] (start N vs) H s1 :=
    ⟨⟨o.mod, o.kind, o.glob, o.blt, o.above, o.inj, o.has, o.cab, (fun z => by cases z), Around.frames_deeper e0.frames, o.stk, o.exf, o.bs, o.bsz, o.noex, o.exfs, o.funs, o.frf⟩, I0.os, I0.bare, I0.base, I0.loc, I0.cell, I0.free, I0.freeC, I0.pin, I0.hok, I0.len⟩
  refine ⟨(e0.mod.nolimit.keeps there).keeps ic.toInCall.keep, codeAny_func (wpAny_mono (ht [] s1 (start N vs) H _ I hq) (fun fl s' z => ?_) fun _ _ z => z.elim)⟩
  match fl, z with
  | .ret u, ⟨v, _, H', J, rv, q⟩ => exact ⟨v, H', J.os, J.bare, J.base, J.hok, rv, q⟩
  | .next, ⟨_, H', J, q⟩ => exact ⟨V.non, H', J.os, J.bare, J.base, J.hok, rfl, q⟩
  | .brk, ⟨_, _, _, q⟩ => exact q.elim
  | .cont, ⟨_, _, _, q⟩ => exact q.elim
def OkH (P : Program) (w : World) (K : PySem.W.Frag) (mg : Str → Option Value) (base : Heap) (x : Str) (ps : List Str) (k : Nat) (sp : Sp) : Prop :=
  ∃ f fd, FnOkH P w K mg base k f fd ps sp ∧ Binds K fd ps [] ∧ mg x = some (.ref f) ∧ PySem.W.keepIn K (.ref f) = true
theorem Def.okH (D : Def K mg x st ps) (S : FnScope N ps (defScope st)) (len : ∀ vs H Q E, sp vs H Q E → vs.length = ps.length)
    (hbody : ∀ (f : Addr) (cdv : Value) (A : Around) (outer : List Env) (s : Shared) (H : Hp) (vs : List V) (Q : VK), RoomH k (A.deeper (envOfC x (defScope st) s.heap.objs.size f cdv)) → sp vs H Q E0 →
      ∃ t, PSs (cxQ P w K mg base N x (defScope st) f cdv A outer s H) (defBody st) t ∧ t { nx := fun _ H' => Q .non H', rt := Q } (start N vs) H) : OkH P w K mg base x ps (k + 1) sp := by
  obtain ⟨f, fd, F, b, m⟩ := D
  exact ⟨f, fd, Fun.okH F S len (hbody f), b, m, F.kp⟩
end
section
variable {X : Cx} {k : Nat} {x : Str} {ps : List Str} {sp : Sp} {p pos : Pos} {e : Expr} {es : List Expr} {t : TA}
/-- f(e, ..), anywhere -/
theorem pe_okH (F : OkH X.prog X.w X.K X.mg X.base x ps k sp) (hr : RoomH k X.A) (hg : Gl X x) (ha : PA X (e :: es) t) (hdb : (x == ("__debug__" : Str)) = false := by decide)
    (he : starEach (e :: es) X.env = (false, eval e X.env) :: starEach es X.env := by rfl) (hpl : (backTo pos (starEach es X.env)).any (·.1) = false := by rfl) : PE X (.Call (.Name x p) (e :: es) [] pos) (tCall sp [] E0 t) := by
  obtain ⟨f, fd, F, hb, hm, hk⟩ := F
  intro pins s σ H Q I h
  refine wpAny_Call_Name_kw (ld_glob I hg hm ?_ hdb)
  refine PySem.W.callWith_K (h₀ := X.base) I.ok.mod.kin hk (thn (ha pos pins s σ H _ I h) fun us s1 ⟨vs, H1, I1, r, q⟩ => ⟨I1.kIn, ?_⟩) he hpl
  have q' : sp vs H1 Q E0 := by have z : sp (vs ++ []) H1 Q E0 := q; rw [List.append_nil] at z; exact z
  have hl : us.length = ps.length := by rw [← r.length]; exact F.len _ _ _ _ q'
  have bd := hb s1 us I1.kIn (by rw [List.append_nil]; exact hl)
  rw [List.append_nil] at bd
  refine wpAny_call (codeAny_mono (F.run X.A X.stack s1 H1 ⟨us, []⟩ us vs Q hr I1.env0 bd r q') fun rs s' z => ?_)
  match rs, z with
  | .ok (.ret u), z => exact I1.after z
end
end Sh

end
section
set_option Elab.async false
set_option linter.all false
set_option maxRecDepth 100000
set_option maxHeartbeats 4000000
namespace Sh
open PySem PySem.Spec PyProof.Rows L2
/-! ### the methods of an own class, and their promises, by their names -/
/-- the j-th def of a class's body -/
def mtd (st : Stmt) (j : Nat) : Stmt := match st with
  | .ClassDef _ _ _ b _ _ _ _ _ _ _ => b.getD j (.Pass ⟨0, 0, 0, 0⟩)
  | _ => .Pass ⟨0, 0, 0, 0⟩
/-- the method m of the class at C; dvs: the values of the last parameters, where they are left out -/
def MDef (K : PySem.W.Frag) (C : Addr) (m qual : Str) (st : Stmt) (ps : List Str) (dvs : List V) : Prop :=
  ∃ (f : Addr) (oc : Value) (od : Option Addr) (dV kV doc pm : Value) (an : Option Addr) (cdv ct : Value) (osl : Array (Option Value)) (ds : List Value),
    K.lookup f = some ⟨oc, od, .func (PySem.W.fnOf m qual (defArgs st) (defBody st) (defScope st) dV kV doc pm an cdv ct), osl⟩ ∧ PySem.W.codeIn K cdv qual = true ∧
    Binds K (PySem.W.fnOf m qual (defArgs st) (defBody st) (defScope st) dV kV doc pm an cdv ct) ps [] ∧ Binds K (PySem.W.fnOf m qual (defArgs st) (defBody st) (defScope st) dV kV doc pm an cdv ct) ps ds ∧ Vals dvs ds ∧ Meth K C m f
def MOk (CX : CXT) (P : Program) (w : World) (K : PySem.W.Frag) (mg : Str → Option Value) (base : Heap) (C : Addr) (m : Str) (ps : List Str) (k : Nat) (sp : Sp) (dvs : List V) : Prop :=
  ∃ f fd ds, FnOk P w K mg base CX k f fd ps sp ∧ Binds K fd ps [] ∧ Binds K fd ps ds ∧ Vals dvs ds ∧ Meth K C m f
section
variable {P : Program} {w : World} {K : PySem.W.Frag} {mg : Str → Option Value} {base : Heap} {C : Addr} {m qual : Str} {st : Stmt} {N ps : List Str} {k : Nat} {sp : Sp} {dvs : List V}
theorem MDef.ok (D : MDef K C m qual st ps dvs) (S : FnScope N ps (defScope st)) (len : ∀ vs H Q E, sp vs H Q E → vs.length = ps.length)
    (hbody : ∀ (f : Addr) (cdv : Value) (A : Around) (outer : List Env) (s : Shared) (H : Hp) (vs : List V) (Q : VK) (E : XK), Room k (A.deeper (envOfC qual (defScope st) s.heap.objs.size f cdv)) → sp vs H Q E →
      ∃ t, PSs (cxOf CX0 P w K mg base N qual (defScope st) f cdv A outer s H E).nox (defBody st) t ∧ t { nx := fun _ H' => Q .non H', rt := Q } (start N vs) H) : MOk CX0 P w K mg base C m ps (k + 1) sp dvs := by
  obtain ⟨f, oc, od, dV, kV, doc, pm, an, cdv, ct, osl, ds, lk, hcd, b, b', hd, hm⟩ := D
  refine ⟨f, _, ds, fn_of lk hcd S len fun A outer s H vs Q E hr hsp => ?_, b, b', hd, hm⟩
  obtain ⟨t, h, q⟩ := hbody f cdv A outer s H vs Q E hr hsp
  exact ⟨t, h.nox, q⟩
theorem MDef.okX (D : MDef K C m qual st ps dvs) (S : FnScope N ps (defScope st)) (len : ∀ vs H Q E, sp vs H Q E → vs.length = ps.length)
    (hbody : ∀ (f : Addr) (cdv : Value) (A : Around) (outer : List Env) (s : Shared) (H : Hp) (vs : List V) (Q : VK) (E : XK), Room k (A.deeper (envOfC qual (defScope st) s.heap.objs.size f cdv)) → sp vs H Q E →
      ∃ t, PSs (cxX P w K mg base N qual (defScope st) f cdv A outer s H E) (defBody st) t ∧ t { nx := fun _ H' => Q .non H', rt := Q } (start N vs) H) : MOk (CX1 P w) P w K mg base C m ps (k + 1) sp dvs := by
  obtain ⟨f, oc, od, dV, kV, doc, pm, an, cdv, ct, osl, ds, lk, hcd, b, b', hd, hm⟩ := D
  refine ⟨f, _, ds, fn_of lk hcd S len fun A outer s H vs Q E hr hsp => ?_, b, b', hd, hm⟩
  obtain ⟨t, h, q⟩ := hbody f cdv A outer s H vs Q E hr hsp
  exact ⟨t, fun pins s1 σ H1 D1 I hq => wpAny_mono (h pins s1 σ H1 D1 (I.wish _) hq) (fun fl s2 z => z.unwish) fun e s2 z => XS.leave top_cxOf rfl z, q⟩
theorem MDef.void {CX : CXT} (D : MDef K C m qual st ps dvs) (no : ∀ vs H Q E, ¬ sp vs H Q E) : MOk CX P w K mg base C m ps k sp dvs := by
  obtain ⟨f, oc, od, dV, kV, doc, pm, an, cdv, ct, osl, ds, lk, hcd, b, b', hd, hm⟩ := D
  exact ⟨f, _, ds, ⟨fun vs H Q E h => absurd h (no vs H Q E), fun A outer s H args us vs Q E _ _ _ _ h => absurd h (no vs H Q E)⟩, b, b', hd, hm⟩
theorem MOk.mono {CX : CXT} {j : Nat} (G : MOk CX P w K mg base C m ps k sp dvs) (h : k ≤ j) : MOk CX P w K mg base C m ps j sp dvs := by
  obtain ⟨f, fd, ds, F, r⟩ := G
  exact ⟨f, fd, ds, F.mono h, r⟩
end
section
variable {X : Cx} {C : Addr} {m x : Str} {ps : List Str} {k j : Nat} {sp : Sp} {dvs : List V} {p pos apos : Pos} {e o : Expr} {es : List Expr} {ta : TE} {t : TA}
/-- o.m(e, ..), nothing left out -/
theorem pe_mok {pl : Sem Bool} (G : MOk CX0 X.prog X.w X.K X.mg X.base C m ps k sp dvs) (c : Cls X.K C) (hr : Room j X.A) (hk : k ≤ j) (he : PE X o ta) (ha : PA X (e :: es) t)
    (hst : starEach (e :: es) X.env = (false, eval e X.env) :: starEach es X.env := by rfl) (hpl : (backTo pos (starEach es X.env)).any (·.1) = false := by rfl)
    (ht : eval (.Call (.Attribute o m apos) (e :: es) [] pos) X.env = (do
      let ov ← eval o X.env
      standAt apos.atName
      let (f, first) ← holding [ov] (getMethod ov m pl)
      callWith pos f first (backTo pos (starEach (e :: es) X.env)) (backToKw pos (keywordEach [] X.env))) := by rfl) : PE X (.Call (.Attribute o m apos) (e :: es) [] pos) (tMeth C m sp [] E0 ta t) := by
  obtain ⟨f, fd, ds, F, b, b', hd, hm⟩ := G
  exact pe_meth he c hm F (hr.mono hk) b .nil pass0 ha hst hpl ht
variable {R : Value → L2.St → Hp → Prop}
/-- o.m(e, ..), the method may raise -/
theorem pe_mokX {pl : Sem Bool} (G : MOk (CX1 X.prog X.w) X.prog X.w X.K X.mg X.base C m ps k sp dvs) (c : Cls X.K C) (hex : X.ex = []) (hr : Room j X.A) (hk : k ≤ j) (he : PE (X.wish (XS X R)) o ta) (ha : PA (X.wish (XS X R)) (e :: es) t)
    (hst : starEach (e :: es) X.env = (false, eval e X.env) :: starEach es X.env := by rfl) (hpl : (backTo pos (starEach es X.env)).any (·.1) = false := by rfl)
    (ht : eval (.Call (.Attribute o m apos) (e :: es) [] pos) X.env = (do
      let ov ← eval o X.env
      standAt apos.atName
      let (f, first) ← holding [ov] (getMethod ov m pl)
      callWith pos f first (backTo pos (starEach (e :: es) X.env)) (backToKw pos (keywordEach [] X.env))) := by rfl) : PE (X.wish (XS X R)) (.Call (.Attribute o m apos) (e :: es) [] pos) (tMethX C m sp [] R ta t) := by
  obtain ⟨f, fd, ds, F, b, b', hd, hm⟩ := G
  exact pe_methX he c hm F hex (hr.mono hk) b .nil ha hst hpl ht
/-- the same, the last parameters left out -/
theorem pe_mokXD {pl : Sem Bool} (G : MOk (CX1 X.prog X.w) X.prog X.w X.K X.mg X.base C m ps k sp dvs) (c : Cls X.K C) (hex : X.ex = []) (hr : Room j X.A) (hk : k ≤ j) (he : PE (X.wish (XS X R)) o ta) (ha : PA (X.wish (XS X R)) (e :: es) t)
    (hst : starEach (e :: es) X.env = (false, eval e X.env) :: starEach es X.env := by rfl) (hpl : (backTo pos (starEach es X.env)).any (·.1) = false := by rfl)
    (ht : eval (.Call (.Attribute o m apos) (e :: es) [] pos) X.env = (do
      let ov ← eval o X.env
      standAt apos.atName
      let (f, first) ← holding [ov] (getMethod ov m pl)
      callWith pos f first (backTo pos (starEach (e :: es) X.env)) (backToKw pos (keywordEach [] X.env))) := by rfl) : PE (X.wish (XS X R)) (.Call (.Attribute o m apos) (e :: es) [] pos) (tMethX C m sp dvs R ta t) := by
  obtain ⟨f, fd, ds, F, b, b', hd, hm⟩ := G
  exact pe_methX he c hm F hex (hr.mono hk) b' hd ha hst hpl ht
/-- C(e, ..) -/
def MMk (P : Program) (w : World) (K : PySem.W.Frag) (mg : Str → Option Value) (base : Heap) (x : Str) (C : Addr) (ps : List Str) (k : Nat) (sp : Sp) : Prop :=
  ∃ f fd, FnOk P w K mg base CX0 k f fd ps sp ∧ Binds K fd ps [] ∧ Mk K C f ∧ mg x = some (.ref C)
theorem pe_mmk (G : MMk X.prog X.w X.K X.mg X.base x C ps k sp) (hr : Room j X.A) (hk : k < j) (hg : Gl X x) (ha : PA X (e :: es) t) (hdb : (x == ("__debug__" : Str)) = false := by decide)
    (he : starEach (e :: es) X.env = (false, eval e X.env) :: starEach es X.env := by rfl) (hpl : (backTo pos (starEach es X.env)).any (·.1) = false := by rfl) : PE X (.Call (.Name x p) (e :: es) [] pos) (tMake C sp [] E0 t) := by
  obtain ⟨f, fd, F, b, M, hm⟩ := G
  exact pe_make M F (hr.mono hk) hg hm b .nil pass0 ha hdb he hpl
end
end Sh

end
section
set_option Elab.async false
set_option linter.all false
set_option maxRecDepth 100000
set_option maxHeartbeats 4000000
namespace Sh
open PySem PySem.Spec PyProof.Rows L2
theorem hu9 {A : Around} {k : Nat} (hr : Room k A) : A.units + 9 < cLine := by have := hr.un; omega
/-- an own class: its facts, and that no class of it has the names of its attributes -/
structure TC (K : PySem.W.Frag) (C : Addr) (fs : List Str) : Prop where
  cl : Cls K C
  na : ∀ f ∈ fs, NoAttr K C f
section
variable {P : Program} {w : World} {K : PySem.W.Frag} {mg : Str → Option Value} {base : Heap} {C : Addr} {m : Str} {ps : List Str} {k : Nat} {sp : Sp} {dvs : List V}
/-- a method that may raise, where it does not -/
theorem MOk.calm (G : MOk (CX1 P w) P w K mg base C m ps k sp dvs) : MOk CX0 P w K mg base C m ps k (fun vs H Q _ => sp vs H Q E0) dvs := by
  obtain ⟨f, fd, ds, F, r⟩ := G
  refine ⟨f, fd, ds, ⟨fun vs H Q E h => F.len vs H Q _ h, fun A outer s H args us vs Q E hr e0 hb rv hs => codeAny_mono (F.run A outer s H args us vs Q _ hr e0 hb rv hs) fun rs s' z => ?_⟩, r⟩
  match rs, z with
  | .ok (.ret _), z => exact z
  | .error e, z =>
    obtain ⟨_, _, _, _, _, _, _, _, _, _, _, _, no⟩ := z
    exact no
end
section
variable {X : Cx} {C : Addr} {m x : Str} {ps : List Str} {k j : Nat} {sp : Sp} {dvs : List V} {p pos apos : Pos} {e o : Expr} {es : List Expr} {ta : TE} {t : TA}
/-- o.m(e, ..), the last parameters left out -/
theorem pe_mokD {pl : Sem Bool} (G : MOk CX0 X.prog X.w X.K X.mg X.base C m ps k sp dvs) (c : Cls X.K C) (hr : Room j X.A) (hk : k ≤ j) (he : PE X o ta) (ha : PA X (e :: es) t)
    (hst : starEach (e :: es) X.env = (false, eval e X.env) :: starEach es X.env := by rfl) (hpl : (backTo pos (starEach es X.env)).any (·.1) = false := by rfl)
    (ht : eval (.Call (.Attribute o m apos) (e :: es) [] pos) X.env = (do
      let ov ← eval o X.env
      standAt apos.atName
      let (f, first) ← holding [ov] (getMethod ov m pl)
      callWith pos f first (backTo pos (starEach (e :: es) X.env)) (backToKw pos (keywordEach [] X.env))) := by rfl) : PE X (.Call (.Attribute o m apos) (e :: es) [] pos) (tMeth C m sp dvs E0 ta t) := by
  obtain ⟨f, fd, ds, F, b, b', hd, hm⟩ := G
  exact pe_meth he c hm F (hr.mono hk) b' hd pass0 ha hst hpl ht
end
end Sh

end
section
set_option Elab.async false
set_option linter.all false
set_option maxRecDepth 100000
set_option maxHeartbeats 4000000
namespace Sh
open PySem PySem.Spec PyProof.Rows L2
/-! ### worlds that are told: what a term means, whether a form holds -/
abbrev MI := Str → List Int → Int
abbrev MB := Str → List Int → Bool
mutual
def vlW (mI : MI) (th : List Int) : Wd → Int
  | .var n => th.getD n.toNat 0
  | .node _ nm ps => mI nm (vlsW mI th ps)
def vlsW (mI : MI) (th : List Int) : List Wd → List Int
  | [] => []
  | w :: ws => vlW mI th w :: vlsW mI th ws
end
theorem vlsW_map {mI : MI} {th : List Int} : ∀ ws : List Wd, vlsW mI th ws = ws.map (vlW mI th)
  | [] => by rw [vlsW]; rfl
  | w :: ws => by rw [vlsW, vlsW_map ws]; rfl
mutual
def trW (mI : MI) (mB : MB) (many : Nat) : Wd → List Int → Bool
  | .var _, _ => false
  | .node t nm ps, th => match t with
    | .no => false
    | .fn => false
    | .rel => mB nm (vlsW mI th ps)
    | .same => match vlsW mI th ps with
      | [x, y] => decide (x = y)
      | _ => false
    | .cond => !trH mI mB many ps th || trT mI mB many ps th
    | .all => (List.range many).all fun i => trH mI mB many ps ((i : Int) :: th)
def trH (mI : MI) (mB : MB) (many : Nat) : List Wd → List Int → Bool
  | [], _ => false
  | w :: _, th => trW mI mB many w th
def trT (mI : MI) (mB : MB) (many : Nat) : List Wd → List Int → Bool
  | [], _ => false
  | _ :: ws, th => trH mI mB many ws th
end
/-- the key (name, row) -/
def kyF (nm : Str) (row : List Int) : Dt := .tup [.str nm, .tup (row.map Dt.int)]
def wfs (many : Nat) (dm df : Addr) : List (Str × V) := [("size", .int many), ("meanings", .ref dm), ("facts", .ref df)]
/-- a told world, as an object -/
def WAt (w : World) (C : Addr) (H : Hp) (a dm df : Addr) (many n : Nat) (mI : MI) (mB : MB) : Prop :=
  ∃ dx f g, H a = some (.ins C dx (wfs many dm df)) ∧ DMap w H dm n f ∧ DMap w H df n g ∧ dm ≠ df ∧ (∀ nm row, (f (kyF nm row)).getD (.int 0) = .int (mI nm row)) ∧ ∀ nm row, (g (kyF nm row)).getD (.bl false) = .bl (mB nm row)
section
variable [Inn]
theorem DMap.same {w : World} {H H' : Hp} {a : Addr} {n : Nat} {f : Dt → Option V} (h : DMap w H a n f) (s : Same H H') : DMap w H' a n f := by
  obtain ⟨kvs, l, e, r⟩ := id h
  exact h.stay (by rw [e]; exact s.at e) (tk_of s)
theorem WAt.same {w : World} {C : Addr} {H H' : Hp} {a dm df : Addr} {many n : Nat} {mI : MI} {mB : MB} (h : WAt w C H a dm df many n mI mB) (s : Same H H') : WAt w C H' a dm df many n mI mB := by
  obtain ⟨dx, f, g, e, d1, d2, r⟩ := h
  exact ⟨dx, f, g, s.at e, d1.same s, d2.same s, r⟩
end
theorem Rds.ints {H : Hp} : ∀ row : List Int, Rds H (row.map Dt.int) (row.map V.int)
  | [] => by rw [List.map_nil, List.map_nil, Rds]
  | i :: r => by rw [List.map_cons, List.map_cons, Rds]; exact ⟨_, _, rfl, by rw [Rd], Rds.ints r⟩
theorem rd_key {H : Hp} {a b : Addr} {nm : Str} {row : List Int} (ha : H a = some (.tup [.str nm, .ref b])) (hb : H b = some (.tup (row.map V.int))) : Rd H (kyF nm row) (.ref a) := by
  unfold kyF
  rw [Rd]
  refine ⟨a, _, rfl, ha, ?_⟩
  rw [Rds]
  refine ⟨_, _, rfl, by rw [Rd], ?_⟩
  rw [Rds]
  refine ⟨_, _, rfl, ?_, by rw [Rds]⟩
  rw [Rd]
  exact ⟨b, _, rfl, hb, Rds.ints row⟩
theorem ddepL_ints : ∀ row : List Int, ddepL (row.map Dt.int) ≤ 1
  | [] => by rw [List.map_nil, ddepL]; omega
  | i :: r => by rw [List.map_cons, ddepL, ddep]; have := ddepL_ints r; omega
theorem ddep_key {nm : Str} {row : List Int} : ddep (kyF nm row) ≤ 8 := by
  unfold kyF
  rw [ddep, ddepL, ddepL, ddep, ddep, ddepL]
  have := ddepL_ints row
  omega
theorem kyF_inj {nm nm' : Str} {row row' : List Int} (e : kyF nm row = kyF nm' row') : nm = nm' ∧ row = row' := by
  unfold kyF at e
  injection e with e
  injection e with e1 e2
  injection e1 with e1
  injection e2 with e2 _
  injection e2 with e2
  refine ⟨e1, ?_⟩
  clear e1
  induction row generalizing row' with
  | nil => cases row' with
    | nil => rfl
    | cons i r => cases e2
  | cons i r ih => cases row' with
    | nil => cases e2
    | cons j q =>
      rw [List.map_cons, List.map_cons] at e2
      injection e2 with a b
      injection a with a
      rw [a, ih b]
/-- one more telling -/
def tellI (mI : MI) (nm : Str) (row : List Int) (x : Int) : MI := fun n r => if n = nm ∧ r = row then x else mI n r
def tellB (mB : MB) (nm : Str) (row : List Int) (x : Bool) : MB := fun n r => if n = nm ∧ r = row then x else mB n r
end Sh

end
section
set_option Elab.async false
set_option linter.all false
set_option maxRecDepth 100000
set_option maxHeartbeats 4000000
namespace Sh
open PySem PySem.Spec PyProof.Rows L2
/-! ### what the methods of a told world promise -/
def spRefuse (w : World) (K : PySem.W.Frag) (C CN : Addr) : Sp := fun vs H Q E => ∃ (a dm df l : Addr) (many n : Nat) (mI : MI) (mB : MB) (ns : List Int), vs = [.ref a, .ref l] ∧ WAt w C H a dm df many n mI mB ∧ SqL K H l (ns.map V.int) ∧ (∀ i ∈ ns, -1 ≤ i ∧ i ≤ 11) ∧
  ((∀ i ∈ ns, 0 ≤ i ∧ i < many) → Q .non H) ∧ ((∃ i ∈ ns, ¬ (0 ≤ i ∧ i < many)) → E (.ref CN) none H)
def spInit (w : World) (C : Addr) : Sp := fun vs H Q _ => ∃ (a dx : Addr) (many : Nat), vs = [.ref a, .int many] ∧ H a = some (.ins C dx []) ∧
  ∀ dm df H', H dm = none → H df = none → (∀ b, b ≠ a → ∀ o, H b = some o → H' b = some o) → WAt w C H' a dm df many 0 (fun _ _ => 0) (fun _ _ => false) → Q .non H'
section
variable [Inn]
def spThing (w : World) (C : Addr) (n : Nat) : Sp := fun vs H Q _ => ∃ (a dm df l : Addr) (v : V) (t : Wd) (many m : Nat) (mI : MI) (mB : MB) (th : List Int), vs = [.ref a, v, .ref l] ∧ WAt w C H a dm df many m mI mB ∧ Rw H t v ∧ TmW t ∧ dep t ≤ n ∧ H l = some (.lst (th.map V.int)) ∧
  ∀ H', Same H H' → Q (.int (vlW mI th t)) H'
def spRow (w : World) (C : Addr) (n : Nat) : Sp := fun vs H Q _ => ∃ (a dm df l b : Addr) (xs : List V) (ts : List Wd) (many m : Nat) (mI : MI) (mB : MB) (th : List Int), vs = [.ref a, .ref b, .ref l] ∧ WAt w C H a dm df many m mI mB ∧ H b = some (.tup xs) ∧ Rws H ts xs ∧ ts.length ≤ 1000 ∧ (∀ t ∈ ts, TmW t ∧ dep t ≤ n) ∧
  H l = some (.lst (th.map V.int)) ∧ ∀ p H', Same H H' → H' p = some (.tup ((vlsW mI th ts).map V.int)) → Q (.ref p) H'
def spHolds (w : World) (C : Addr) (n : Nat) : Sp := fun vs H Q _ => ∃ (a dm df l : Addr) (v : V) (t : Wd) (many m : Nat) (mI : MI) (mB : MB) (th : List Int), vs = [.ref a, v, .ref l] ∧ WAt w C H a dm df many m mI mB ∧ Rw H t v ∧ FmW t ∧ dep t ≤ n ∧ th.length + n ≤ 5000 ∧ many ≤ 100 ∧ H l = some (.lst (th.map V.int)) ∧
  ∀ H', Same H H' → Q (.bl (trW mI mB many t th)) H'
def spEach (w : World) (C : Addr) (n : Nat) : Sp := fun vs H Q _ => ∃ (a dm df l : Addr) (v : V) (t : Wd) (many m : Nat) (mI : MI) (mB : MB) (th : List Int), vs = [.ref a, v, .ref l] ∧ WAt w C H a dm df many m mI mB ∧ Rw H t v ∧ FmW t ∧ dep t ≤ n ∧ th.length + n + 1 ≤ 5000 ∧ many ≤ 100 ∧ H l = some (.lst (th.map V.int)) ∧
  ∀ H', Same H H' → Q (.bl ((List.range many).all fun i => trW mI mB many t ((i : Int) :: th))) H'
def spValueW (w : World) (C CN : Addr) (n : Nat) : Sp := fun vs H Q E => ∃ (a dm df l : Addr) (v : V) (t : Wd) (many m : Nat) (mI : MI) (mB : MB) (th : List Int), vs = [.ref a, v, .ref l] ∧ WAt w C H a dm df many m mI mB ∧ Rw H t v ∧ TmW t ∧ dep t ≤ n ∧ H l = some (.lst (th.map V.int)) ∧ (∀ i ∈ th, -1 ≤ i ∧ i ≤ 11) ∧
  ((∀ i ∈ th, 0 ≤ i ∧ i < many) → ∀ H', Same H H' → Q (.int (vlW mI th t)) H') ∧ ((∃ i ∈ th, ¬ (0 ≤ i ∧ i < many)) → E (.ref CN) none H)
def spHoldsW (w : World) (C CN : Addr) (n : Nat) : Sp := fun vs H Q E => ∃ (a dm df l : Addr) (v : V) (t : Wd) (many m : Nat) (mI : MI) (mB : MB) (th : List Int), vs = [.ref a, v, .ref l] ∧ WAt w C H a dm df many m mI mB ∧ Rw H t v ∧ FmW t ∧ dep t ≤ n ∧ th.length + n ≤ 5000 ∧ many ≤ 100 ∧ H l = some (.lst (th.map V.int)) ∧ (∀ i ∈ th, -1 ≤ i ∧ i ≤ 11) ∧
  ((∀ i ∈ th, 0 ≤ i ∧ i < many) → ∀ H', Same H H' → Q (.bl (trW mI mB many t th)) H') ∧ ((∃ i ∈ th, ¬ (0 ≤ i ∧ i < many)) → E (.ref CN) none H)
/-- all stays, but for the dict at d -/
def But (H H' : Hp) (d : Addr) : Prop := ∀ b o, b ≠ d → H b = some o → Fx o = true → H' b = some o
def spMeans (w : World) (K : PySem.W.Frag) (C CN : Addr) : Sp := fun vs H Q E => ∃ (a dm df l : Addr) (nm : Str) (x : Int) (many n : Nat) (mI : MI) (mB : MB) (row : List Int), vs = [.ref a, .str nm, .ref l, .int x] ∧ WAt w C H a dm df many n mI mB ∧ n < 1000 ∧ H l = some (.lst (row.map V.int)) ∧ row.length ≤ 1000 ∧
  (∀ i ∈ x :: row, -1 ≤ i ∧ i ≤ 11) ∧ ((∀ i ∈ x :: row, 0 ≤ i ∧ i < many) → ∀ H', But H H' dm → WAt w C H' a dm df many (n + 1) (tellI mI nm row x) mB → Q .non H') ∧ ((∃ i ∈ x :: row, ¬ (0 ≤ i ∧ i < many)) → ∀ H', Same H H' → E (.ref CN) none H')
def spSo (w : World) (K : PySem.W.Frag) (C CN : Addr) : Sp := fun vs H Q E => ∃ (a dm df l : Addr) (nm : Str) (x : Bool) (many n : Nat) (mI : MI) (mB : MB) (row : List Int), vs = [.ref a, .str nm, .ref l, .bl x] ∧ WAt w C H a dm df many n mI mB ∧ n < 1000 ∧ H l = some (.lst (row.map V.int)) ∧ row.length ≤ 1000 ∧
  (∀ i ∈ row, -1 ≤ i ∧ i ≤ 11) ∧ ((∀ i ∈ row, 0 ≤ i ∧ i < many) → ∀ H', But H H' df → WAt w C H' a dm df many (n + 1) mI (tellB mB nm row x) → Q .non H') ∧ ((∃ i ∈ row, ¬ (0 ≤ i ∧ i < many)) → ∀ H', Same H H' → E (.ref CN) none H')
/-- a list of what some parts mean, as it grows -/
def LcI (H1 : Hp) (ps : List Wd) (g : Wd → Int) (i : Nat) (L : Addr) (H2 : Hp) : Prop := H1 L = none ∧ Same H1 H2 ∧ H2 L = some (.lst (((ps.take i).map g).map V.int))
theorem lci_0 {H1 : Hp} {ps : List Wd} {g : Wd → Int} (L : Addr) (hL : H1 L = none) : LcI H1 ps g 0 L (upd H1 L (.lst [])) := ⟨hL, same_new hL _, by rw [List.take_zero]; exact upd_same⟩
theorem lci_s {H1 H2 H3 : Hp} {ps : List Wd} {g : Wd → Int} {i : Nat} {L : Addr} {u : Wd} {R : V → Hp → Prop} (hP : LcI H1 ps g i L H2) (hu : ps[i]? = some u) (hk : ps.length ≤ 1000) (s3 : Same H2 H3) (k : ∀ v H4, LcI H1 ps g (i + 1) L H4 → R v H4) : rAppend (.ref L) [.int (g u)] H3 R := by
  obtain ⟨hL, s2, hz⟩ := hP
  have hz3 := s3.at hz
  refine ⟨L, _, _, rfl, rfl, hz3, ?_, k _ _ ⟨hL, same_own (s2.trans s3) hL hz3 _, ?_⟩⟩
  · rw [sizeLine_eq, List.length_map, List.length_map, List.length_take]; omega
  · rw [List.take_succ, hu, Option.toList, List.map_append, List.map_append]
    exact upd_same
theorem But.of {H H1 H' : Hp} {d : Addr} (s : Same H H1) (h : ∀ b, b ≠ d → H' b = H1 b) : But H H' d := fun b o n e f => by rw [h b n]; exact s.fix b o e f
theorem tell_key {nm nm' : Str} {row row' : List Int} {f : Dt → Option V} {x d : V} : ((fun j => if j = kyF nm row then some x else f j) (kyF nm' row')).getD d = if nm' = nm ∧ row' = row then x else (f (kyF nm' row')).getD d := by
  by_cases e : nm' = nm ∧ row' = row
  · obtain ⟨rfl, rfl⟩ := e
    simp
  · have : ¬ kyF nm' row' = kyF nm row := fun q => e (kyF_inj q)
    simp [e, this]
theorem WAt.tellI {w : World} {C : Addr} {H : Hp} {a dm df : Addr} {ob : HO} {many n : Nat} {mI : MI} {mB : MB} {nm : Str} {row : List Int} {x : Int} {dx : Addr} {f g : Dt → Option V} (ha : H a = some (.ins C dx (wfs many dm df))) (hf : DMap w H df n g) (hm : DMap w H dm n f) (hne : dm ≠ df) (hI : ∀ nm row, (f (kyF nm row)).getD (.int 0) = .int (mI nm row)) (hB : ∀ nm row, (g (kyF nm row)).getD (.bl false) = .bl (mB nm row))
    (D : DMap w (upd H dm ob) dm (n + 1) fun j => if j = kyF nm row then some (.int x) else f j) (tk : Tk H (upd H dm ob)) : WAt w C (upd H dm ob) a dm df many (n + 1) (Sh.tellI mI nm row x) mB := by
  have n1 : a ≠ dm := by
    obtain ⟨kvs, _, e, _⟩ := hm
    exact ne_of ha e (fun z => nomatch z)
  refine ⟨dx, _, g, (by rw [upd_ne n1]; exact ha), D, (hf.stay (upd_ne hne.symm) tk).wide (by omega), hne, fun nm' row' => ?_, hB⟩
  rw [tell_key, hI]
  unfold Sh.tellI
  split <;> rfl
theorem WAt.tellB {w : World} {C : Addr} {H : Hp} {a dm df : Addr} {ob : HO} {many n : Nat} {mI : MI} {mB : MB} {nm : Str} {row : List Int} {x : Bool} {dx : Addr} {f g : Dt → Option V} (ha : H a = some (.ins C dx (wfs many dm df))) (hf : DMap w H df n g) (hm : DMap w H dm n f) (hne : dm ≠ df) (hI : ∀ nm row, (f (kyF nm row)).getD (.int 0) = .int (mI nm row)) (hB : ∀ nm row, (g (kyF nm row)).getD (.bl false) = .bl (mB nm row))
    (D : DMap w (upd H df ob) df (n + 1) fun j => if j = kyF nm row then some (.bl x) else g j) (tk : Tk H (upd H df ob)) : WAt w C (upd H df ob) a dm df many (n + 1) mI (Sh.tellB mB nm row x) := by
  have n1 : a ≠ df := by
    obtain ⟨kvs, _, e, _⟩ := hf
    exact ne_of ha e (fun z => nomatch z)
  refine ⟨dx, f, _, (by rw [upd_ne n1]; exact ha), (hm.stay (upd_ne hne) tk).wide (by omega), D, hne, hI, fun nm' row' => ?_⟩
  rw [tell_key, hB]
  unfold Sh.tellB
  split <;> rfl
end
theorem call_list_ofK {X : Cx} {K : PySem.W.Frag} (hK : X.K = K) : CallR X (.type "list") (fun xs H Q => ∃ p ys, xs = [V.ref p] ∧ (SqL K H p ys ∨ SqT K H p ys) ∧ ∀ l : Addr, H l = none → Q (V.ref l) (upd H l (HO.lst ys))) := by
  subst hK
  exact call_list_of
/-- the key (sign, name, row) of the law's own table -/
def kyM (sg nm : Str) (row : List Int) : Dt := .tup [.str sg, .str nm, .tup (row.map Dt.int)]
theorem rd_keyM {H : Hp} {a b : Addr} {sg nm : Str} {row : List Int} (ha : H a = some (.tup [.str sg, .str nm, .ref b])) (hb : H b = some (.tup (row.map V.int))) : Rd H (kyM sg nm row) (.ref a) := by
  unfold kyM
  rw [Rd]
  refine ⟨a, _, rfl, ha, ?_⟩
  rw [Rds]
  refine ⟨_, _, rfl, by rw [Rd], ?_⟩
  rw [Rds]
  refine ⟨_, _, rfl, by rw [Rd], ?_⟩
  rw [Rds]
  refine ⟨_, _, rfl, ?_, by rw [Rds]⟩
  rw [Rd]
  exact ⟨b, _, rfl, hb, Rds.ints row⟩
theorem ddep_keyM {sg nm : Str} {row : List Int} : ddep (kyM sg nm row) ≤ 8 := by
  unfold kyM
  rw [ddep, ddepL, ddepL, ddepL, ddep, ddep, ddep, ddepL]
  have := ddepL_ints row
  omega
theorem kyM_inj {sg sg' nm nm' : Str} {row row' : List Int} (e : kyM sg nm row = kyM sg' nm' row') : sg = sg' ∧ nm = nm' ∧ row = row' := by
  unfold kyM at e
  injection e with e
  injection e with e1 e2
  injection e1 with e1
  have := kyF_inj (nm := nm) (nm' := nm') (row := row) (row' := row') (by unfold kyF; rw [e2])
  exact ⟨e1, this⟩
def bi1 (b : Bool) : Int := if b then 1 else 0
/-- what was told, as the law keeps it -/
def MAt (w : World) (H : Hp) (d : Addr) (n : Nat) (mI : MI) (mB : MB) : Prop := ∃ f, DMap w H d n f ∧ (∀ nm row, (f (kyM "fun" nm row)).getD (.int 0) = .int (mI nm row)) ∧ ∀ nm row, (f (kyM "rel" nm row)).getD (.int 0) = .int (bi1 (mB nm row))
theorem dec_bi1 (b : Bool) : decide (bi1 b = 1) = b := by cases b <;> rfl
theorem tell_keyM {sg nm sg' nm' : Str} {row row' : List Int} {f : Dt → Option V} {x d : V} : ((fun j => if j = kyM sg nm row then some x else f j) (kyM sg' nm' row')).getD d = if sg' = sg ∧ nm' = nm ∧ row' = row then x else (f (kyM sg' nm' row')).getD d := by
  by_cases e : sg' = sg ∧ nm' = nm ∧ row' = row
  · obtain ⟨rfl, rfl, rfl⟩ := e
    simp
  · have : ¬ kyM sg' nm' row' = kyM sg nm row := fun q => e (kyM_inj q)
    simp [e, this]
theorem fun_rel : ¬ ("fun" : Str) = "rel" := by decide
theorem MAt.tellI {w : World} {H : Hp} {d : Addr} {ob : HO} {n : Nat} {mI : MI} {mB : MB} {f : Dt → Option V} {nm : Str} {row : List Int} {x : Int} (hI : ∀ nm row, (f (kyM "fun" nm row)).getD (.int 0) = .int (mI nm row)) (hB : ∀ nm row, (f (kyM "rel" nm row)).getD (.int 0) = .int (bi1 (mB nm row)))
    (D : DMap w (upd H d ob) d (n + 1) fun j => if j = kyM "fun" nm row then some (.int x) else f j) : MAt w (upd H d ob) d (n + 1) (Sh.tellI mI nm row x) mB := by
  refine ⟨_, D, fun nm' row' => ?_, fun nm' row' => ?_⟩
  · rw [tell_keyM, hI]
    unfold Sh.tellI
    by_cases e : nm' = nm ∧ row' = row
    · rw [if_pos e, if_pos ⟨rfl, e⟩]
    · rw [if_neg e, if_neg fun z => e z.2]
  · rw [tell_keyM, hB, if_neg fun z => fun_rel z.1.symm]
theorem MAt.tellB {w : World} {H : Hp} {d : Addr} {ob : HO} {n : Nat} {mI : MI} {mB : MB} {f : Dt → Option V} {nm : Str} {row : List Int} {x : Int} {b : Bool} (hx : x = bi1 b) (hI : ∀ nm row, (f (kyM "fun" nm row)).getD (.int 0) = .int (mI nm row)) (hB : ∀ nm row, (f (kyM "rel" nm row)).getD (.int 0) = .int (bi1 (mB nm row)))
    (D : DMap w (upd H d ob) d (n + 1) fun j => if j = kyM "rel" nm row then some (.int x) else f j) : MAt w (upd H d ob) d (n + 1) mI (Sh.tellB mB nm row b) := by
  refine ⟨_, D, fun nm' row' => ?_, fun nm' row' => ?_⟩
  · rw [tell_keyM, hI, if_neg fun z => fun_rel z.1]
  · rw [tell_keyM, hB]
    unfold Sh.tellB
    by_cases e : nm' = nm ∧ row' = row
    · rw [if_pos e, if_pos ⟨rfl, e⟩, hx]
    · rw [if_neg e, if_neg fun z => e z.2]
section
variable [Inn]
theorem MAt.same {w : World} {H H' : Hp} {d : Addr} {n : Nat} {mI : MI} {mB : MB} (h : MAt w H d n mI mB) (s : Same H H') : MAt w H' d n mI mB := by
  obtain ⟨f, D, r⟩ := h
  exact ⟨f, D.same s, r⟩
def spLV (w : World) (n : Nat) : Sp := fun vs H Q _ => ∃ (d l : Addr) (v : V) (t : Wd) (m : Nat) (mI : MI) (mB : MB) (th : List Int), vs = [v, .ref l, .ref d] ∧ MAt w H d m mI mB ∧ Rw H t v ∧ TmW t ∧ dep t ≤ n ∧ H l = some (.lst (th.map V.int)) ∧ ∀ H', Same H H' → Q (.int (vlW mI th t)) H'
def spLT (w : World) (n : Nat) : Sp := fun vs H Q _ => ∃ (d l : Addr) (v : V) (t : Wd) (many m : Nat) (mI : MI) (mB : MB) (th : List Int), vs = [v, .ref l, .ref d, .int many] ∧ MAt w H d m mI mB ∧ Rw H t v ∧ FmW t ∧ dep t ≤ n ∧ th.length + n ≤ 5000 ∧ many ≤ 100 ∧ H l = some (.lst (th.map V.int)) ∧
  ∀ H', Same H H' → Q (.bl (trW mI mB many t th)) H'
end
section
variable [Inn]
/-- a list of ints, made one by one -/
def LcR (H1 : Hp) (g : Nat → Int) (i : Nat) (L : Addr) (H2 : Hp) : Prop := H1 L = none ∧ Same H1 H2 ∧ H2 L = some (.lst (((List.range i).map g).map V.int))
theorem lcr_0 {H1 : Hp} {g : Nat → Int} (L : Addr) (hL : H1 L = none) : LcR H1 g 0 L (upd H1 L (.lst [])) := ⟨hL, same_new hL _, upd_same⟩
theorem lcr_s {H1 H2 H3 : Hp} {g : Nat → Int} {i : Nat} {L : Addr} {x : Int} (hP : LcR H1 g i L H2) (hx : x = g i) (hk : i < 1000) (s3 : Same H2 H3) : rAppend (.ref L) [.int x] H3 fun _ H4 => LcR H1 g (i + 1) L H4 := by
  obtain ⟨hL, s2, hz⟩ := hP
  have hz3 := s3.at hz
  refine ⟨L, _, _, rfl, rfl, hz3, ?_, hL, same_own (s2.trans s3) hL hz3 _, ?_⟩
  · rw [sizeLine_eq, List.length_map, List.length_map, List.length_range]; omega
  · rw [List.range_succ, List.map_append, List.map_append, hx]
    exact upd_same
def But3 (H H' : Hp) (ds : List Addr) : Prop := ∀ b o, b ∉ ds → H b = some o → Fx o = true → H' b = some o
def spTold (w : World) (C : Addr) : Sp := fun vs H Q _ => ∃ (a dm df l d : Addr) (cell : Int) (many m : Nat) (mI : MI) (mB : MB) (xs : List V), vs = [.ref a, .ref d, .int cell, .ref l, .int many] ∧ WAt w C H a dm df many m mI mB ∧ MAt w H d m mI mB ∧ d ≠ dm ∧ d ≠ df ∧ m < 900 ∧ H l = some (.lst xs) ∧ (∀ i : Int, ∃ x : Str, atI xs (i % 3) = some (.str x)) ∧ 0 < many ∧ many ≤ 4 ∧ 0 ≤ cell ∧
  ∀ H' mI' mB', But3 H H' [d, dm, df] → WAt w C H' a dm df many (m + 1) mI' mB' → MAt w H' d (m + 1) mI' mB' → Q (.bl true) H'
theorem DMap.at {w : World} {H : Hp} {a : Addr} {n : Nat} {f : Dt → Option V} (h : DMap w H a n f) : ∃ φ, H a = some (.ext φ) := by
  obtain ⟨kvs, _, e, _⟩ := h
  exact ⟨_, e⟩
theorem DMap.but {w : World} {H H' : Hp} {a d : Addr} {n : Nat} {f : Dt → Option V} (h : DMap w H a n f) (k : But H H' d) (n1 : a ≠ d) (tk : Tk H H') : DMap w H' a n f := by
  obtain ⟨φ, e⟩ := h.at
  exact h.stay (by rw [e]; exact k a _ n1 e rfl) tk
theorem tk_but {H H' : Hp} {d : Addr} (k : But H H' d) (no : ∀ xs, H d ≠ some (.tup xs)) : Tk H H' := fun b xs e => k b _ (fun z => no xs (by rw [← z]; exact e)) e rfl
theorem WAt.but {w : World} {C : Addr} {H H' : Hp} {a dm df d : Addr} {many n : Nat} {mI : MI} {mB : MB} (h : WAt w C H a dm df many n mI mB) (k : But H H' d) (n1 : a ≠ d) (n2 : dm ≠ d) (n3 : df ≠ d) (tk : Tk H H') : WAt w C H' a dm df many n mI mB := by
  obtain ⟨dx, f, g, e, d1, d2, r⟩ := h
  exact ⟨dx, f, g, k a _ n1 e rfl, d1.but k n2 tk, d2.but k n3 tk, r⟩
theorem MAt.but {w : World} {H H' : Hp} {a d : Addr} {n : Nat} {mI : MI} {mB : MB} (h : MAt w H a n mI mB) (k : But H H' d) (n1 : a ≠ d) (tk : Tk H H') : MAt w H' a n mI mB := by
  obtain ⟨f, D, r⟩ := h
  exact ⟨f, D.but k n1 tk, r⟩
theorem WAt.wide {w : World} {C : Addr} {H : Hp} {a dm df : Addr} {many n m : Nat} {mI : MI} {mB : MB} (h : WAt w C H a dm df many n mI mB) (l : n ≤ m) : WAt w C H a dm df many m mI mB := by
  obtain ⟨dx, f, g, e, d1, d2, r⟩ := h
  exact ⟨dx, f, g, e, d1.wide l, d2.wide l, r⟩
theorem MAt.wide {w : World} {H : Hp} {a : Addr} {n m : Nat} {mI : MI} {mB : MB} (h : MAt w H a n mI mB) (l : n ≤ m) : MAt w H a m mI mB := by
  obtain ⟨f, D, r⟩ := h
  exact ⟨f, D.wide l, r⟩
theorem But.upd {H : Hp} {d : Addr} (o : HO) : But H (L2.upd H d o) d := fun b u n e _ => by rw [upd_ne n]; exact e
theorem bad_at {many : Nat} (h : many ≤ 4) (k : Int) : ∃ b : Int, atI [V.int many, V.int (-1), V.int (many + 7)] (k % 3) = some (.int b) ∧ -1 ≤ b ∧ b ≤ 11 ∧ ¬ (0 ≤ b ∧ b < many) := by
  have h0 := Int.emod_nonneg k (show (3 : Int) ≠ 0 by decide)
  have h1 := Int.emod_lt_of_pos k (show (0 : Int) < 3 by decide)
  have h : k % 3 = 0 ∨ k % 3 = 1 ∨ k % 3 = 2 := by omega
  rcases h with e | e | e <;> rw [e]
  · exact ⟨many, at0, by omega, by omega, by omega⟩
  · exact ⟨-1, at1, by omega, by omega, by omega⟩
  · exact ⟨many + 7, at2, by omega, by omega, by omega⟩
end
end Sh

end
section
set_option Elab.async false
set_option linter.all false
set_option maxRecDepth 100000
set_option maxHeartbeats 4000000
namespace Sh
open PySem PySem.Spec PyProof.Rows L2
/-! ### words whose numbers are changed stay terms and forms -/
section
variable {f : Int → Int} (hf : ∀ k, 0 ≤ k → 0 ≤ f k)
mutual
theorem tmw_chg (hf : ∀ k, 0 ≤ k → 0 ≤ f k) : ∀ (w : Wd) (d : Int), TmW w → TmW (chg (fun k _ => .var (f k)) w d)
  | .var n, d, h => by rw [chg, TmW]; rw [TmW] at h; exact hf n h
  | .node t nm ps, d, h => by
    rw [TmW] at h
    rw [chg, TmW]
    refine ⟨h.1, ?_, tmwL_chg hf ps _ h.2.2⟩
    rw [chgL_map, List.length_map]; exact h.2.1
theorem tmwL_chg (hf : ∀ k, 0 ≤ k → 0 ≤ f k) : ∀ (ws : List Wd) (d : Int), TmWL ws → TmWL (chgL (fun k _ => .var (f k)) ws d)
  | [], d, h => by rw [chgL, TmWL]; exact True.intro
  | w :: ws, d, h => by rw [TmWL] at h; rw [chgL, TmWL]; exact ⟨tmw_chg hf w d h.1, tmwL_chg hf ws d h.2⟩
end
mutual
theorem fmw_chg (hf : ∀ k, 0 ≤ k → 0 ≤ f k) : ∀ (w : Wd) (d : Int), FmW w → FmW (chg (fun k _ => .var (f k)) w d)
  | .var n, d, h => by simp only [FmW] at h
  | .node t nm ps, d, h => by
    rw [chg]
    have hl : ∀ d, (chgL (fun k _ => .var (f k)) ps d).length = ps.length := fun d => by rw [chgL_map, List.length_map]
    cases t with
    | no => simp only [FmW] at h ⊢; subst h; rw [chgL]
    | fn => simp only [FmW] at h
    | rel => simp only [FmW] at h ⊢; rw [hl]; exact ⟨h.1, tmwL_chg hf ps _ h.2⟩
    | same => simp only [FmW] at h ⊢; rw [hl]; exact ⟨h.1, tmwL_chg hf ps _ h.2⟩
    | cond => simp only [FmW] at h ⊢; rw [hl]; exact ⟨h.1, fmwL_chg hf ps _ h.2⟩
    | all => simp only [FmW] at h ⊢; rw [hl]; exact ⟨h.1, fmwL_chg hf ps _ h.2⟩
theorem fmwL_chg (hf : ∀ k, 0 ≤ k → 0 ≤ f k) : ∀ (ws : List Wd) (d : Int), FmWL ws → FmWL (chgL (fun k _ => .var (f k)) ws d)
  | [], d, h => by rw [chgL, FmWL]; exact True.intro
  | w :: ws, d, h => by rw [FmWL] at h; rw [chgL, FmWL]; exact ⟨fmw_chg hf w d h.1, fmwL_chg hf ws d h.2⟩
end
end
end Sh
namespace Sh
open PySem PySem.Spec PyProof.Rows L2
section
variable [Inn]
theorem SqL.but3 {K : PySem.W.Frag} {H H' : Hp} {a : Addr} {xs : List V} {ds : List Addr} (h : SqL K H a xs) (k : But3 H H' ds) (no : ∀ d ∈ ds, ∃ φ, H d = some (.ext φ)) : SqL K H' a xs := by
  have ne : ∀ o, H a = some o → (∀ φ, o ≠ .ext φ) → a ∉ ds := fun o e n m => by
    obtain ⟨φ, z⟩ := no a m
    rw [e] at z; cases z
    exact n φ rfl
  rcases h with (h | ⟨o, h⟩) | h
  · exact .inl (.inl (k a _ (ne _ h fun φ z => nomatch z) h rfl))
  · exact .inl (.inr ⟨o, k a _ (ne _ h fun φ z => nomatch z) h rfl⟩)
  · exact .inr h
theorem But3.at {H H' : Hp} {a : Addr} {o : HO} {ds : List Addr} (k : But3 H H' ds) (no : ∀ d ∈ ds, ∃ φ, H d = some (.ext φ)) (h : H a = some o) (n : ∀ φ, o ≠ .ext φ) (f : Fx o = true := by rfl) : H' a = some o := by
  refine k a o (fun m => ?_) h f
  obtain ⟨φ, z⟩ := no a m
  rw [h] at z; cases z
  exact n φ rfl
theorem But3.tk {H H' : Hp} {ds : List Addr} (k : But3 H H' ds) (no : ∀ d ∈ ds, ∃ φ, H d = some (.ext φ)) : Tk H H' := fun b xs e => k.at no e (fun φ z => nomatch z)
theorem But3.trans {H H1 H2 : Hp} {ds : List Addr} (k : But3 H H1 ds) (k' : But3 H1 H2 ds) : But3 H H2 ds := fun b o n e f => k' b o n (k b o n e f) f
theorem But3.of {H H' : Hp} {ds : List Addr} (s : Same H H') : But3 H H' ds := fun b o _ e f => s.fix b o e f
theorem made {H H' : Hp} {C x dx : Addr} (nx : H x = none) (ndx : H dx = none) (k : ∀ b, b ≠ x → ∀ o, upd (upd H dx (.own x)) x (.ins C dx []) b = some o → H' b = some o) : Same H H' := same_of fun b o e =>
  k b (ne_of_none e nx) o (by rw [upd_ne (ne_of_none e nx), upd_ne (ne_of_none e ndx)]; exact e)
theorem no3 {w : World} {C : Addr} {H : Hp} {a dm df d : Addr} {many n m : Nat} {mI mI' : MI} {mB mB' : MB} (W : WAt w C H a dm df many n mI mB) (M : MAt w H d m mI' mB') : ∀ b ∈ [d, dm, df], ∃ φ, H b = some (.ext φ) := by
  obtain ⟨dx, f, g, e, d1, d2, _⟩ := W
  obtain ⟨f', d3, _⟩ := M
  intro b hb
  simp only [List.mem_cons, List.not_mem_nil, or_false] at hb
  rcases hb with rfl | rfl | rfl
  · exact d3.at
  · exact d1.at
  · exact d2.at
end
end Sh
namespace Sh
open PySem PySem.Spec PyProof.Rows L2
theorem cut_ints {th : List Int} {lo hi : Option Int} : ∃ th' : List Int, cutV (th.map V.int) lo hi = th'.map V.int ∧ (∀ i ∈ th', i ∈ th) ∧ th'.length ≤ th.length := by
  refine ⟨(cutV (th.map V.int) lo hi).map fun v => match v with | .int i => i | _ => 0, ?_, fun i hi => ?_, ?_⟩
  · rw [List.map_map]
    have id1 : ∀ l : List V, (∀ v ∈ l, ∃ i, v = V.int i) → l = l.map (V.int ∘ fun v => match v with | .int i => i | _ => 0) := by
      intro l
      induction l with
      | nil => intro _; rfl
      | cons v r ih =>
        intro h
        obtain ⟨i, rfl⟩ := h v (by simp)
        rw [List.map_cons, ← ih fun u hu => h u (by simp [hu])]
        rfl
    refine id1 _ fun v hv => ?_
    obtain ⟨i, _, rfl⟩ := List.mem_map.mp (mem_cutV hv)
    exact ⟨i, rfl⟩
  · obtain ⟨v, hv, rfl⟩ := List.mem_map.mp hi
    obtain ⟨j, hj, rfl⟩ := List.mem_map.mp (mem_cutV hv)
    exact hj
  · rw [List.length_map]
    have := len_cutV (xs := th.map V.int) (lo := lo) (hi := hi)
    rwa [List.length_map] at this
section
variable [Inn]
theorem WAt.but3 {w : World} {C : Addr} {H H' : Hp} {a dm df : Addr} {ds : List Addr} {many n : Nat} {mI : MI} {mB : MB} (h : WAt w C H a dm df many n mI mB) (k : But3 H H' ds) (no : ∀ d ∈ ds, ∃ φ, H d = some (.ext φ)) (n1 : dm ∉ ds) (n2 : df ∉ ds) : WAt w C H' a dm df many n mI mB := by
  obtain ⟨dx, f, g, e, d1, d2, r⟩ := h
  obtain ⟨φ, e1⟩ := d1.at
  obtain ⟨ψ, e2⟩ := d2.at
  exact ⟨dx, f, g, k.at no e (fun φ z => nomatch z), d1.stay (by rw [e1]; exact k _ _ n1 e1 rfl) (k.tk no), d2.stay (by rw [e2]; exact k _ _ n2 e2 rfl) (k.tk no), r⟩
theorem WAt.dicts {w : World} {C : Addr} {H : Hp} {a dm df : Addr} {many n : Nat} {mI : MI} {mB : MB} (h : WAt w C H a dm df many n mI mB) : (∃ φ, H dm = some (.ext φ)) ∧ ∃ φ, H df = some (.ext φ) := by
  obtain ⟨dx, f, g, e, d1, d2, r⟩ := h
  exact ⟨d1.at, d2.at⟩
end
end Sh

end
set_option maxHeartbeats 4000000
namespace Sh
open PySem PySem.Spec PyProof.Rows L2
def top (i : Nat) : Stmt := PySem.Challenge.pw_surehall_k07_worlds.main.body.getD i (.Pass ⟨0, 0, 0, 0⟩)
abbrev s_World___init__ : Stmt := mtd (top 8) 0
theorem sc_World___init__ : FnScope ["self", "things"] ["self", "things"] (defScope s_World___init__) := ⟨rfl, rfl, rfl, by decide +kernel, rfl, by decide +kernel, by decide +kernel⟩
abbrev s_World_refuse_strangers : Stmt := mtd (top 8) 1
theorem sc_World_refuse_strangers : FnScope ["self", "things", "thing"] ["self", "things"] (defScope s_World_refuse_strangers) := ⟨rfl, rfl, rfl, by decide +kernel, rfl, by decide +kernel, by decide +kernel⟩
abbrev s_World_means : Stmt := mtd (top 8) 2
theorem sc_World_means : FnScope ["self", "name", "parts", "thing"] ["self", "name", "parts", "thing"] (defScope s_World_means) := ⟨rfl, rfl, rfl, by decide +kernel, rfl, by decide +kernel, by decide +kernel⟩
abbrev s_World_so : Stmt := mtd (top 8) 3
theorem sc_World_so : FnScope ["self", "name", "parts", "answer"] ["self", "name", "parts", "answer"] (defScope s_World_so) := ⟨rfl, rfl, rfl, by decide +kernel, rfl, by decide +kernel, by decide +kernel⟩
abbrev s_World_value : Stmt := mtd (top 8) 4
theorem sc_World_value : FnScope ["self", "term", "things"] ["self", "term", "things"] (defScope s_World_value) := ⟨rfl, rfl, rfl, by decide +kernel, rfl, by decide +kernel, by decide +kernel⟩
abbrev s_World_holds : Stmt := mtd (top 8) 5
theorem sc_World_holds : FnScope ["self", "form", "things"] ["self", "form", "things"] (defScope s_World_holds) := ⟨rfl, rfl, rfl, by decide +kernel, rfl, by decide +kernel, by decide +kernel⟩
abbrev s_World_thing_of : Stmt := mtd (top 8) 6
theorem sc_World_thing_of : FnScope ["self", "term", "things"] ["self", "term", "things"] (defScope s_World_thing_of) := ⟨rfl, rfl, rfl, by decide +kernel, rfl, by decide +kernel, by decide +kernel⟩
abbrev s_World_row_of : Stmt := mtd (top 8) 7
theorem sc_World_row_of : FnScope ["self", "terms", "things", "row", "term"] ["self", "terms", "things"] (defScope s_World_row_of) := ⟨rfl, rfl, rfl, by decide +kernel, rfl, by decide +kernel, by decide +kernel⟩
abbrev s_World_holds_by : Stmt := mtd (top 8) 8
theorem sc_World_holds_by : FnScope ["self", "form", "things", "kind"] ["self", "form", "things"] (defScope s_World_holds_by) := ⟨rfl, rfl, rfl, by decide +kernel, rfl, by decide +kernel, by decide +kernel⟩
abbrev s_World_holds_of_each : Stmt := mtd (top 8) 9
theorem sc_World_holds_of_each : FnScope ["self", "form", "things", "thing"] ["self", "form", "things"] (defScope s_World_holds_of_each) := ⟨rfl, rfl, rfl, by decide +kernel, rfl, by decide +kernel, by decide +kernel⟩
abbrev s_law_cell_at : Stmt := top 10
theorem sc_law_cell_at : FnScope ["script", "k"] ["script", "k"] (defScope s_law_cell_at) := ⟨rfl, rfl, rfl, by decide +kernel, rfl, by decide +kernel, by decide +kernel⟩
abbrev s_law_next : Stmt := top 11
theorem sc_law_next : FnScope ["seed"] ["seed"] (defScope s_law_next) := ⟨rfl, rfl, rfl, by decide +kernel, rfl, by decide +kernel, by decide +kernel⟩
abbrev s_law_part : Stmt := top 12
theorem sc_law_part : FnScope ["seed", "k"] ["seed", "k"] (defScope s_law_part) := ⟨rfl, rfl, rfl, by decide +kernel, rfl, by decide +kernel, by decide +kernel⟩
abbrev s_law_name_by : Stmt := top 13
theorem sc_law_name_by : FnScope ["cell", "seed", "name", "k"] ["cell"] (defScope s_law_name_by) := ⟨rfl, rfl, rfl, by decide +kernel, rfl, by decide +kernel, by decide +kernel⟩
abbrev s_law_names_by : Stmt := top 14
theorem sc_law_names_by : FnScope ["cell"] ["cell"] (defScope s_law_names_by) := ⟨rfl, rfl, rfl, by decide +kernel, rfl, by decide +kernel, by decide +kernel⟩
abbrev s_law_var_by : Stmt := top 15
theorem sc_law_var_by : FnScope ["seed"] ["seed"] (defScope s_law_var_by) := ⟨rfl, rfl, rfl, by decide +kernel, rfl, by decide +kernel, by decide +kernel⟩
abbrev s_law_term_by : Stmt := top 16
theorem sc_law_term_by : FnScope ["seed", "deep", "names", "parts", "k"] ["seed", "deep", "names"] (defScope s_law_term_by) := ⟨rfl, rfl, rfl, by decide +kernel, rfl, by decide +kernel, by decide +kernel⟩
abbrev s_law_form_by : Stmt := top 17
theorem sc_law_form_by : FnScope ["seed", "deep", "names", "way", "first", "left", "parts", "k"] ["seed", "deep", "names"] (defScope s_law_form_by) := ⟨rfl, rfl, rfl, by decide +kernel, rfl, by decide +kernel, by decide +kernel⟩
abbrev s_law_whole : Stmt := top 18
theorem sc_law_whole : FnScope ["found", "due"] ["found", "due"] (defScope s_law_whole) := ⟨rfl, rfl, rfl, by decide +kernel, rfl, by decide +kernel, by decide +kernel⟩
abbrev s_law_value : Stmt := top 19
theorem sc_law_value : FnScope ["term", "things", "meant", "row"] ["term", "things", "meant"] (defScope s_law_value) := ⟨rfl, rfl, rfl, by decide +kernel, rfl, by decide +kernel, by decide +kernel⟩
abbrev s_law_true : Stmt := top 20
theorem sc_law_true : FnScope ["form", "things", "meant", "many", "row", "thing"] ["form", "things", "meant", "many"] (defScope s_law_true) := ⟨rfl, rfl, rfl, by decide +kernel, rfl, by decide +kernel, by decide +kernel⟩
abbrev s_law_is_no_thing : Stmt := top 21
theorem sc_law_is_no_thing : FnScope ["e", "other"] ["e"] (defScope s_law_is_no_thing) := ⟨rfl, rfl, rfl, by decide +kernel, rfl, by decide +kernel, by decide +kernel⟩
abbrev s_law_spread : Stmt := top 22
theorem sc_law_spread : FnScope ["word", "by"] ["word", "by"] (defScope s_law_spread) := ⟨rfl, rfl, rfl, by decide +kernel, rfl, by decide +kernel, by decide +kernel⟩
abbrev s_law_refused : Stmt := top 23
theorem sc_law_refused : FnScope ["world", "name", "row", "thing", "seed", "e"] ["world", "name", "row", "thing", "seed"] (defScope s_law_refused) := ⟨rfl, rfl, rfl, by decide +kernel, rfl, by decide +kernel, by decide +kernel⟩
abbrev s_law_told : Stmt := top 24
theorem sc_law_told : FnScope ["world", "meant", "cell", "names", "many", "name", "seed", "row", "given", "bad", "found", "kept"] ["world", "meant", "cell", "names", "many"] (defScope s_law_told) := ⟨rfl, rfl, rfl, by decide +kernel, rfl, by decide +kernel, by decide +kernel⟩
abbrev s_law_asked : Stmt := top 25
theorem sc_law_asked : FnScope ["world", "term", "form", "things", "meant", "many", "given", "found"] ["world", "term", "form", "things", "meant", "many"] (defScope s_law_asked) := ⟨rfl, rfl, rfl, by decide +kernel, rfl, by decide +kernel, by decide +kernel⟩
abbrev s_law_list_refused : Stmt := top 26
theorem sc_law_list_refused : FnScope ["world", "term", "form", "things", "many"] ["world", "term", "form", "things"] (defScope s_law_list_refused) := ⟨rfl, rfl, rfl, by decide +kernel, rfl, by decide +kernel, by decide +kernel⟩
abbrev s_law : Stmt := top 27
theorem sc_law : FnScope ["script", "many", "names", "term", "form", "things", "world", "other", "meant", "cell", "at", "bad"] ["script"] (defScope s_law) := ⟨rfl, rfl, rfl, by decide +kernel, rfl, by decide +kernel, by decide +kernel⟩
section
variable [Inn] {P : Program} {w : World} {K : PySem.W.Frag} {mg : Str → Option Value} {base : Heap}
theorem put_nil {f : Str} {v : V} : putF f v [] = [(f, v)] := rfl
theorem put_1 {v : V} : putF ("size" : Str) v [] = ([("size", v)] : List (Str × V)) := rfl
theorem put_2 {v x : V} : putF ("meanings" : Str) v ([("size", x)] : List (Str × V)) = ([("size", x), ("meanings", v)] : List (Str × V)) := by
  unfold putF
  rw [if_neg (by decide), put_nil]
theorem put_3 {v x y : V} : putF ("facts" : Str) v ([("size", x), ("meanings", y)] : List (Str × V)) = ([("size", x), ("meanings", y), ("facts", v)] : List (Str × V)) := by
  unfold putF
  rw [if_neg (by decide)]
  unfold putF
  rw [if_neg (by decide), put_nil]
theorem ok_World___init__ {C fi : Addr} {fd : FuncData} (F : Fun K "__init__" "World.__init__" s_World___init__ fi fd) (T_World : TC K C ["size", "meanings", "facts"]) :
    FnOk P w K mg base CX0 1 fi fd ["self", "things"] (spInit w C) := by
  refine F.ok sc_World___init__ (fun vs H Q E h => ?_) (fun cdv A outer s H vs Q E hr h => ?_)
  · obtain ⟨a, dx, many, rfl, _⟩ := h
    rfl
  obtain ⟨a, dx, many, rfl, ha, q⟩ := h
  refine ⟨_, (pss_cons (ps_fld (pv 0) (pv 1) (by rfl))
    (pss_cons (ps_fld (pv 0) (pe_newN (w := w)) (by rfl))
    (pss_one (ps_fld (pv 0) (pe_newN (w := w)) (by rfl))))), ?_⟩
  refine ⟨_, rfl, _, rfl, a, C, dx, _, rfl, ha, T_World.cl, T_World.na _ (by simp), (by decide), fun dm hdm => ?_⟩
  rw [put_1] at hdm ⊢
  have n1 : a ≠ dm := fun e => by rw [← e, upd_same] at hdm; cases hdm
  refine ⟨_, rfl, a, C, dx, _, rfl, (by rw [upd_ne n1]; exact upd_same), T_World.cl, T_World.na _ (by simp), (by show 1 < 1000; decide), fun df hdf => ?_⟩
  rw [put_2] at hdf ⊢
  have n2 : a ≠ df := fun e => by rw [← e, upd_same] at hdf; cases hdf
  have n3 : dm ≠ df := fun e => by rw [← e, upd_ne n1.symm, upd_same] at hdf; cases hdf
  have hm0 : H dm = none := by rw [upd_ne n1.symm] at hdm; exact hdm
  have hf0 : H df = none := by rw [upd_ne n2.symm, upd_ne n3.symm, upd_ne n2.symm] at hdf; exact hdf
  refine ⟨_, rfl, a, C, dx, _, rfl, (by rw [upd_ne n2]; exact upd_same), T_World.cl, T_World.na _ (by simp), (by show 2 < 1000; decide), ?_⟩
  rw [put_3]
  refine q dm df _ hm0 hf0 (fun b hb o e => ?_) ⟨dx, fun _ => none, fun _ => none, upd_same, ⟨[], Nat.le_refl _, ?_, by simp, fun _ => rfl⟩, ⟨[], Nat.le_refl _, ?_, by simp, fun _ => rfl⟩, n3, fun _ _ => rfl, fun _ _ => rfl⟩
  · rw [upd_ne hb, upd_ne (fun z => by rw [z, hf0] at e; cases e), upd_ne hb, upd_ne (fun z => by rw [z, hm0] at e; cases e), upd_ne hb]
    exact e
  · rw [upd_ne n1.symm, upd_ne n3, upd_ne n1.symm, upd_same]
  · rw [upd_ne n2.symm, upd_same]
theorem thing_text : ∀ i : Int, -1 ≤ i → i ≤ 11 → ((Str.empty ++ "the world has no thing ") ++ (toString i : Str)).length ≤ sizeLine ∧ i.natAbs.log2 < 1920 := by
  intro i h1 h2
  have : i = -1 ∨ i = 0 ∨ i = 1 ∨ i = 2 ∨ i = 3 ∨ i = 4 ∨ i = 5 ∨ i = 6 ∨ i = 7 ∨ i = 8 ∨ i = 9 ∨ i = 10 ∨ i = 11 := by omega
  rcases this with rfl | rfl | rfl | rfl | rfl | rfl | rfl | rfl | rfl | rfl | rfl | rfl | rfl <;> exact ⟨by decide +kernel, by decide +kernel⟩
theorem ok_World_refuse_strangers {C CN : Addr} (D : MDef K C "refuse_strangers" "World.refuse_strangers" s_World_refuse_strangers ["self", "things"] []) (T_World : TC K C ["size", "meanings", "facts"]) (E_NoThing : ECls K mg base "NoThing" CN) :
    MOk (CX1 P w) P w K mg base C "refuse_strangers" ["self", "things"] 1 (spRefuse w K C CN) [] := by
  refine D.okX sc_World_refuse_strangers (fun vs H Q E h => ?_) (fun f cdv A outer s H vs Q E hr h => ?_)
  · obtain ⟨a, dm, df, l, many, n, mI, mB, ns, rfl, _⟩ := h
    rfl
  obtain ⟨a, dm, df, l, many, n, mI, mB, ns, rfl, hw, hl, hb, q1, q2⟩ := h
  refine ⟨_, (pss_one (ps_for (passes_XS ⟨rfl, rfl⟩) rfl (pi_list (pv 1)) (pg_name (i := 2) sc_World_refuse_strangers.nd rfl (Or.inl rfl)) (pss_one (ps_if (PW.pt (pw_or (pt_cmpR op_lt (pv 2) pe_int (nomark _)) (pw_or1 (pt_cmpR op_ge (pv 2) (pe_fld (pv 0) (by rfl)) (nomark _))))) (pss_one (ps_raise E_NoThing.exc rfl rfl (by rfl) (pa_cons (pe_join (pj_cons pe_str (pj_cons (pe_fmt (pv 2)) pj_nil))) pa_nil))) pss_nil)))), ?_⟩
  obtain ⟨dx, fm, fg, ha, _⟩ := id hw
  refine ⟨_, rfl, l, rfl, ⟨_, hl⟩, for_list (xs := ns.map V.int) (fun i σ' H' => H' = H ∧ (∀ x ∈ ns.take i, 0 ≤ x ∧ x < many) ∧ ∃ v, σ' = [some (.ref a), some (.ref l), v]) ⟨rfl, by simp, _, rfl⟩ (fun i σ' H' _ hP => by rw [hP.1]; exact hl) (fun i x σ' H' hi hP => ?_) (fun σ' H' hP => ?_)⟩
  · obtain ⟨rfl, hok, v, rfl⟩ := hP
    rw [List.getElem?_map] at hi
    obtain ⟨z, hz, rfl⟩ := Option.map_eq_some_iff.mp hi
    have hm := List.mem_of_getElem? hz
    obtain ⟨b1, b2⟩ := hb z hm
    obtain ⟨t2, t3⟩ := thing_text z b1 b2
    have t1 : (Str.empty ++ "the world has no thing ").length ≤ sizeLine := by decide +kernel
    refine ⟨_, rfl, _, _, rfl, rfl, _, rfl, ite2 (fun c => ?_) (fun c => ?_)⟩
    · have c' := of_decide_eq_true c
      exact iteT ⟨_, rfl, t1, _, rfl, .inr ⟨z, rfl, t3, _, rfl, t2, t2, (by show 1 ≤ sizeLine; decide), q2 ⟨z, hm, by omega⟩⟩⟩
    have c0 := of_decide_eq_false (Bool.eq_false_iff.mpr c)
    refine ⟨_, rfl, _, rfl, a, C, dx, _, _, rfl, ha, T_World.cl, T_World.na _ (by simp), rfl, _, _, rfl, rfl, _, rfl, ite2 (fun c => ?_) (fun c => ?_)⟩
    · have c' := of_decide_eq_true c
      exact ⟨_, rfl, t1, _, rfl, .inr ⟨z, rfl, t3, _, rfl, t2, t2, (by show 1 ≤ sizeLine; decide), q2 ⟨z, hm, by omega⟩⟩⟩
    · have c1 := of_decide_eq_false (Bool.eq_false_iff.mpr c)
      refine ⟨rfl, fun x hx => ?_, _, rfl⟩
      rw [List.take_succ, hz] at hx
      rcases List.mem_append.mp hx with hx | hx
      · exact hok x hx
      · simp at hx
        subst hx
        omega
  · obtain ⟨rfl, hok, _⟩ := hP
    rw [List.length_map, List.take_length] at hok
    exact q1 hok
theorem ok_World_means {C CN : Addr} (D : MDef K C "means" "World.means" s_World_means ["self", "name", "parts", "thing"] []) (B : Blt mg) (T_World : TC K C ["size", "meanings", "facts"]) (G_World_refuse_strangers : MOk (CX1 P w) P w K mg base C "refuse_strangers" ["self", "things"] 1 (spRefuse w K C CN) []) :
    MOk (CX1 P w) P w K mg base C "means" ["self", "name", "parts", "thing"] 2 (spMeans w K C CN) [] := by
  refine D.okX sc_World_means (fun vs H Q E h => ?_) (fun f cdv A outer s H vs Q E hr h => ?_)
  · obtain ⟨a, dm, df, l, nm, x, many, n, mI, mB, row, rfl, _⟩ := h
    rfl
  obtain ⟨a, dm, df, l, nm, x, many, n, mI, mB, row, rfl, hw, hn, hl, hlen, hb, q1, q2⟩ := h
  obtain ⟨dx, fm, fg, ha, hm, hf, hne, hI, hB⟩ := id hw
  refine ⟨_, (pss_cons (ps_expr (pe_mokX G_World_refuse_strangers T_World.cl rfl hr (by omega) (pv 0) (pa_cons (pv 2) pa_nil)))
    (pss_cons (ps_expr (pe_mokX G_World_refuse_strangers T_World.cl rfl hr (by omega) (pv 0) (pa_cons (pe_lst (pa_cons (pv 3) pa_nil)) pa_nil)))
    (pss_one (ps_asg (pv 3) (pg_sub (pe_fld (pv 0) (by rfl)) (pe_tup (pa_cons (pv 1) (pa_cons (pe_callTy call_tuple_of (by rfl) B.tuple PyProof.Rows.boot_tuple (pa_cons (pv 2) pa_nil)) pa_nil))) (set_putN (w := w) (hu9 hr))))))), ?_⟩
  refine ⟨_, rfl, a, dx, _, rfl, ha, rfl, _, rfl, a, dm, df, l, many, n, mI, mB, row, rfl, hw, SqL.of hl, (fun i hi => hb i (List.mem_cons_of_mem _ hi)), fun ok1 => ?_, fun ⟨i, hi, bad⟩ => q2 ⟨i, List.mem_cons_of_mem _ hi, bad⟩ H (Same.refl H)⟩
  refine ⟨_, rfl, a, dx, _, rfl, ha, rfl, _, rfl, (by show 1 ≤ sizeLine; decide), fun p hp => ?_⟩
  have s1 : Same H (upd H p (.lst [.int x])) := same_new hp _
  refine ⟨a, dm, df, p, many, n, mI, mB, [x], rfl, hw.same s1, SqL.of upd_same, (fun i hi => by rw [List.mem_singleton] at hi; subst hi; exact hb i List.mem_cons_self), fun ok2 => ?_, fun ⟨i, hi, bad⟩ => by rw [List.mem_singleton] at hi; subst hi; exact q2 ⟨i, List.mem_cons_self, bad⟩ _ s1⟩
  refine ⟨_, rfl, _, rfl, a, C, dx, _, _, rfl, s1.at ha, T_World.cl, T_World.na _ (by simp), rfl, _, rfl, _, rfl, l, _, rfl, .inl ⟨SqL.of (s1.at hl), fun r hr2 => ⟨(by show 2 ≤ sizeLine; decide), fun k hk => ?_⟩⟩⟩
  have s2 := s1.trans (same_new hr2 (.tup (row.map V.int)))
  have s3 : Same _ (upd _ k (.tup [V.str nm, V.ref r])) := same_new hk _
  have s4 := s2.trans s3
  refine ⟨dm, n, fm, _, rfl, hm.same s4, (by rw [sizeLine_eq]; omega), rd_key upd_same (s3.at upd_same), ddep_key, fun ob D' tk => ?_⟩
  refine q1 (fun i hi => ?_) _ (But.of s4 fun b hb => upd_ne hb) (WAt.tellI (s4.at ha) (hf.same s4) (hm.same s4) hne hI hB D' tk)
  rcases List.mem_cons.mp hi with rfl | hi
  · exact ok2 i (by simp)
  · exact ok1 i hi
theorem ok_World_so {C CN : Addr} (D : MDef K C "so" "World.so" s_World_so ["self", "name", "parts", "answer"] [.bl true]) (B : Blt mg) (T_World : TC K C ["size", "meanings", "facts"]) (G_World_refuse_strangers : MOk (CX1 P w) P w K mg base C "refuse_strangers" ["self", "things"] 1 (spRefuse w K C CN) []) :
    MOk (CX1 P w) P w K mg base C "so" ["self", "name", "parts", "answer"] 2 (spSo w K C CN) [.bl true] := by
  refine D.okX sc_World_so (fun vs H Q E h => ?_) (fun f cdv A outer s H vs Q E hr h => ?_)
  · obtain ⟨a, dm, df, l, nm, x, many, n, mI, mB, row, rfl, _⟩ := h
    rfl
  obtain ⟨a, dm, df, l, nm, x, many, n, mI, mB, row, rfl, hw, hn, hl, hlen, hb, q1, q2⟩ := h
  obtain ⟨dx, fm, fg, ha, hm, hf, hne, hI, hB⟩ := id hw
  refine ⟨_, (pss_cons (ps_expr (pe_mokX G_World_refuse_strangers T_World.cl rfl hr (by omega) (pv 0) (pa_cons (pv 2) pa_nil)))
    (pss_one (ps_asg (pv 3) (pg_sub (pe_fld (pv 0) (by rfl)) (pe_tup (pa_cons (pv 1) (pa_cons (pe_callTy call_tuple_of (by rfl) B.tuple PyProof.Rows.boot_tuple (pa_cons (pv 2) pa_nil)) pa_nil))) (set_putN (w := w) (hu9 hr)))))), ?_⟩
  refine ⟨_, rfl, a, dx, _, rfl, ha, rfl, _, rfl, a, dm, df, l, many, n, mI, mB, row, rfl, hw, SqL.of hl, hb, fun ok1 => ?_, fun bad => q2 bad H (Same.refl H)⟩
  refine ⟨_, rfl, _, rfl, a, C, dx, _, _, rfl, ha, T_World.cl, T_World.na _ (by simp), rfl, _, rfl, _, rfl, l, _, rfl, .inl ⟨SqL.of hl, fun r hr2 => ⟨(by show 2 ≤ sizeLine; decide), fun k hk => ?_⟩⟩⟩
  have s2 : Same H (upd H r (.tup (row.map V.int))) := same_new hr2 _
  have s3 : Same _ (upd _ k (.tup [V.str nm, V.ref r])) := same_new hk _
  have s4 := s2.trans s3
  refine ⟨df, n, fg, _, rfl, hf.same s4, (by rw [sizeLine_eq]; omega), rd_key upd_same (s3.at upd_same), ddep_key, fun ob D' tk => ?_⟩
  exact q1 ok1 _ (But.of s4 fun b hb => upd_ne hb) (WAt.tellB (s4.at ha) (hf.same s4) (hm.same s4) hne hI hB D' tk)
theorem ok_World_value {C CN : Addr} {n : Nat} (D : MDef K C "value" "World.value" s_World_value ["self", "term", "things"] []) (T_World : TC K C ["size", "meanings", "facts"]) (G_World_refuse_strangers : MOk (CX1 P w) P w K mg base C "refuse_strangers" ["self", "things"] 1 (spRefuse w K C CN) [])
    (G_World_thing_of : MOk CX0 P w K mg base C "thing_of" ["self", "term", "things"] (2 * n + 1) (spThing w C n) []) : MOk (CX1 P w) P w K mg base C "value" ["self", "term", "things"] (2 * n + 2) (spValueW w C CN n) [] := by
  refine D.okX sc_World_value (fun vs H Q E h => ?_) (fun f cdv A outer s H vs Q E hr h => ?_)
  · obtain ⟨a, dm, df, l, v, t, many, m, mI, mB, th, rfl, _⟩ := h
    rfl
  obtain ⟨a, dm, df, l, v, t, many, m, mI, mB, th, rfl, hw, hv, ht, hd, hl, hb, q1, q2⟩ := h
  obtain ⟨dx, fm, fg, ha, _⟩ := id hw
  refine ⟨_, (pss_cons (ps_expr (pe_mokX G_World_refuse_strangers T_World.cl rfl hr (by omega) (pv 0) (pa_cons (pv 2) pa_nil)))
    (pss_one (ps_ret (pe_mok G_World_thing_of T_World.cl hr (by omega) (pv 0) (pa_cons (pv 1) (pa_cons (pv 2) pa_nil)))))), ?_⟩
  refine ⟨_, rfl, a, dx, _, rfl, ha, rfl, _, rfl, a, dm, df, l, many, m, mI, mB, th, rfl, hw, SqL.of hl, hb, fun ok => ?_, fun bad => q2 bad⟩
  exact ⟨_, rfl, a, dx, _, rfl, ha, rfl, _, rfl, _, rfl, a, dm, df, l, v, t, many, m, mI, mB, th, rfl, hw, hv, ht, hd, hl, fun H1 s1 => q1 ok H1 s1⟩
theorem ok_World_holds {C CN : Addr} {n k : Nat} (D : MDef K C "holds" "World.holds" s_World_holds ["self", "form", "things"] []) (T_World : TC K C ["size", "meanings", "facts"]) (G_World_refuse_strangers : MOk (CX1 P w) P w K mg base C "refuse_strangers" ["self", "things"] 1 (spRefuse w K C CN) [])
    (G_World_holds_by : MOk CX0 P w K mg base C "holds_by" ["self", "form", "things"] (k + 1) (spHolds w C n) []) : MOk (CX1 P w) P w K mg base C "holds" ["self", "form", "things"] (k + 2) (spHoldsW w C CN n) [] := by
  refine D.okX sc_World_holds (fun vs H Q E h => ?_) (fun f cdv A outer s H vs Q E hr h => ?_)
  · obtain ⟨a, dm, df, l, v, t, many, m, mI, mB, th, rfl, _⟩ := h
    rfl
  obtain ⟨a, dm, df, l, v, t, many, m, mI, mB, th, rfl, hw, hv, ht, hd, hn, hm, hl, hb, q1, q2⟩ := h
  obtain ⟨dx, fm, fg, ha, _⟩ := id hw
  refine ⟨_, (pss_cons (ps_expr (pe_mokX G_World_refuse_strangers T_World.cl rfl hr (by omega) (pv 0) (pa_cons (pv 2) pa_nil)))
    (pss_one (ps_ret (pe_mok G_World_holds_by T_World.cl hr (by omega) (pv 0) (pa_cons (pv 1) (pa_cons (pv 2) pa_nil)))))), ?_⟩
  refine ⟨_, rfl, a, dx, _, rfl, ha, rfl, _, rfl, a, dm, df, l, many, m, mI, mB, th, rfl, hw, SqL.of hl, hb, fun ok => ?_, fun bad => q2 bad⟩
  exact ⟨_, rfl, a, dx, _, rfl, ha, rfl, _, rfl, _, rfl, a, dm, df, l, v, t, many, m, mI, mB, th, rfl, hw, hv, ht, hd, hn, hm, hl, fun H1 s1 => q1 ok H1 s1⟩
theorem ok_World_thing_of {C : Addr} {n : Nat} (D : MDef K C "thing_of" "World.thing_of" s_World_thing_of ["self", "term", "things"] []) (B : Blt mg) (T_World : TC K C ["size", "meanings", "facts"])
    (G_World_row_of : MOk CX0 P w K mg base C "row_of" ["self", "terms", "things"] (2 * n + 2) (spRow w C n) []) : MOk CX0 P w K mg base C "thing_of" ["self", "term", "things"] (2 * (n + 1) + 1) (spThing w C (n + 1)) [] := by
  refine D.ok sc_World_thing_of (fun vs H Q E h => ?_) (fun f cdv A outer s H vs Q E hr h => ?_)
  · obtain ⟨a, dm, df, l, v, t, many, m, mI, mB, th, rfl, _⟩ := h
    rfl
  obtain ⟨a, dm, df, l, v, t, many, m, mI, mB, th, rfl, hw, hv, ht, hd, hl, q⟩ := h
  obtain ⟨dx, fm, fg, ha, hm, hf, _, hI, hB⟩ := id hw
  refine ⟨_, (pss_cons (ps_if (pt_cmpR op_eq (pe_ix ix_tup (pv 1) pe_int (fun _ _ => rfl)) pe_str (nomark _)) (pss_one (ps_ret (pe_ifExp (pt_cmpR op_lt (pe_ix ix_tup (pv 1) pe_int (fun _ _ => rfl)) (pe_callB call_len_seq (by rfl) B.len PySem.boot_len (pa_cons (pv 2) pa_nil)) (nomark _)) (pe_ix ix_list (pv 2) (pe_ix ix_tup (pv 1) pe_int (fun _ _ => rfl)) (fun _ _ => rfl)) pe_int))) pss_nil)
    (pss_one (ps_ret (pe_getN (w := w) (hu9 hr) (pe_fld (pv 0) (by rfl)) (pa_cons (pe_tup (pa_cons (pe_ix ix_tup (pv 1) pe_int (fun _ _ => rfl)) (pa_cons (pe_mok G_World_row_of T_World.cl hr (by omega) (pv 0) (pa_cons (pe_ix ix_tup (pv 1) pe_int (fun _ _ => rfl)) (pa_cons (pv 2) pa_nil))) pa_nil))) (pa_cons pe_int pa_nil)))))), ?_⟩
  cases t with
  | var k =>
    rw [TmW] at ht
    rw [Rw] at hv
    obtain ⟨b, rfl, hb⟩ := hv
    refine ⟨_, rfl, b, _, _, _, rfl, rfl, SqT.of hb, at0, rfl, _, rfl, ?_⟩
    rw [var_var]
    have q' := q H (Same.refl H)
    rw [vlW] at q'
    refine iteT ⟨_, rfl, b, _, _, _, rfl, rfl, SqT.of hb, at1, _, rfl, l, _, rfl, .inl (SqL.of hl), _, _, rfl, rfl, _, rfl, ite2 (fun c => ?_) (fun c => ?_)⟩
    · have c' := of_decide_eq_true c
      rw [List.length_map] at c'
      have hk : k.toNat < th.length := by omega
      have ek : k = ((k.toNat : Nat) : Int) := by omega
      have z : atI (th.map V.int) ((k.toNat : Nat) : Int) = some (.int th[k.toNat]) := atI_nat (by rw [List.getElem?_map, List.getElem?_eq_getElem hk] <;> rfl)
      rw [← ek] at z
      refine ⟨_, rfl, _, rfl, b, _, _, _, rfl, rfl, SqT.of hb, at1, l, _, _, _, rfl, rfl, SqL.of hl, z, ?_⟩
      rw [List.getD_eq_getElem?_getD, List.getElem?_eq_getElem hk] at q'
      exact q'
    · have c' := of_decide_eq_false (Bool.eq_false_iff.mpr c)
      rw [List.length_map] at c'
      rw [List.getD_eq_getElem?_getD, List.getElem?_eq_none (by omega)] at q'
      exact q'
  | node tg nm ps =>
    rw [TmW] at ht
    obtain ⟨rfl, hps, ht⟩ := ht
    obtain ⟨c, b, xs, rfl, hc, hb, hx⟩ := hv.named rfl
    refine ⟨_, rfl, c, _, _, _, rfl, rfl, SqT.of hc, at0, rfl, _, rfl, ?_⟩
    rw [show decide (V.str Tag.fn.s = V.str "var") = false from tag_var .fn]
    refine iteF ⟨_, rfl, a, C, dx, _, _, rfl, ha, T_World.cl, T_World.na _ (by simp), rfl, dm, rfl, ⟨_, _, hm⟩, ?_⟩
    refine ⟨_, rfl, c, _, _, _, rfl, rfl, SqT.of hc, at1, _, rfl, a, dx, _, rfl, ha, rfl, _, rfl, c, _, _, _, rfl, rfl, SqT.of hc, at2, _, rfl, a, dm, df, l, b, xs, ps, many, m, mI, mB, th, rfl, hw, hb, hx, (by omega), (fun u hu => ?_), hl, fun p H1 s1 hp => ?_⟩
    · have := dep_parts (w := .node .fn nm ps) (p := u) hu
      exact ⟨ht.mem hu, by omega⟩
    · refine ⟨(by show 2 ≤ sizeLine; decide), fun k hk => ?_⟩
      have s2 : Same H1 (upd H1 k (.tup [.str nm, .ref p])) := same_new hk _
      have hp2 := s2.at hp
      refine ⟨_, _, _, m, fm, rfl, (hm.same s1).same s2, rd_key upd_same hp2, ddep_key, ?_⟩
      have e := hI nm (vlsW mI th ps)
      have q' := q _ (s1.trans s2)
      rw [vlW] at q'
      unfold kyF at e
      rw [e]
      exact q'
theorem ok_World_row_of {C : Addr} {n : Nat} (D : MDef K C "row_of" "World.row_of" s_World_row_of ["self", "terms", "things"] []) (B : Blt mg) (T_World : TC K C ["size", "meanings", "facts"])
    (G_World_thing_of : MOk CX0 P w K mg base C "thing_of" ["self", "term", "things"] (2 * n + 1) (spThing w C n) []) : MOk CX0 P w K mg base C "row_of" ["self", "terms", "things"] (2 * n + 2) (spRow w C n) [] := by
  refine D.ok sc_World_row_of (fun vs H Q E h => ?_) (fun f cdv A outer s H vs Q E hr h => ?_)
  · obtain ⟨a, dm, df, l, b, xs, ts, many, m, mI, mB, th, rfl, _⟩ := h
    rfl
  obtain ⟨a, dm, df, l, b, xs, ts, many, m, mI, mB, th, rfl, hw, hb, hx, hk, ht, hl, q⟩ := h
  obtain ⟨dx, fm, fg, ha, _⟩ := id hw
  refine ⟨_, (pss_cons (ps_set (i := 3) sc_World_row_of.nd rfl (Or.inl rfl) (pe_lst pa_nil))
    (pss_cons (ps_for PassesOwn.never rfl (pi_tup (pv 1)) (pg_name (i := 4) sc_World_row_of.nd rfl (Or.inl rfl)) (pss_one (ps_expr (pe_bm PySem.F.plainAttrs_list PySem.F.slot_list_append PySem.F.type_list_append mt_append (pv 3) (pa_cons (pe_mok G_World_thing_of T_World.cl hr (by omega) (pv 0) (pa_cons (pv 4) (pa_cons (pv 2) pa_nil))) pa_nil)))))
    (pss_one (ps_ret (pe_callTy call_tuple_of (by rfl) B.tuple PyProof.Rows.boot_tuple (pa_cons (pv 3) pa_nil)))))), ?_⟩
  refine ⟨(by show 0 ≤ sizeLine; decide), fun L hL => ?_⟩
  refine ⟨_, rfl, b, rfl, ⟨xs, SqT.of ((same_new hL _).at hb)⟩, for_tup (xs := xs) (fun i σ' H2 => LcI H ts (vlW mI th) i L H2 ∧ ∃ o, σ' = [some (.ref a), some (.ref b), some (.ref l), some (.ref L), o]) ⟨lci_0 L hL, _, rfl⟩ (fun i σ' H2 _ hP => SqT.of (hP.1.2.1.at hb)) (fun i x σ' H2 hi hP => ?_) (fun σ' H2 hP => ?_)⟩
  · obtain ⟨hP, o, rfl⟩ := hP
    obtain ⟨u, hu, ru⟩ := hx.get hi
    obtain ⟨h1, h2⟩ := ht u (List.mem_of_getElem? hu)
    have s2 := hP.2.1
    exact ⟨_, rfl, .inl ⟨rfl, _, SqL.of hP.2.2⟩, _, rfl, a, dx, _, rfl, s2.at ha, rfl, _, rfl, _, rfl, a, dm, df, l, x, u, many, m, mI, mB, th, rfl, hw.same s2, ru.mono (tk_of s2), h1, h2, s2.at hl, fun H3 s3 => lci_s (R := fun _ H4 => LcI H ts (vlW mI th) (i + 1) L H4 ∧ ∃ o', [some (V.ref a), some (V.ref b), some (V.ref l), some (V.ref L), some x] = [some (.ref a), some (.ref b), some (.ref l), some (.ref L), o']) hP hu hk s3 fun _ H4 h4 => ⟨h4, _, rfl⟩⟩
  · obtain ⟨⟨_, s2, hz⟩, o, rfl⟩ := hP
    rw [hx.length, List.take_length, ← vlsW_map] at hz
    exact ⟨_, rfl, L, _, rfl, .inl ⟨SqL.of hz, fun p hp => q p _ (s2.trans (same_new hp _)) upd_same⟩⟩
/-- both, to any depth -/
theorem ok_World_things {C : Addr} (D : MDef K C "thing_of" "World.thing_of" s_World_thing_of ["self", "term", "things"] []) (D' : MDef K C "row_of" "World.row_of" s_World_row_of ["self", "terms", "things"] []) (B : Blt mg) (T_World : TC K C ["size", "meanings", "facts"]) :
    ∀ n : Nat, MOk CX0 P w K mg base C "thing_of" ["self", "term", "things"] (2 * n + 1) (spThing w C n) [] ∧ MOk CX0 P w K mg base C "row_of" ["self", "terms", "things"] (2 * n + 2) (spRow w C n) []
  | 0 => by
    have z : MOk CX0 P w K mg base C "thing_of" ["self", "term", "things"] (2 * 0 + 1) (spThing w C 0) [] := D.void fun vs H Q E h => by
      obtain ⟨a, dm, df, l, v, t, many, m, mI, mB, th, _, _, _, _, hd, _⟩ := h
      have := dep_pos t
      omega
    exact ⟨z, ok_World_row_of D' B T_World z⟩
  | n + 1 => by
    have z := ok_World_thing_of D B T_World (ok_World_things D D' B T_World n).2
    exact ⟨z, ok_World_row_of D' B T_World z⟩
theorem ok_World_holds_by {C : Addr} {n nv : Nat} (hnv : n ≤ nv) (D : MDef K C "holds_by" "World.holds_by" s_World_holds_by ["self", "form", "things"] []) (B : Blt mg) (T_World : TC K C ["size", "meanings", "facts"])
    (G_World_thing_of : MOk CX0 P w K mg base C "thing_of" ["self", "term", "things"] (2 * nv + 1) (spThing w C nv) []) (G_World_row_of : MOk CX0 P w K mg base C "row_of" ["self", "terms", "things"] (2 * nv + 2) (spRow w C nv) [])
    (G_World_holds_by : MOk CX0 P w K mg base C "holds_by" ["self", "form", "things"] (2 * n + 2 * nv + 3) (spHolds w C n) []) (G_World_holds_of_each : MOk CX0 P w K mg base C "holds_of_each" ["self", "form", "things"] (2 * n + 2 * nv + 4) (spEach w C n) []) :
    MOk CX0 P w K mg base C "holds_by" ["self", "form", "things"] (2 * n + 2 * nv + 4 + 1) (spHolds w C (n + 1)) [] := by
  refine D.ok sc_World_holds_by (fun vs H Q E h => ?_) (fun f cdv A outer s H vs Q E hr h => ?_)
  · obtain ⟨a, dm, df, l, v, t, many, m, mI, mB, th, rfl, _⟩ := h
    rfl
  obtain ⟨o, dm, df, l, v, t, many, m, mI, mB, th, rfl, hwt, hw, ht, hd, hln, hmany, hl, q⟩ := h
  obtain ⟨dx, fm, fg, ho, hm, hf, _, hI, hB⟩ := id hwt
  refine ⟨_, (pss_cons (ps_set (i := 3) sc_World_holds_by.nd rfl (Or.inl rfl) (pe_ix ix_tup (pv 1) pe_int (fun _ _ => rfl)))
    (pss_cons (ps_if (pt_cmpR op_eq (pv 3) pe_str (nomark _)) (pss_one (ps_ret (pe_getN (w := w) (hu9 hr) (pe_fld (pv 0) (by rfl)) (pa_cons (pe_tup (pa_cons (pe_ix ix_tup (pv 1) pe_int (fun _ _ => rfl)) (pa_cons (pe_mok G_World_row_of T_World.cl hr (by omega) (pv 0) (pa_cons (pe_ix ix_tup (pv 1) pe_int (fun _ _ => rfl)) (pa_cons (pv 2) pa_nil))) pa_nil))) (pa_cons pe_bl pa_nil))))) pss_nil)
    (pss_cons (ps_if (pt_cmpR op_eq (pv 3) pe_str (nomark _)) (pss_one (ps_ret (pe_cmpR op_eq (pe_mok G_World_thing_of T_World.cl hr (by omega) (pv 0) (pa_cons (pe_ix ix_tup (pv 1) pe_int (fun _ _ => rfl)) (pa_cons (pv 2) pa_nil))) (pe_mok G_World_thing_of T_World.cl hr (by omega) (pv 0) (pa_cons (pe_ix ix_tup (pv 1) pe_int (fun _ _ => rfl)) (pa_cons (pv 2) pa_nil))) (nomark _)))) pss_nil)
    (pss_cons (ps_if (pt_cmpR op_eq (pv 3) pe_str (nomark _)) (pss_one (ps_ret (pe_or (pe_not (pe_mok G_World_holds_by T_World.cl hr (by omega) (pv 0) (pa_cons (pe_ix ix_tup (pv 1) pe_int (fun _ _ => rfl)) (pa_cons (pv 2) pa_nil)))) (pe_one (pe_mok G_World_holds_by T_World.cl hr (by omega) (pv 0) (pa_cons (pe_ix ix_tup (pv 1) pe_int (fun _ _ => rfl)) (pa_cons (pv 2) pa_nil))))))) pss_nil)
    (pss_cons (ps_if (pt_cmpR op_eq (pv 3) pe_str (nomark _)) (pss_one (ps_ret (pe_mok G_World_holds_of_each T_World.cl hr (by omega) (pv 0) (pa_cons (pe_ix ix_tup (pv 1) pe_int (fun _ _ => rfl)) (pa_cons (pv 2) pa_nil))))) pss_nil)
    (pss_one (ps_ret pe_bl))))))), ?_⟩
  cases t with
  | var k => simp only [FmW] at ht
  | node t nm ps =>
    obtain ⟨a, ys, rfl, ha⟩ := hw.head
    refine ⟨_, rfl, a, _, _, _, rfl, rfl, SqT.of ha, at0, _, rfl, rfl, _, rfl, ?_⟩
    rw [tag_rel]
    refine ite2 (fun c => ?_) (fun c => ?_)
    · have e := of_decide_eq_true c
      subst e
      obtain ⟨a', b, xs, e, ha', hb, hx⟩ := hw.named rfl
      cases e
      simp only [FmW] at ht
      refine ⟨_, rfl, o, C, dx, _, _, rfl, ho, T_World.cl, T_World.na _ (by simp), rfl, df, rfl, ⟨_, _, hf⟩, ?_⟩
      refine ⟨_, rfl, a, _, _, _, rfl, rfl, SqT.of ha', at1, _, rfl, o, dx, _, rfl, ho, rfl, _, rfl, a, _, _, _, rfl, rfl, SqT.of ha', at2, _, rfl, o, dm, df, l, b, xs, ps, many, m, mI, mB, th, rfl, hwt, hb, hx, (by omega), (fun u hu => ?_), hl, fun p H1 s1 hp => ?_⟩
      · have := dep_parts (w := .node .rel nm ps) (p := u) hu
        exact ⟨ht.2.mem hu, by omega⟩
      · refine ⟨(by show 2 ≤ sizeLine; decide), fun k hk => ?_⟩
        have s2 : Same H1 (upd H1 k (.tup [.str nm, .ref p])) := same_new hk _
        refine ⟨_, _, _, m, fg, rfl, (hf.same s1).same s2, rd_key upd_same (s2.at hp), ddep_key, ?_⟩
        have e := hB nm (vlsW mI th ps)
        have q' := q _ (s1.trans s2)
        simp only [trW] at q'
        unfold kyF at e
        rw [e]
        exact q'
    have c1 := of_decide_eq_false (Bool.eq_false_iff.mpr c)
    refine ⟨_, rfl, rfl, _, rfl, ?_⟩
    rw [tag_same]
    refine ite2 (fun c => ?_) (fun c => ?_)
    · have e := of_decide_eq_true c
      subst e
      obtain ⟨a', xs, e, ha', hx, _⟩ := hw.plain rfl
      cases e
      simp only [FmW] at ht
      obtain ⟨hl2, ht⟩ := ht
      match ps, hl2, ht, hx, hd, q with
      | [x, y], _, ht, hx, hd, q =>
        rw [Rws] at hx
        obtain ⟨vx, r, rfl, rx, hx⟩ := hx
        rw [Rws] at hx
        obtain ⟨vy, r, rfl, ry, hx⟩ := hx
        rw [Rws] at hx
        subst hx
        have d1 := dep_parts (w := .node .same nm [x, y]) (p := x) (by simp [Wd.parts])
        have d2 := dep_parts (w := .node .same nm [x, y]) (p := y) (by simp [Wd.parts])
        refine ⟨_, rfl, o, dx, _, rfl, ho, rfl, _, rfl, a, _, _, _, rfl, rfl, SqT.of ha', at1, _, rfl, o, dm, df, l, vx, x, many, m, mI, mB, th, rfl, hwt, rx, ht.mem (by simp), (by omega), hl, fun H1 s1 => ?_⟩
        refine ⟨_, rfl, o, dx, _, rfl, s1.at ho, rfl, _, rfl, a, _, _, _, rfl, rfl, SqT.of (s1.at ha'), at2, _, rfl, o, dm, df, l, vy, y, many, m, mI, mB, th, rfl, hwt.same s1, ry.mono (tk_of s1), ht.mem (by simp), (by omega), s1.at hl, fun H2 s2 => ?_⟩
        refine ⟨rfl, ?_⟩
        have q' := q H2 (s1.trans s2)
        simp only [trW, vlsW] at q'
        rw [dec_int']
        exact q'
    have c2 := of_decide_eq_false (Bool.eq_false_iff.mpr c)
    refine ⟨_, rfl, rfl, _, rfl, ?_⟩
    rw [tag_if]
    refine ite2 (fun c => ?_) (fun c => ?_)
    · have e := of_decide_eq_true c
      subst e
      obtain ⟨a', xs, e, ha', hx, _⟩ := hw.plain rfl
      cases e
      simp only [FmW] at ht
      obtain ⟨hl2, ht⟩ := ht
      match ps, hl2, ht, hx, hd, q with
      | [x, y], _, ht, hx, hd, q =>
        rw [Rws] at hx
        obtain ⟨vx, r, rfl, rx, hx⟩ := hx
        rw [Rws] at hx
        obtain ⟨vy, r, rfl, ry, hx⟩ := hx
        rw [Rws] at hx
        subst hx
        simp only [FmWL] at ht
        have d1 := dep_parts (w := .node .cond nm [x, y]) (p := x) (by simp [Wd.parts])
        have d2 := dep_parts (w := .node .cond nm [x, y]) (p := y) (by simp [Wd.parts])
        refine ⟨_, rfl, o, dx, _, rfl, ho, rfl, _, rfl, a, _, _, _, rfl, rfl, SqT.of ha', at1, _, rfl, o, dm, df, l, vx, x, many, m, mI, mB, th, rfl, hwt, rx, ht.1, (by omega), (by omega), hmany, hl, fun H1 s1 => ⟨_, rfl, _, rfl, ?_⟩⟩
        cases e1 : trW mI mB many x th with
        | false =>
          refine iteT ?_
          have q' := q H1 s1
          simp only [trW, trH, e1] at q'
          exact q'
        | true =>
          refine iteF ⟨_, rfl, o, dx, _, rfl, s1.at ho, rfl, _, rfl, a, _, _, _, rfl, rfl, SqT.of (s1.at ha'), at2, _, rfl, o, dm, df, l, vy, y, many, m, mI, mB, th, rfl, hwt.same s1, ry.mono (tk_of s1), ht.2.1, (by omega), (by omega), hmany, s1.at hl, fun H2 s2 => ?_⟩
          have q' := q H2 (s1.trans s2)
          simp only [trW, trH, trT, e1] at q'
          exact q'
    have c3 := of_decide_eq_false (Bool.eq_false_iff.mpr c)
    refine ⟨_, rfl, rfl, _, rfl, ?_⟩
    rw [tag_all]
    refine ite2 (fun c => ?_) (fun c => ?_)
    · have e := of_decide_eq_true c
      subst e
      obtain ⟨a', xs, e, ha', hx, _⟩ := hw.plain rfl
      cases e
      simp only [FmW] at ht
      obtain ⟨hl2, ht⟩ := ht
      match ps, hl2, ht, hx, hd, q with
      | [x], _, ht, hx, hd, q =>
        rw [Rws] at hx
        obtain ⟨vx, r, rfl, rx, hx⟩ := hx
        rw [Rws] at hx
        subst hx
        simp only [FmWL] at ht
        have d1 := dep_parts (w := .node .all nm [x]) (p := x) (by simp [Wd.parts])
        refine ⟨_, rfl, o, dx, _, rfl, ho, rfl, _, rfl, a, _, _, _, rfl, rfl, SqT.of ha', at1, _, rfl, o, dm, df, l, vx, x, many, m, mI, mB, th, rfl, hwt, rx, ht.1, (by omega), (by omega), hmany, hl, fun H1 s1 => ?_⟩
        have q' := q H1 s1
        simp only [trW, trH] at q'
        exact q'
    have c4 := of_decide_eq_false (Bool.eq_false_iff.mpr c)
    have q' := q H (Same.refl H)
    have e : trW mI mB many (.node t nm ps) th = false := by
      cases t <;> first | exact absurd rfl c1 | exact absurd rfl c2 | exact absurd rfl c3 | exact absurd rfl c4 | simp only [trW]
    rw [e] at q'
    exact q'
theorem ok_World_holds_of_each {C : Addr} {n k : Nat} (D : MDef K C "holds_of_each" "World.holds_of_each" s_World_holds_of_each ["self", "form", "things"] []) (B : Blt mg) (T_World : TC K C ["size", "meanings", "facts"])
    (G_World_holds_by : MOk CX0 P w K mg base C "holds_by" ["self", "form", "things"] k (spHolds w C n) []) : MOk CX0 P w K mg base C "holds_of_each" ["self", "form", "things"] (k + 1) (spEach w C n) [] := by
  refine D.ok sc_World_holds_of_each (fun vs H Q E h => ?_) (fun f cdv A outer s H vs Q E hr h => ?_)
  · obtain ⟨a, dm, df, l, v, t, many, m, mI, mB, th, rfl, _⟩ := h
    rfl
  obtain ⟨o, dm, df, l, v, x, many, m, mI, mB, th, rfl, hwt, hw, ht, hd, hln, hmany, hl, q⟩ := h
  obtain ⟨dx, fm, fg, ho, _⟩ := id hwt
  refine ⟨_, (pss_cons (ps_for PassesOwn.never rfl (pi_range1 (by rfl) B.range (pa_cons (pe_fld (pv 0) (by rfl)) pa_nil)) (pg_name (i := 3) sc_World_holds_of_each.nd rfl (Or.inl rfl)) (pss_one (ps_if (pt_not (pt_val (pe_mok G_World_holds_by T_World.cl hr (by omega) (pv 0) (pa_cons (pv 1) (pa_cons (pe_op op_cat (pe_lst (pa_cons (pv 3) pa_nil)) (pv 2)) pa_nil))))) (pss_one (ps_ret pe_bl)) pss_nil)))
    (pss_one (ps_ret pe_bl))), ?_⟩
  refine ⟨_, rfl, o, C, dx, _, _, rfl, ho, T_World.cl, T_World.na _ (by simp), rfl, (many : Int), rfl, (by omega), (by omega), ?_⟩
  refine for_range (lo := 0) (n := many) (fun i σ H1 => Same H H1 ∧ (∀ j, j < i → trW mI mB many x ((j : Int) :: th) = true) ∧ ∃ o1 : Option V, σ = [some (.ref o), some v, some (.ref l), o1])
    ⟨Same.refl H, fun j hj => by omega, none, rfl⟩ (fun i σ H1 hi hP => ?_) (fun σ H1 hP => ?_)
  · obtain ⟨s1, hall, o1, rfl⟩ := hP
    refine ⟨_, rfl, o, dx, _, rfl, s1.at ho, rfl, _, rfl, _, rfl, (by show 1 ≤ sizeLine; decide), fun p hp => ?_⟩
    have s2 := s1.trans (same_new hp (.lst [.int (0 + (i : Int))]))
    refine ⟨_, rfl, p, l, _, _, rfl, rfl, upd_same, s2.at hl, (by rw [sizeLine_eq, List.length_map]; simp only [List.length_cons, List.length_nil]; omega), fun p2 hp2 => ?_⟩
    have s3 := s2.trans (same_new hp2 (.lst ([V.int (0 + (i : Int))] ++ th.map V.int)))
    refine ⟨o, dm, df, p2, v, x, many, m, mI, mB, (i : Int) :: th, rfl, hwt.same s3, hw.mono (tk_of s3), ht, hd, (by rw [List.length_cons]; omega), hmany, ?_, fun H4 s4 => ⟨_, rfl, ?_⟩⟩
    · rw [upd_same]
      show some (HO.lst (V.int (0 + (i : Int)) :: th.map V.int)) = _
      rw [Int.zero_add]; rfl
    · cases e1 : trW mI mB many x ((i : Int) :: th) with
      | true =>
        refine iteF ⟨s3.trans s4, fun j hj => ?_, _, rfl⟩
        by_cases hji : j = i
        · rw [hji]; exact e1
        · exact hall j (by omega)
      | false =>
        refine iteT ?_
        have q' := q H4 (s3.trans s4)
        rw [List.all_eq_false.mpr ⟨i, List.mem_range.mpr hi, by rw [e1]; exact Bool.false_ne_true⟩] at q'
        exact q'
  · obtain ⟨s1, hall, o1, rfl⟩ := hP
    have q' := q H1 s1
    rw [List.all_eq_true.mpr fun j hj => hall j (List.mem_range.mp hj)] at q'
    exact q'
/-- both, to any depth -/
theorem ok_World_forms {C : Addr} {nv : Nat} (D : MDef K C "holds_by" "World.holds_by" s_World_holds_by ["self", "form", "things"] []) (D' : MDef K C "holds_of_each" "World.holds_of_each" s_World_holds_of_each ["self", "form", "things"] []) (B : Blt mg) (T_World : TC K C ["size", "meanings", "facts"])
    (Gt : MOk CX0 P w K mg base C "thing_of" ["self", "term", "things"] (2 * nv + 1) (spThing w C nv) []) (Gr : MOk CX0 P w K mg base C "row_of" ["self", "terms", "things"] (2 * nv + 2) (spRow w C nv) []) :
    ∀ n : Nat, n ≤ nv + 1 → MOk CX0 P w K mg base C "holds_by" ["self", "form", "things"] (2 * n + 2 * nv + 3) (spHolds w C n) []
  | 0, _ => D.void fun vs H Q E h => by
    obtain ⟨a, dm, df, l, v, t, many, m, mI, mB, th, _, _, _, _, hd, _⟩ := h
    have := dep_pos t
    omega
  | n + 1, h => by
    have z := ok_World_forms D D' B T_World Gt Gr n (by omega)
    have y := ok_World_holds_by (by omega) D B T_World Gt Gr z (ok_World_holds_of_each D' B T_World z)
    have e : 2 * (n + 1) + 2 * nv + 3 = 2 * n + 2 * nv + 4 + 1 := by omega
    rw [e]
    exact y
def cellOf (ns : List Int) (k : Int) : Int := ns.getD k.toNat 0
def spCell (K : PySem.W.Frag) : Sp := fun vs H Q _ => ∃ (a : Addr) (ns : List Int) (k : Int), vs = [.ref a, .int k] ∧ SqL K H a (ns.map V.int) ∧ 0 ≤ k ∧ Q (.int (cellOf ns k)) H
theorem ok_law_cell_at (D : Def K mg "_law_cell_at" s_law_cell_at ["script", "k"]) (B : Blt mg) : Ok P w K mg base "_law_cell_at" ["script", "k"] 1 (spCell K) := by
  refine D.ok sc_law_cell_at (fun vs H Q E h => ?_) (fun f cdv A outer s H vs Q E hr h => ?_)
  · obtain ⟨a, ns, k, rfl, _⟩ := h
    rfl
  obtain ⟨a, ns, k, rfl, hS, h0, q⟩ := h
  refine ⟨_, (pss_cons (ps_if (pt_cmpR op_lt (pv 1) (pe_callB call_len_seq (by rfl) B.len PySem.boot_len (pa_cons (pv 0) pa_nil)) (nomark _)) (pss_one (ps_ret (pe_ix ix_list (pv 0) (pv 1) (fun _ _ => rfl)))) pss_nil)
    (pss_one (ps_ret pe_int))), ?_⟩
  have hl : (ns.map V.int).length = ns.length := List.length_map _
  refine ⟨_, rfl, _, rfl, a, _, rfl, .inl hS, _, _, rfl, rfl, _, rfl, ?_⟩
  refine ite2 (fun c => ?_) (fun c => ?_)
  · have c' := of_decide_eq_true c
    rw [hl] at c'
    have hk : k.toNat < ns.length := by omega
    have ek : k = ((k.toNat : Nat) : Int) := by omega
    have z : atI (ns.map V.int) ((k.toNat : Nat) : Int) = some (.int ns[k.toNat]) := atI_nat (by rw [List.getElem?_map, List.getElem?_eq_getElem hk] <;> rfl)
    rw [← ek] at z
    refine ⟨_, rfl, _, rfl, a, _, _, _, rfl, rfl, hS, z, ?_⟩
    have e : cellOf ns k = ns[k.toNat] := by unfold cellOf; rw [List.getD_eq_getElem?_getD, List.getElem?_eq_getElem hk]; rfl
    rw [← e]
    exact q
  · have c' := of_decide_eq_false (Bool.eq_false_iff.mpr c)
    rw [hl] at c'
    have e : cellOf ns k = 0 := by unfold cellOf; rw [List.getD_eq_getElem?_getD, List.getElem?_eq_none (by omega)]; rfl
    rw [e] at q
    exact q
def spNext : Sp := fun vs H Q _ => ∃ s : Int, vs = [.int s] ∧ Q (.int (nxt s)) H
theorem ok_law_next (D : Def K mg "_law_next" s_law_next ["seed"]) : Ok P w K mg base "_law_next" ["seed"] 1 spNext := by
  refine D.ok sc_law_next (fun vs H Q E h => ?_) (fun f cdv A outer s H vs Q E hr h => ?_)
  · obtain ⟨a, rfl, _⟩ := h
    rfl
  obtain ⟨a, rfl, q⟩ := h
  refine ⟨_, (pss_one (ps_ret (pe_op op_mod (pe_op op_add (pe_op op_mul (pv 0) pe_int) pe_int) pe_int))), ?_⟩
  exact ⟨_, rfl, _, _, rfl, rfl, .inr ⟨by decide, by decide⟩, _, _, rfl, rfl, _, _, rfl, rfl, (by show (0 : Int) < 2147483647; decide), q⟩
def spPart : Sp := fun vs H Q _ => ∃ s k : Int, vs = [.int s, .int k] ∧ ∀ r H', Same H H' → Q (.int r) H'
theorem ok_law_part (D : Def K mg "_law_part" s_law_part ["seed", "k"]) : Ok P w K mg base "_law_part" ["seed", "k"] 1 spPart := by
  refine D.ok sc_law_part (fun vs H Q E h => ?_) (fun f cdv A outer s H vs Q E hr h => ?_)
  · obtain ⟨a, k, rfl, _⟩ := h
    rfl
  obtain ⟨a, k, rfl, q⟩ := h
  refine ⟨_, (pss_one (ps_ret (pe_op op_fdiv (pe_op op_mod (pe_op op_add (pe_op op_add (pe_op op_mul (pv 0) (pe_ix ix_list (pe_lst (pa_cons pe_int (pa_cons pe_int (pa_cons pe_int (pa_cons pe_int (pa_cons pe_int pa_nil)))))) (pe_op op_mod (pv 1) pe_int) (fun _ _ => rfl))) pe_int) (pv 1)) pe_int) pe_int))), ?_⟩
  refine ⟨_, rfl, (by show 5 ≤ sizeLine; decide), fun p hp => ?_⟩
  have s1 := same_new (H := H) hp (.lst [.int 48271, .int 69621, .int 16807, .int 40692, .int 39373])
  obtain ⟨c, hc, h1, h2⟩ := five k
  refine ⟨_, rfl, _, _, rfl, rfl, (by show (0 : Int) < 5; decide), p, _, _, _, rfl, rfl, SqL.of upd_same, hc, _, _, rfl, rfl, .inr ⟨by omega, by omega⟩, _, _, rfl, rfl, _, rfl, _, _, rfl, rfl, _, _, rfl, rfl, (by show (0 : Int) < 2147483647; decide), _, _, rfl, rfl, ⟨by decide, by decide⟩, ?_⟩
  exact q _ _ s1
def spName : Sp := fun vs H Q _ => ∃ c : Int, vs = [.int c] ∧ ∀ x : Str, IsName x → Q (.str x) H
theorem ok_law_name_by (D : Def K mg "_law_name_by" s_law_name_by ["cell"]) (B : Blt mg) (G_law_next : Ok P w K mg base "_law_next" ["seed"] 1 spNext) : Ok P w K mg base "_law_name_by" ["cell"] 2 spName := by
  refine D.ok sc_law_name_by (fun vs H Q E h => ?_) (fun f cdv A outer s H vs Q E hr h => ?_)
  · obtain ⟨a, rfl, _⟩ := h
    rfl
  obtain ⟨c, rfl, q⟩ := h
  refine ⟨_, (pss_cons (ps_set (i := 1) sc_law_name_by.nd rfl (Or.inl rfl) (pe_ok G_law_next hr (by omega) rfl (pa_cons (pv 0) pa_nil)))
    (pss_cons (ps_set (i := 2) sc_law_name_by.nd rfl (Or.inl rfl) pe_str)
    (pss_cons (ps_for PassesOwn.never rfl (pi_range1 (by rfl) B.range (pa_cons (pe_op op_add pe_int (pe_op op_mod (pv 0) pe_int)) pa_nil)) (pg_name (i := 3) sc_law_name_by.nd rfl (Or.inl rfl)) (pss_cons (ps_set (i := 2) sc_law_name_by.nd rfl (Or.inl rfl) (pe_op op_add_str (pv 2) (pe_ix ix_str pe_str (pe_op op_mod (pe_op op_fdiv (pv 1) pe_int) pe_int) (fun _ _ => rfl))))
    (pss_one (ps_set (i := 1) sc_law_name_by.nd rfl (Or.inl rfl) (pe_ok G_law_next hr (by omega) rfl (pa_cons (pv 1) pa_nil))))))
    (pss_one (ps_ret (pv 2)))))), ?_⟩
  have h0 := Int.emod_nonneg c (show (12 : Int) ≠ 0 by decide)
  have h1 := Int.emod_lt_of_pos c (show (0 : Int) < 12 by decide)
  refine ⟨_, rfl, c, rfl, _, rfl, _, _, rfl, rfl, (by show (0 : Int) < 12; decide), _, _, rfl, rfl, _, rfl, (by omega), (by omega), ?_⟩
  refine for_range (lo := 0) (n := (1 + c % 12).toNat) (fun i σ H' => H' = H ∧ ∃ (sd : Int) (x : Str) (o : Option V), σ = [some (.int c), some (.int sd), some (.str x), o] ∧ x.length = i ∧ ∀ d ∈ x.cps.toList, 97 ≤ d ∧ d ≤ 122) ⟨rfl, _, "", none, rfl, rfl, (fun d hd => by cases hd)⟩ (fun i σ H' hi hP => ?_) (fun σ H' hP => ?_)
  · obtain ⟨rfl, sd, x, o, rfl, hl, hx⟩ := hP
    obtain ⟨d, hd, d1, d2⟩ := alpha (sd / 64)
    refine ⟨_, rfl, _, rfl, _, _, rfl, rfl, ⟨by decide, by decide⟩, _, _, rfl, rfl, (by show (0 : Int) < 26; decide), _, _, d, rfl, rfl, (by decide +kernel), hd, _, _, rfl, rfl, ?_, ?_⟩
    · show x.length + 1 ≤ sizeLine
      rw [sizeLine_eq]; omega
    · refine ⟨_, rfl, _, rfl, rfl, _, _, _, rfl, ?_, ?_⟩
      · rw [str_add_len, hl]; rfl
      · intro e he
        rw [str_add_cps] at he
        rcases List.mem_append.mp he with he | he
        · exact hx e he
        · have : e = d := by simpa using he
          omega
  · obtain ⟨rfl, sd, x, o, rfl, hl, hx⟩ := hP
    exact ⟨_, rfl, q x ⟨by omega, by omega, hx⟩⟩
def spNames : Sp := fun vs H Q _ => ∃ c : Int, vs = [.int c] ∧ ∀ (l : Addr) (x y z : Str) (H' : Hp), Same H H' → IsName x → IsName y → IsName z → H' l = some (.lst [.str x, .str y, .str z]) → Q (.ref l) H'
theorem ok_law_names_by (D : Def K mg "_law_names_by" s_law_names_by ["cell"]) (G_law_name_by : Ok P w K mg base "_law_name_by" ["cell"] 2 spName) : Ok P w K mg base "_law_names_by" ["cell"] 3 spNames := by
  refine D.ok sc_law_names_by (fun vs H Q E h => ?_) (fun f cdv A outer s H vs Q E hr h => ?_)
  · obtain ⟨a, rfl, _⟩ := h
    rfl
  obtain ⟨c, rfl, q⟩ := h
  refine ⟨_, (pss_one (ps_ret (pe_lst (pa_cons (pe_ok G_law_name_by hr (by omega) rfl (pa_cons (pv 0) pa_nil)) (pa_cons (pe_ok G_law_name_by hr (by omega) rfl (pa_cons (pe_op op_add (pe_op op_fdiv (pv 0) pe_int) pe_int) pa_nil)) (pa_cons (pe_slice sl_str (pe_ok G_law_name_by hr (by omega) rfl (pa_cons (pv 0) pa_nil)) po_none (po_some pe_int)) pa_nil)))))), ?_⟩
  refine ⟨_, rfl, _, rfl, fun x hx => ?_⟩
  refine ⟨_, rfl, _, _, rfl, rfl, ⟨by decide, by decide⟩, _, _, rfl, rfl, _, rfl, fun y hy => ?_⟩
  refine ⟨_, rfl, _, rfl, fun z hz => ?_⟩
  refine ⟨1, rfl, z, rfl, ?_, (by show 3 ≤ sizeLine; decide), fun p hp => ?_⟩
  · have := hz.2.1
    rw [sizeLine_eq]; omega
  · exact q p x y _ _ (same_new hp _) hx hy (name_head hz) upd_same
def spVar : Sp := fun vs H Q _ => ∃ s : Int, vs = [.int s] ∧ ∀ (r : V) (n : Int) (H' : Hp), Same H H' → Rw H' (.var n) r → 0 ≤ n → n < 1000 → Q r H'
theorem ok_law_var_by (D : Def K mg "_law_var_by" s_law_var_by ["seed"]) : Ok P w K mg base "_law_var_by" ["seed"] 1 spVar := by
  refine D.ok sc_law_var_by (fun vs H Q E h => ?_) (fun f cdv A outer s H vs Q E hr h => ?_)
  · obtain ⟨a, rfl, _⟩ := h
    rfl
  obtain ⟨c, rfl, q⟩ := h
  refine ⟨_, (pss_cons (ps_if (pt_cmpR op_eq (pe_op op_mod (pv 0) pe_int) pe_int (nomark _)) (pss_one (ps_ret (pe_tup (pa_cons pe_str (pa_cons (pe_op op_mod (pe_op op_fdiv (pv 0) pe_int) pe_int) pa_nil))))) pss_nil)
    (pss_one (ps_ret (pe_tup (pa_cons pe_str (pa_cons (pe_op op_mod (pe_op op_fdiv (pv 0) pe_int) pe_int) pa_nil)))))), ?_⟩
  refine ⟨_, rfl, _, _, rfl, rfl, (by show (0 : Int) < 9; decide), rfl, _, rfl, ?_⟩
  refine ite2 (fun _ => ?_) (fun _ => ?_)
  · refine ⟨_, rfl, _, _, rfl, rfl, ⟨by decide, by decide⟩, _, _, rfl, rfl, (by show (0 : Int) < 1000; decide), (by show 2 ≤ sizeLine; decide), fun p hp => ?_⟩
    have h0 := Int.emod_nonneg (c / 9) (show (1000 : Int) ≠ 0 by decide)
    have h1 := Int.emod_lt_of_pos (c / 9) (show (0 : Int) < 1000 by decide)
    exact q _ _ _ (same_new hp _) (.var upd_same) h0 h1
  · refine ⟨_, rfl, _, _, rfl, rfl, ⟨by decide, by decide⟩, _, _, rfl, rfl, (by show (0 : Int) < 4; decide), (by show 2 ≤ sizeLine; decide), fun p hp => ?_⟩
    have h0 := Int.emod_nonneg (c / 9) (show (4 : Int) ≠ 0 by decide)
    have h1 := Int.emod_lt_of_pos (c / 9) (show (0 : Int) < 4 by decide)
    exact q _ _ _ (same_new hp _) (.var upd_same) h0 (by omega)
/-- the names that a word may have, as a list in the heap -/
def Nms (H : Hp) (l : Addr) : Prop := ∃ x y z : Str, IsName x ∧ IsName y ∧ IsName z ∧ H l = some (.lst [.str x, .str y, .str z])
theorem Nms.mono {H H' : Hp} {l : Addr} (h : Nms H l) (s : Same H H') : Nms H' l := by
  obtain ⟨x, y, z, hx, hy, hz, e⟩ := h
  exact ⟨x, y, z, hx, hy, hz, s.at e⟩
theorem Nms.at {H : Hp} {l : Addr} (h : Nms H l) (m : Int) : ∃ (xs : List V) (x : Str), H l = some (.lst xs) ∧ atI xs (m % 3) = some (.str x) ∧ IsName x := by
  obtain ⟨x, y, z, hx, hy, hz, e⟩ := h
  have h0 := Int.emod_nonneg m (show (3 : Int) ≠ 0 by decide)
  have h1 := Int.emod_lt_of_pos m (show (0 : Int) < 3 by decide)
  have h : m % 3 = 0 ∨ m % 3 = 1 ∨ m % 3 = 2 := by omega
  rcases h with e' | e' | e' <;> rw [e']
  · exact ⟨_, x, e, at0, hx⟩
  · exact ⟨_, y, e, at1, hy⟩
  · exact ⟨_, z, e, at2, hz⟩
def spTerm (N : Nat) : Sp := fun vs H Q _ => ∃ (s : Int) (n : Nat) (l : Addr), vs = [.int s, .int n, .ref l] ∧ n ≤ N ∧ Nms H l ∧ ∀ (r : V) (w : Wd) (H' : Hp), Same H H' → Rw H' w r → IsTerm n w → Q r H'
theorem ok_law_term_by (D : Def K mg "_law_term_by" s_law_term_by ["seed", "deep", "names"]) (B : Blt mg) (G_law_part : Ok P w K mg base "_law_part" ["seed", "k"] 1 spPart) (G_law_var_by : Ok P w K mg base "_law_var_by" ["seed"] 1 spVar) :
    ∀ N : Nat, Ok P w K mg base "_law_term_by" ["seed", "deep", "names"] (N + 2) (spTerm N) := by
  have step : ∀ (N : Nat) (sp : Sp), (N = 0 ∧ sp = (fun _ _ _ _ => False)) ∨ (∃ M, N = M + 1 ∧ sp = spTerm M) → Ok P w K mg base "_law_term_by" ["seed", "deep", "names"] (N + 1) sp → Ok P w K mg base "_law_term_by" ["seed", "deep", "names"] (N + 2) (spTerm N) := by
    intro N sp hsp G_law_term_by
    refine D.ok sc_law_term_by (fun vs H Q E h => ?_) (fun f cdv A outer s H vs Q E hr h => ?_)
    · obtain ⟨a, n, l, rfl, _⟩ := h
      rfl
    obtain ⟨sd, n, l, rfl, hn, hl, q⟩ := h
    refine ⟨_, (pss_cons (ps_if (PW.pt (pw_or (pt_cmpR op_eq (pv 1) pe_int (nomark _)) (pw_or1 (pt_cmpR op_eq (pe_op op_mod (pv 0) pe_int) pe_int (nomark _))))) (pss_one (ps_ret (pe_ok G_law_var_by hr (by omega) rfl (pa_cons (pe_op op_fdiv (pv 0) pe_int) pa_nil)))) pss_nil)
    (pss_cons (ps_set (i := 3) sc_law_term_by.nd rfl (Or.inl rfl) (pe_lst pa_nil))
    (pss_cons (ps_for PassesOwn.never rfl (pi_range1 (by rfl) B.range (pa_cons (pe_op op_mod (pe_op op_fdiv (pv 0) pe_int) pe_int) pa_nil)) (pg_name (i := 4) sc_law_term_by.nd rfl (Or.inl rfl)) (pss_one (ps_expr (pe_bm PySem.F.plainAttrs_list PySem.F.slot_list_append PySem.F.type_list_append mt_append (pv 3) (pa_cons (pe_ok G_law_term_by hr (by omega) rfl (pa_cons (pe_ok G_law_part hr (by omega) rfl (pa_cons (pv 0) (pa_cons (pv 4) pa_nil))) (pa_cons (pe_op op_sub (pv 1) pe_int) (pa_cons (pv 2) pa_nil)))) pa_nil)))))
    (pss_one (ps_ret (pe_tup (pa_cons pe_str (pa_cons (pe_ix ix_list (pv 2) (pe_op op_mod (pe_op op_fdiv (pv 0) pe_int) pe_int) (fun _ _ => rfl)) (pa_cons (pe_callTy call_tuple_of (by rfl) B.tuple PyProof.Rows.boot_tuple (pa_cons (pv 3) pa_nil)) pa_nil))))))))), ?_⟩
    have var : ∀ H1, Same H H1 → spVar [.int (sd / 3)] H1 Q E0 := fun H1 s1 => ⟨_, rfl, fun r m H' s2 hr' h0 h1 => q r _ H' (s1.trans s2) hr' (by cases n <;> exact ⟨h0, h1⟩)⟩
    refine ⟨_, rfl, rfl, _, rfl, ?_⟩
    refine ite2 (fun _ => ?_) (fun c => ?_)
    · exact iteT ⟨_, rfl, _, _, rfl, rfl, ⟨by decide, by decide⟩, var H (Same.refl H)⟩
    have c' : ¬ V.int n = V.int 0 := of_decide_eq_false (Bool.eq_false_iff.mpr c)
    have hn0 : n ≠ 0 := fun e => c' (by rw [e]; rfl)
    refine ⟨_, rfl, _, _, rfl, rfl, (by show (0 : Int) < 3; decide), rfl, _, rfl, ?_⟩
    refine ite2 (fun _ => ?_) (fun _ => ?_)
    · exact ⟨_, rfl, _, _, rfl, rfl, ⟨by decide, by decide⟩, var H (Same.refl H)⟩
    rcases hsp with ⟨rfl, _⟩ | ⟨M, rfl, rfl⟩
    · omega
    obtain ⟨m, rfl⟩ : ∃ m, n = m + 1 := ⟨n - 1, by omega⟩
    have h0 := Int.emod_nonneg (sd / 3) (show (4 : Int) ≠ 0 by decide)
    have h1 := Int.emod_lt_of_pos (sd / 3) (show (0 : Int) < 4 by decide)
    refine ⟨(by show 0 ≤ sizeLine; decide), fun pl hpl => ?_⟩
    refine ⟨_, rfl, _, _, rfl, rfl, ⟨by decide, by decide⟩, _, _, rfl, rfl, (by show (0 : Int) < 4; decide), _, rfl, (by omega), (by omega), ?_⟩
    refine for_range (lo := 0) (n := (sd / 3 % 4).toNat) (fun i σ H1 => Same H H1 ∧ ∃ (o : Option V) (xs : List V) (ws : List Wd), σ = [some (.int sd), some (.int ((m + 1 : Nat) : Int)), some (.ref l), some (.ref pl), o] ∧ H1 pl = some (.lst xs) ∧ Rws H1 ws xs ∧ ws.length = i ∧ ∀ w ∈ ws, IsTerm m w)
      ⟨same_new hpl _, none, [], [], rfl, upd_same, .nil, rfl, fun w hw => by cases hw⟩ (fun i σ H1 hi hP => ?_) (fun σ H1 hP => ?_)
    · obtain ⟨s1, o, xs, ws, rfl, hx, hws, hlen, hT⟩ := hP
      refine ⟨_, rfl, .inl ⟨rfl, xs, SqL.of hx⟩, ?_⟩
      refine ⟨_, rfl, _, rfl, _, _, rfl, fun r H2 s2 => ?_⟩
      refine ⟨_, rfl, _, _, rfl, rfl, _, rfl, r, m, l, ?_, (by omega), hl.mono (s1.trans s2), fun v w H3 s3 hv hw => ?_⟩
      · have e : ((m + 1 : Nat) : Int) - 1 = (m : Int) := by omega
        show [V.int r, V.int (((m + 1 : Nat) : Int) - 1), V.ref l] = _
        rw [e]
      · have s4 := s2.trans s3
        have hx3 := s4.at hx
        have hlx := hws.length
        refine ⟨pl, xs, v, rfl, rfl, hx3, (by rw [sizeLine_eq]; omega), ?_⟩
        have k3 := tk_lst hx3 (.lst (xs ++ [v]))
        refine ⟨same_own (s1.trans s4) hpl hx3 _, _, _, ws ++ [w], rfl, upd_same, ((hws.mono (tk_of s4)).snoc hv).mono k3, by rw [List.length_append, hlen]; rfl, fun u hu => ?_⟩
        rcases List.mem_append.mp hu with hu | hu
        · exact hT u hu
        · have : u = w := by simpa using hu
          rw [this]; exact hw
    · obtain ⟨s1, o, xs, ws, rfl, hx, hws, hlen, hT⟩ := hP
      obtain ⟨ns, nm, hl1, hat, hnm⟩ := (hl.mono s1).at (sd / 12)
      refine ⟨_, rfl, _, rfl, _, _, rfl, rfl, ⟨by decide, by decide⟩, _, _, rfl, rfl, (by show (0 : Int) < 3; decide), l, _, _, _, rfl, rfl, SqL.of hl1, hat, ?_⟩
      refine ⟨_, rfl, pl, xs, rfl, .inl ⟨SqL.of hx, fun t ht => ?_⟩⟩
      refine ⟨(by show 3 ≤ sizeLine; decide), fun p hp => ?_⟩
      have s2 := same_new ht (.tup xs)
      have s3 := same_new hp (.tup [.str "fun", .str nm, .ref t])
      refine q (.ref p) (.node .fn nm ws) _ (s1.trans (s2.trans s3)) (.node (hws.mono (tk_of (s2.trans s3))) (.named t rfl upd_same (s3.at upd_same))) ?_
      show _ ∧ _
      exact ⟨rfl, hnm, by omega, hT⟩
  intro N
  induction N with
  | zero => exact step 0 _ (.inl ⟨rfl, rfl⟩) (D.void fun _ _ _ _ h => h)
  | succ N ih => exact step (N + 1) _ (.inr ⟨N, rfl, rfl⟩) ih
def spForm (N : Nat) : Sp := fun vs H Q _ => ∃ (s : Int) (n : Nat) (l : Addr), vs = [.int s, .int n, .ref l] ∧ n ≤ N ∧ Nms H l ∧ ∀ (r : V) (w : Wd) (H' : Hp), Same H H' → Rw H' w r → IsForm n w → Q r H'
theorem ok_law_form_by (D : Def K mg "_law_form_by" s_law_form_by ["seed", "deep", "names"]) (B : Blt mg) (G_law_part : Ok P w K mg base "_law_part" ["seed", "k"] 1 spPart) (G_law_term_by : Ok P w K mg base "_law_term_by" ["seed", "deep", "names"] 4 (spTerm 2)) :
    ∀ N : Nat, Ok P w K mg base "_law_form_by" ["seed", "deep", "names"] (N + 5) (spForm N) := by
  have step : ∀ (N : Nat) (sp : Sp), (N = 0 ∧ sp = (fun _ _ _ _ => False)) ∨ (∃ M, N = M + 1 ∧ sp = spForm M) → Ok P w K mg base "_law_form_by" ["seed", "deep", "names"] (N + 4) sp → Ok P w K mg base "_law_form_by" ["seed", "deep", "names"] (N + 5) (spForm N) := by
    intro N sp hsp G_law_form_by
    refine D.ok sc_law_form_by (fun vs H Q E h => ?_) (fun f cdv A outer s H vs Q E hr h => ?_)
    · obtain ⟨a, n, l, rfl, _⟩ := h
      rfl
    obtain ⟨sd, n, l, rfl, hn, hl, q⟩ := h
    refine ⟨_, (pss_cons (ps_set (i := 3) sc_law_form_by.nd rfl (Or.inl rfl) (pe_op op_mod (pv 0) pe_int))
    (pss_cons (ps_if (pt_cmpR op_eq (pv 3) pe_int (nomark _)) (pss_one (ps_ret (pe_tup (pa_cons pe_str pa_nil)))) pss_nil)
    (pss_cons (ps_set (i := 4) sc_law_form_by.nd rfl (Or.inl rfl) (pe_op op_add pe_int (pe_callTy call_int1 (by rfl) B.int PyProof.Rows.boot_int (pa_cons (pe_cmpR op_eq (pe_op op_mod (pe_op op_fdiv (pv 0) pe_int) pe_int) pe_int (nomark _)) pa_nil))))
    (pss_cons (ps_if (pt_cmpR op_eq (pv 3) pe_int (nomark _)) (pss_cons (ps_set (i := 5) sc_law_form_by.nd rfl (Or.inl rfl) (pe_ok G_law_term_by hr (by omega) rfl (pa_cons (pe_ok G_law_part hr (by omega) rfl (pa_cons (pv 0) (pa_cons pe_int pa_nil))) (pa_cons (pv 4) (pa_cons (pv 2) pa_nil)))))
    (pss_one (ps_ret (pe_tup (pa_cons pe_str (pa_cons (pv 5) (pa_cons (pe_ok G_law_term_by hr (by omega) rfl (pa_cons (pe_ok G_law_part hr (by omega) rfl (pa_cons (pv 0) (pa_cons pe_int pa_nil))) (pa_cons pe_int (pa_cons (pv 2) pa_nil)))) pa_nil))))))) pss_nil)
    (pss_cons (ps_if (PW.pt (pw_or (pt_cmpR op_lt (pv 3) pe_int (nomark _)) (pw_or1 (pt_cmpR op_eq (pv 1) pe_int (nomark _))))) (pss_cons (ps_set (i := 6) sc_law_form_by.nd rfl (Or.inl rfl) (pe_lst pa_nil))
    (pss_cons (ps_for PassesOwn.never rfl (pi_range1 (by rfl) B.range (pa_cons (pe_op op_mod (pe_op op_fdiv (pv 0) pe_int) pe_int) pa_nil)) (pg_name (i := 7) sc_law_form_by.nd rfl (Or.inl rfl)) (pss_one (ps_expr (pe_bm PySem.F.plainAttrs_list PySem.F.slot_list_append PySem.F.type_list_append mt_append (pv 6) (pa_cons (pe_ok G_law_term_by hr (by omega) rfl (pa_cons (pe_ok G_law_part hr (by omega) rfl (pa_cons (pv 0) (pa_cons (pv 7) pa_nil))) (pa_cons (pe_ifExp (pt_cmpR op_eq (pv 7) pe_int (nomark _)) (pv 4) pe_int) (pa_cons (pv 2) pa_nil)))) pa_nil)))))
    (pss_one (ps_ret (pe_tup (pa_cons pe_str (pa_cons (pe_ix ix_list (pv 2) (pe_op op_mod (pe_op op_fdiv (pv 0) pe_int) pe_int) (fun _ _ => rfl)) (pa_cons (pe_callTy call_tuple_of (by rfl) B.tuple PyProof.Rows.boot_tuple (pa_cons (pv 6) pa_nil)) pa_nil)))))))) pss_nil)
    (pss_cons (ps_if (pt_cmpR op_gt (pv 3) pe_int (nomark _)) (pss_one (ps_ret (pe_tup (pa_cons pe_str (pa_cons (pe_ok G_law_form_by hr (by omega) rfl (pa_cons (pe_ok G_law_part hr (by omega) rfl (pa_cons (pv 0) (pa_cons pe_int pa_nil))) (pa_cons (pe_op op_sub (pv 1) pe_int) (pa_cons (pv 2) pa_nil)))) pa_nil))))) pss_nil)
    (pss_cons (ps_set (i := 5) sc_law_form_by.nd rfl (Or.inl rfl) (pe_ok G_law_form_by hr (by omega) rfl (pa_cons (pe_ok G_law_part hr (by omega) rfl (pa_cons (pv 0) (pa_cons pe_int pa_nil))) (pa_cons (pe_op op_sub (pv 1) pe_int) (pa_cons (pv 2) pa_nil)))))
    (pss_one (ps_ret (pe_tup (pa_cons pe_str (pa_cons (pv 5) (pa_cons (pe_ok G_law_form_by hr (by omega) rfl (pa_cons (pe_ok G_law_part hr (by omega) rfl (pa_cons (pv 0) (pa_cons pe_int pa_nil))) (pa_cons (pe_op op_sub (pv 1) pe_int) (pa_cons (pv 2) pa_nil)))) pa_nil))))))))))))), ?_⟩
    refine ⟨_, rfl, _, _, rfl, rfl, (by show (0 : Int) < 8; decide), ?_⟩
    refine ⟨_, rfl, rfl, _, rfl, ite2 (fun _ => ?_) (fun _ => ?_)⟩
    · refine ⟨(by show 1 ≤ sizeLine; decide), fun p hp => ?_⟩
      exact q (.ref p) (.node .no "" []) _ (same_new hp _) (.node .nil (.plain rfl upd_same rfl)) .no
    refine ⟨_, rfl, _, _, rfl, rfl, ⟨by decide, by decide⟩, _, _, rfl, rfl, (by show (0 : Int) < 3; decide), rfl, .inr ⟨_, rfl, _, _, rfl, rfl, ?_⟩⟩
    dsimp only
    obtain ⟨ft, e, hft⟩ := fst_of (decide (V.int (sd / 8 % 3) = V.int 0))
    rw [e]
    refine ⟨_, rfl, rfl, _, rfl, ite2 (fun _ => ?_) (fun _ => ?_)⟩
    · refine ⟨_, rfl, _, _, rfl, fun r H1 s1 => ⟨_, rfl, _, rfl, r, ft, l, rfl, hft, hl.mono s1, fun v w H2 s2 hv hw => ?_⟩⟩
      refine ⟨_, rfl, _, rfl, _, _, rfl, fun r' H3 s3 => ⟨_, rfl, r', 1, l, rfl, (by omega), hl.mono (s1.trans (s2.trans s3)), fun v' w' H4 s4 hv' hw' => ?_⟩⟩
      refine ⟨(by show 3 ≤ sizeLine; decide), fun p hp => ?_⟩
      have s5 := same_new hp (.tup [.str "same", v, v'])
      exact q (.ref p) (.node .same "" [w, w']) _ (s1.trans (s2.trans (s3.trans (s4.trans s5)))) (.node (.cons (hv.mono (tk_of (s3.trans (s4.trans s5)))) (.cons (hv'.mono (tk_of s5)) .nil)) (.plain rfl upd_same rfl)) (.same (hw.mono hft) (hw'.mono (by omega)))
    refine ⟨_, rfl, _, _, rfl, rfl, _, rfl, orJoin ?_ (fun _ hT => ?_)⟩
    · have h0 := Int.emod_nonneg (sd / 24) (show (4 : Int) ≠ 0 by decide)
      have h1 := Int.emod_lt_of_pos (sd / 24) (show (0 : Int) < 4 by decide)
      refine ⟨(by show 0 ≤ sizeLine; decide), fun pl hpl => ?_⟩
      refine ⟨_, rfl, _, _, rfl, rfl, ⟨by decide, by decide⟩, _, _, rfl, rfl, (by show (0 : Int) < 4; decide), _, rfl, (by omega), (by omega), ?_⟩
      refine for_range (lo := 0) (n := (sd / 24 % 4).toNat) (fun i σ H1 => Same H H1 ∧ ∃ (o : Option V) (xs : List V) (ws : List Wd), σ = [some (.int sd), some (.int n), some (.ref l), some (.int (sd % 8)), some (.int ft), none, some (.ref pl), o] ∧ H1 pl = some (.lst xs) ∧ Rws H1 ws xs ∧ ws.length = i ∧ ∀ w ∈ ws, IsTerm 2 w)
        ⟨same_new hpl _, none, [], [], rfl, upd_same, .nil, rfl, fun w hw => by cases hw⟩ (fun i σ H1 hi hP => ?_) (fun σ H1 hP => ?_)
      · obtain ⟨s1, o, xs, ws, rfl, hx, hws, hlen, hT⟩ := hP
        refine ⟨_, rfl, .inl ⟨rfl, xs, SqL.of hx⟩, ?_⟩
        refine ⟨_, rfl, _, rfl, _, _, rfl, fun r H2 s2 => ?_⟩
        have go : ∀ m : Nat, m ≤ 2 → spTerm 2 [.int r, .int m, .ref l] H2 (fun x H1 => rAppend (.ref pl) [x] H1 fun _ H1 => Same H H1 ∧ ∃ (o : Option V) (xs : List V) (ws : List Wd), [some (.int sd), some (.int n), some (.ref l), some (.int (sd % 8)), some (.int ft), none, some (.ref pl), some (.int (0 + i))] = [some (.int sd), some (.int n), some (.ref l), some (.int (sd % 8)), some (.int ft), none, some (.ref pl), o] ∧ H1 pl = some (.lst xs) ∧ Rws H1 ws xs ∧ ws.length = i + 1 ∧ ∀ w ∈ ws, IsTerm 2 w) E0 := by
          intro m hm
          refine ⟨r, m, l, rfl, hm, hl.mono (s1.trans s2), fun v w H3 s3 hv hw => ?_⟩
          have s4 := s2.trans s3
          have hx3 := s4.at hx
          have hlx := hws.length
          refine ⟨pl, xs, v, rfl, rfl, hx3, (by rw [sizeLine_eq]; omega), ?_⟩
          have k3 := tk_lst hx3 (.lst (xs ++ [v]))
          refine ⟨same_own (s1.trans s4) hpl hx3 _, _, _, ws ++ [w], rfl, upd_same, ((hws.mono (tk_of s4)).snoc hv).mono k3, by rw [List.length_append, hlen]; rfl, fun u hu => ?_⟩
          rcases List.mem_append.mp hu with hu | hu
          · exact hT u hu
          · have : u = w := by simpa using hu
            rw [this]; exact hw.mono hm
        refine ⟨_, rfl, rfl, _, rfl, ite2 (fun _ => ?_) (fun _ => ?_)⟩
        · exact ⟨_, rfl, _, rfl, go ft hft⟩
        · exact ⟨_, rfl, go 1 (by omega)⟩
      · obtain ⟨s1, o, xs, ws, rfl, hx, hws, hlen, hT⟩ := hP
        obtain ⟨ns, nm, hl1, hat, hnm⟩ := (hl.mono s1).at (sd / 96)
        refine ⟨_, rfl, _, rfl, _, _, rfl, rfl, ⟨by decide, by decide⟩, _, _, rfl, rfl, (by show (0 : Int) < 3; decide), l, _, _, _, rfl, rfl, SqL.of hl1, hat, ?_⟩
        refine ⟨_, rfl, pl, xs, rfl, .inl ⟨SqL.of hx, fun t ht => ?_⟩⟩
        refine ⟨(by show 3 ≤ sizeLine; decide), fun p hp => ?_⟩
        have s2 := same_new ht (.tup xs)
        have s3 := same_new hp (.tup [.str "rel", .str nm, .ref t])
        exact q (.ref p) (.node .rel nm ws) _ (s1.trans (s2.trans s3)) (.node (hws.mono (tk_of (s2.trans s3))) (.named t rfl upd_same (s3.at upd_same))) (.rel hnm (by omega) hT)
    refine ⟨_, rfl, rfl, _, rfl, ite2 (fun _ => hT) (fun c => ?_)⟩
    have c' : ¬ V.int n = V.int 0 := of_decide_eq_false (Bool.eq_false_iff.mpr c)
    have hn0 : n ≠ 0 := fun e => c' (by rw [e]; rfl)
    rcases hsp with ⟨rfl, _⟩ | ⟨M, rfl, rfl⟩
    · omega
    obtain ⟨m, rfl⟩ : ∃ m, n = m + 1 := ⟨n - 1, by omega⟩
    have em : ∀ r : Int, [V.int r, V.int (((m + 1 : Nat) : Int) - 1), V.ref l] = [V.int r, V.int (m : Int), V.ref l] := fun r => by
      have e : ((m + 1 : Nat) : Int) - 1 = (m : Int) := by omega
      rw [e]
    refine ⟨_, rfl, _, _, rfl, rfl, _, rfl, ite2 (fun _ => ?_) (fun _ => ?_)⟩
    · refine ⟨_, rfl, _, _, rfl, fun r H1 s1 => ⟨_, rfl, _, _, rfl, rfl, _, rfl, r, m, l, em r, (by omega), hl.mono s1, fun v w H2 s2 hv hw => ?_⟩⟩
      refine ⟨(by show 2 ≤ sizeLine; decide), fun p hp => ?_⟩
      have s3 := same_new hp (.tup [.str "all", v])
      exact q (.ref p) (.node .all "" [w]) _ (s1.trans (s2.trans s3)) (.node (.cons (hv.mono (tk_of s3)) .nil) (.plain rfl upd_same rfl)) (.all hw)
    · refine ⟨_, rfl, _, _, rfl, fun r H1 s1 => ⟨_, rfl, _, _, rfl, rfl, _, rfl, r, m, l, em r, (by omega), hl.mono s1, fun v w H2 s2 hv hw => ?_⟩⟩
      refine ⟨_, rfl, _, rfl, _, _, rfl, fun r' H3 s3 => ⟨_, rfl, _, _, rfl, rfl, _, rfl, r', m, l, em r', (by omega), hl.mono (s1.trans (s2.trans s3)), fun v' w' H4 s4 hv' hw' => ?_⟩⟩
      refine ⟨(by show 3 ≤ sizeLine; decide), fun p hp => ?_⟩
      have s5 := same_new hp (.tup [.str "if", v, v'])
      exact q (.ref p) (.node .cond "" [w, w']) _ (s1.trans (s2.trans (s3.trans (s4.trans s5)))) (.node (.cons (hv.mono (tk_of (s3.trans (s4.trans s5)))) (.cons (hv'.mono (tk_of s5)) .nil)) (.plain rfl upd_same rfl)) (.cond hw hw')
  intro N
  induction N with
  | zero => exact step 0 _ (.inl ⟨rfl, rfl⟩) (D.void fun _ _ _ _ h => h)
  | succ N ih => exact step (N + 1) _ (.inr ⟨N, rfl, rfl⟩) ih
def spWhole : Sp := fun vs H Q _ => ∃ a b : Int, vs = [.int a, .int b] ∧ Q (.bl (decide (V.int a = V.int b))) H
theorem ok_law_whole (D : Def K mg "_law_whole" s_law_whole ["found", "due"]) (B : Blt mg) : Ok P w K mg base "_law_whole" ["found", "due"] 1 spWhole := by
  refine D.ok sc_law_whole (fun vs H Q E h => ?_) (fun f cdv A outer s H vs Q E hr h => ?_)
  · obtain ⟨a, b, rfl, _⟩ := h
    rfl
  obtain ⟨a, b, rfl, q⟩ := h
  refine ⟨_, (pss_one (ps_ret (pe_and (pe_callB call_isinst (by rfl) B.isinstance PyProof.Rows.boot_isinstance (pa_cons (pv 0) (pa_cons (pe_ty_int B.int rfl) pa_nil))) (pe_and (pe_not (pe_callB call_isinst (by rfl) B.isinstance PyProof.Rows.boot_isinstance (pa_cons (pv 0) (pa_cons (pe_ty_bool B.bool rfl) pa_nil)))) (pe_one (pe_cmpR op_eq (pv 0) (pv 1) (nomark _))))))), ?_⟩
  refine ⟨_, rfl, .int a, "int", .type "int", true, rfl, .int a, kit_int_int, true, rfl, iteT ?_⟩
  refine ⟨_, rfl, .int a, "bool", .type "int", false, rfl, .int a, kit_int_bool, false, rfl, true, rfl, iteT ?_⟩
  exact ⟨_, rfl, _, rfl, rfl, q⟩
theorem lc_law_value_1 : LcScope "part" ["things", "meant"] (defScope s_law_value) (lcS (exA (stE (stB s_law_value 1)) 0)) := ⟨rfl, by decide +kernel, rfl, by decide +kernel, by decide +kernel, by decide +kernel, by decide +kernel⟩
theorem ok_law_value (D : Def K mg "_law_value" s_law_value ["term", "things", "meant"]) (B : Blt mg) : ∀ n : Nat, Ok P w K mg base "_law_value" ["term", "things", "meant"] (n + 2) (spLV w n)
  | 0 => D.void fun vs H Q E h => by
    obtain ⟨d, l, v, t, m, mI, mB, th, _, _, _, _, h, _⟩ := h
    have := dep_pos t
    omega
  | n + 1 => by
    have G_law_value := ok_law_value D B n
    refine D.ok sc_law_value (fun vs H Q E h => ?_) (fun f cdv A outer s H vs Q E hr h => ?_)
    · obtain ⟨d, l, v, t, m, mI, mB, th, rfl, _⟩ := h
      rfl
    obtain ⟨d, l, v, t, m, mI, mB, th, rfl, hM, hw, ht, hd, hl, q⟩ := h
    obtain ⟨fm, hm, hI, hB⟩ := id hM
    refine ⟨_, (pss_cons (ps_if (pt_cmpR op_eq (pe_ix ix_tup (pv 0) pe_int (fun _ _ => rfl)) pe_str (nomark _)) (pss_one (ps_ret (pe_ifExp (pt_cmpR op_lt (pe_ix ix_tup (pv 0) pe_int (fun _ _ => rfl)) (pe_callB call_len_seq (by rfl) B.len PySem.boot_len (pa_cons (pv 1) pa_nil)) (nomark _)) (pe_ix ix_list (pv 1) (pe_ix ix_tup (pv 0) pe_int (fun _ _ => rfl)) (fun _ _ => rfl)) pe_int))) pss_nil)
    (pss_cons (ps_set (i := 3) sc_law_value.nd rfl (Or.inl rfl) (pe_callTy call_tuple_of (by rfl) B.tuple PyProof.Rows.boot_tuple (pa_cons (pe_lcomp rfl rfl lc_law_value_1 (ix := [1, 2]) rfl (lcN (N := ["term", "things", "meant", "row"]) (by decide +kernel)) (pi_tup (pe_ix ix_tup (pv 0) pe_int (fun _ _ => rfl))) (fun s₃ H₃ fp pins => (pe_ok G_law_value hr (by omega) rfl (pa_cons (pv 0) (pa_cons (pv 1) (pa_cons (pv 2) pa_nil)))))) pa_nil)))
    (pss_one (ps_ret (pe_getN (w := w) (hu9 hr) (pv 2) (pa_cons (pe_tup (pa_cons pe_str (pa_cons (pe_ix ix_tup (pv 0) pe_int (fun _ _ => rfl)) (pa_cons (pv 3) pa_nil)))) (pa_cons pe_int pa_nil))))))), ?_⟩
    cases t with
    | var k =>
      rw [TmW] at ht
      rw [Rw] at hw
      obtain ⟨b, rfl, hb⟩ := hw
      refine ⟨_, rfl, b, _, _, _, rfl, rfl, SqT.of hb, at0, rfl, _, rfl, ?_⟩
      rw [var_var]
      have q' := q H (Same.refl H)
      rw [vlW] at q'
      refine iteT ⟨_, rfl, b, _, _, _, rfl, rfl, SqT.of hb, at1, _, rfl, l, _, rfl, .inl (SqL.of hl), _, _, rfl, rfl, _, rfl, ite2 (fun c => ?_) (fun c => ?_)⟩
      · have c' := of_decide_eq_true c
        rw [List.length_map] at c'
        have hk : k.toNat < th.length := by omega
        have ek : k = ((k.toNat : Nat) : Int) := by omega
        have z : atI (th.map V.int) ((k.toNat : Nat) : Int) = some (.int th[k.toNat]) := atI_nat (by rw [List.getElem?_map, List.getElem?_eq_getElem hk] <;> rfl)
        rw [← ek] at z
        refine ⟨_, rfl, _, rfl, b, _, _, _, rfl, rfl, SqT.of hb, at1, l, _, _, _, rfl, rfl, SqL.of hl, z, ?_⟩
        rw [List.getD_eq_getElem?_getD, List.getElem?_eq_getElem hk] at q'
        exact q'
      · have c' := of_decide_eq_false (Bool.eq_false_iff.mpr c)
        rw [List.length_map] at c'
        rw [List.getD_eq_getElem?_getD, List.getElem?_eq_none (by omega)] at q'
        exact q'
    | node tg nm ps =>
      rw [TmW] at ht
      obtain ⟨rfl, hps, ht⟩ := ht
      obtain ⟨a, b, xs, rfl, ha, hb, hx⟩ := hw.named rfl
      refine ⟨_, rfl, a, _, _, _, rfl, rfl, SqT.of ha, at0, rfl, _, rfl, ?_⟩
      rw [show decide (V.str Tag.fn.s = V.str "var") = false from tag_var .fn]
      refine iteF ⟨_, rfl, a, _, _, _, rfl, rfl, SqT.of ha, at2, b, rfl, ⟨xs, SqT.of hb⟩, ?_⟩
      refine lc_tup2 (xs := xs) (LcI H ps (vlW mI th)) lci_0 (fun i L H2 _ hP => SqT.of (hP.2.1.at hb)) (fun i L x H2 hi hP => ?_) (fun L H2 hP => ?_)
      · obtain ⟨u, hu, ru⟩ := hx.get hi
        have hum := List.mem_of_getElem? hu
        have hd' := dep_parts (w := .node .fn nm ps) (p := u) hum
        exact ⟨_, rfl, _, rfl, _, rfl, d, l, x, u, m, mI, mB, th, rfl, hM.same hP.2.1, ru.mono (tk_of hP.2.1), ht.mem hum, by omega, hP.2.1.at hl, fun H3 s3 => lci_s (R := fun _ H4 => LcI H ps (vlW mI th) (i + 1) L H4) hP hu (by omega) s3 fun _ H4 h4 => h4⟩
      · obtain ⟨hL, s2, hz⟩ := hP
        rw [hx.length, List.take_length, ← vlsW_map] at hz
        refine ⟨L, _, rfl, .inl ⟨SqL.of hz, fun p hp => ?_⟩⟩
        have s3 := s2.trans (same_new hp (.tup ((vlsW mI th ps).map V.int)))
        refine ⟨_, rfl, d, rfl, ⟨_, _, hm.same s3⟩, _, rfl, a, _, _, _, rfl, rfl, SqT.of (s3.at ha), at1, _, rfl, (by show 3 ≤ sizeLine; decide), fun k hk => ?_⟩
        have s4 : Same _ (upd _ k (.tup [.str "fun", .str nm, .ref p])) := same_new hk _
        refine ⟨_, _, _, m, fm, rfl, (hm.same s3).same s4, rd_keyM upd_same (s4.at upd_same), ddep_keyM, ?_⟩
        have e := hI nm (vlsW mI th ps)
        have q' := q _ (s3.trans s4)
        rw [vlW] at q'
        unfold kyM at e
        rw [e]
        exact q'
theorem lc_law_true_1 : LcScope "part" ["things", "meant"] (defScope s_law_true) (lcS (exA (stE (stB (stB s_law_true 1) 0)) 0)) := ⟨rfl, by decide +kernel, rfl, by decide +kernel, by decide +kernel, by decide +kernel, by decide +kernel⟩
theorem ok_law_true (D : Def K mg "_law_true" s_law_true ["form", "things", "meant", "many"]) (B : Blt mg) {nv : Nat} (G_law_value : Ok P w K mg base "_law_value" ["term", "things", "meant"] (nv + 2) (spLV w nv)) :
    ∀ n : Nat, n ≤ nv → Ok P w K mg base "_law_true" ["form", "things", "meant", "many"] (n + nv + 2) (spLT w n)
  | 0, _ => D.void fun vs H Q E h => by
    obtain ⟨d, l, v, t, many, m, mI, mB, th, _, _, _, _, h, _⟩ := h
    have := dep_pos t
    omega
  | n + 1, hnv => by
    have G_law_true := ok_law_true D B G_law_value n (by omega)
    have en : n + 1 + nv + 2 = (n + nv + 2) + 1 := by omega
    rw [en]
    refine D.ok sc_law_true (fun vs H Q E h => ?_) (fun f cdv A outer s H vs Q E hr h => ?_)
    · obtain ⟨d, l, v, t, many, m, mI, mB, th, rfl, _⟩ := h
      rfl
    obtain ⟨d, l, v, t, many, m, mI, mB, th, rfl, hM, hw, ht, hd, hln, hmany, hl, q⟩ := h
    obtain ⟨fm, hm, hI, hB⟩ := id hM
    refine ⟨_, (pss_cons (ps_if (pt_cmpR op_eq (pe_ix ix_tup (pv 0) pe_int (fun _ _ => rfl)) pe_str (nomark _)) (pss_one (ps_ret pe_bl)) pss_nil)
    (pss_cons (ps_if (pt_cmpR op_eq (pe_ix ix_tup (pv 0) pe_int (fun _ _ => rfl)) pe_str (nomark _)) (pss_cons (ps_set (i := 4) sc_law_true.nd rfl (Or.inl rfl) (pe_callTy call_tuple_of (by rfl) B.tuple PyProof.Rows.boot_tuple (pa_cons (pe_lcomp rfl rfl lc_law_true_1 (ix := [1, 2]) rfl (lcN (N := ["form", "things", "meant", "many", "row", "thing"]) (by decide +kernel)) (pi_tup (pe_ix ix_tup (pv 0) pe_int (fun _ _ => rfl))) (fun s₃ H₃ fp pins => (pe_ok G_law_value hr (by omega) rfl (pa_cons (pv 0) (pa_cons (pv 1) (pa_cons (pv 2) pa_nil)))))) pa_nil)))
    (pss_one (ps_ret (pe_cmpR op_eq (pe_getN (w := w) (hu9 hr) (pv 2) (pa_cons (pe_tup (pa_cons pe_str (pa_cons (pe_ix ix_tup (pv 0) pe_int (fun _ _ => rfl)) (pa_cons (pv 4) pa_nil)))) (pa_cons pe_int pa_nil))) pe_int (nomark _))))) pss_nil)
    (pss_cons (ps_if (pt_cmpR op_eq (pe_ix ix_tup (pv 0) pe_int (fun _ _ => rfl)) pe_str (nomark _)) (pss_one (ps_ret (pe_cmpR op_eq (pe_ok G_law_value hr (by omega) rfl (pa_cons (pe_ix ix_tup (pv 0) pe_int (fun _ _ => rfl)) (pa_cons (pv 1) (pa_cons (pv 2) pa_nil)))) (pe_ok G_law_value hr (by omega) rfl (pa_cons (pe_ix ix_tup (pv 0) pe_int (fun _ _ => rfl)) (pa_cons (pv 1) (pa_cons (pv 2) pa_nil)))) (nomark _)))) pss_nil)
    (pss_cons (ps_if (pt_cmpR op_eq (pe_ix ix_tup (pv 0) pe_int (fun _ _ => rfl)) pe_str (nomark _)) (pss_one (ps_ret (pe_or (pe_not (pe_ok G_law_true hr (by omega) rfl (pa_cons (pe_ix ix_tup (pv 0) pe_int (fun _ _ => rfl)) (pa_cons (pv 1) (pa_cons (pv 2) (pa_cons (pv 3) pa_nil)))))) (pe_one (pe_ok G_law_true hr (by omega) rfl (pa_cons (pe_ix ix_tup (pv 0) pe_int (fun _ _ => rfl)) (pa_cons (pv 1) (pa_cons (pv 2) (pa_cons (pv 3) pa_nil))))))))) pss_nil)
    (pss_cons (ps_for PassesOwn.never rfl (pi_range1 (by rfl) B.range (pa_cons (pv 3) pa_nil)) (pg_name (i := 5) sc_law_true.nd rfl (Or.inl rfl)) (pss_one (ps_if (pt_not (pt_val (pe_ok G_law_true hr (by omega) rfl (pa_cons (pe_ix ix_tup (pv 0) pe_int (fun _ _ => rfl)) (pa_cons (pe_op op_cat (pe_lst (pa_cons (pv 5) pa_nil)) (pv 1)) (pa_cons (pv 2) (pa_cons (pv 3) pa_nil))))))) (pss_one (ps_ret pe_bl)) pss_nil)))
    (pss_one (ps_ret pe_bl))))))), ?_⟩
    cases t with
    | var m => simp only [FmW] at ht
    | node t nm ps =>
      obtain ⟨a, ys, rfl, ha⟩ := hw.head
      refine ⟨_, rfl, a, _, _, _, rfl, rfl, SqT.of ha, at0, rfl, _, rfl, ?_⟩
      rw [tag_no]
      refine ite2 (fun c => ?_) (fun c => ?_)
      · have e := of_decide_eq_true c
        subst e
        have q' := q H (Same.refl H)
        simp only [trW] at q'
        exact q'
      have c0 := of_decide_eq_false (Bool.eq_false_iff.mpr c)
      refine ⟨_, rfl, a, _, _, _, rfl, rfl, SqT.of ha, at0, rfl, _, rfl, ?_⟩
      rw [tag_rel]
      refine ite2 (fun c => ?_) (fun c => ?_)
      · have e := of_decide_eq_true c
        subst e
        obtain ⟨a', b, xs, e, ha', hb, hx⟩ := hw.named rfl
        cases e
        simp only [FmW] at ht
        refine ⟨_, rfl, a, _, _, _, rfl, rfl, SqT.of ha', at2, b, rfl, ⟨xs, SqT.of hb⟩, ?_⟩
        refine lc_tup2 (xs := xs) (LcI H ps (vlW mI th)) lci_0 (fun i L H2 _ hP => SqT.of (hP.2.1.at hb)) (fun i L x H2 hi hP => ?_) (fun L H2 hP => ?_)
        · obtain ⟨u, hu, ru⟩ := hx.get hi
          have hum := List.mem_of_getElem? hu
          have hd' := dep_parts (w := .node .rel nm ps) (p := u) hum
          exact ⟨_, rfl, _, rfl, _, rfl, d, l, x, u, m, mI, mB, th, rfl, hM.same hP.2.1, ru.mono (tk_of hP.2.1), ht.2.mem hum, by omega, hP.2.1.at hl, fun H3 s3 => lci_s (R := fun _ H4 => LcI H ps (vlW mI th) (i + 1) L H4) hP hu (by omega) s3 fun _ H4 h4 => h4⟩
        · obtain ⟨hL, s2, hz⟩ := hP
          rw [hx.length, List.take_length, ← vlsW_map] at hz
          refine ⟨L, _, rfl, .inl ⟨SqL.of hz, fun p hp => ?_⟩⟩
          have s3 := s2.trans (same_new hp (.tup ((vlsW mI th ps).map V.int)))
          refine ⟨_, rfl, d, rfl, ⟨_, _, hm.same s3⟩, _, rfl, a, _, _, _, rfl, rfl, SqT.of (s3.at ha'), at1, _, rfl, (by show 3 ≤ sizeLine; decide), fun k hk => ?_⟩
          have s4 : Same _ (upd _ k (.tup [.str "rel", .str nm, .ref p])) := same_new hk _
          refine ⟨_, _, _, m, fm, rfl, (hm.same s3).same s4, rd_keyM upd_same (s4.at upd_same), ddep_keyM, ?_⟩
          have e := hB nm (vlsW mI th ps)
          have q' := q _ (s3.trans s4)
          simp only [trW] at q'
          unfold kyM at e
          rw [e]
          refine ⟨rfl, ?_⟩
          rw [dec_int', dec_bi1]
          exact q'
      have c1 := of_decide_eq_false (Bool.eq_false_iff.mpr c)
      refine ⟨_, rfl, a, _, _, _, rfl, rfl, SqT.of ha, at0, rfl, _, rfl, ?_⟩
      rw [tag_same]
      refine ite2 (fun c => ?_) (fun c => ?_)
      · have e := of_decide_eq_true c
        subst e
        obtain ⟨a', xs, e, ha', hx, _⟩ := hw.plain rfl
        cases e
        simp only [FmW] at ht
        obtain ⟨hl2, ht⟩ := ht
        match ps, hl2, ht, hx, hd, q with
        | [x, y], _, ht, hx, hd, q =>
          rw [Rws] at hx
          obtain ⟨vx, r, rfl, rx, hx⟩ := hx
          rw [Rws] at hx
          obtain ⟨vy, r, rfl, ry, hx⟩ := hx
          rw [Rws] at hx
          subst hx
          have d1 := dep_parts (w := .node .same nm [x, y]) (p := x) (by simp [Wd.parts])
          have d2 := dep_parts (w := .node .same nm [x, y]) (p := y) (by simp [Wd.parts])
          refine ⟨_, rfl, a, _, _, _, rfl, rfl, SqT.of ha', at1, _, rfl, _, rfl, d, l, vx, x, m, mI, mB, th, rfl, hM, rx, ht.mem (by simp), (by omega), hl, fun H1 s1 => ?_⟩
          refine ⟨_, rfl, a, _, _, _, rfl, rfl, SqT.of (s1.at ha'), at2, _, rfl, _, rfl, d, l, vy, y, m, mI, mB, th, rfl, hM.same s1, ry.mono (tk_of s1), ht.mem (by simp), (by omega), s1.at hl, fun H2 s2 => ?_⟩
          refine ⟨rfl, ?_⟩
          have q' := q H2 (s1.trans s2)
          simp only [trW, vlsW] at q'
          rw [dec_int']
          exact q'
      have c2 := of_decide_eq_false (Bool.eq_false_iff.mpr c)
      refine ⟨_, rfl, a, _, _, _, rfl, rfl, SqT.of ha, at0, rfl, _, rfl, ?_⟩
      rw [tag_if]
      refine ite2 (fun c => ?_) (fun c => ?_)
      · have e := of_decide_eq_true c
        subst e
        obtain ⟨a', xs, e, ha', hx, _⟩ := hw.plain rfl
        cases e
        simp only [FmW] at ht
        obtain ⟨hl2, ht⟩ := ht
        match ps, hl2, ht, hx, hd, q with
        | [x, y], _, ht, hx, hd, q =>
          rw [Rws] at hx
          obtain ⟨vx, r, rfl, rx, hx⟩ := hx
          rw [Rws] at hx
          obtain ⟨vy, r, rfl, ry, hx⟩ := hx
          rw [Rws] at hx
          subst hx
          simp only [FmWL] at ht
          have d1 := dep_parts (w := .node .cond nm [x, y]) (p := x) (by simp [Wd.parts])
          have d2 := dep_parts (w := .node .cond nm [x, y]) (p := y) (by simp [Wd.parts])
          refine ⟨_, rfl, a, _, _, _, rfl, rfl, SqT.of ha', at1, _, rfl, _, rfl, _, rfl, d, l, vx, x, many, m, mI, mB, th, rfl, hM, rx, ht.1, (by omega), (by omega), hmany, hl, fun H1 s1 => ⟨_, rfl, _, rfl, ?_⟩⟩
          cases e1 : trW mI mB many x th with
          | false =>
            refine iteT ?_
            have q' := q H1 s1
            simp only [trW, trH, e1] at q'
            exact q'
          | true =>
            refine iteF ⟨_, rfl, a, _, _, _, rfl, rfl, SqT.of (s1.at ha'), at2, _, rfl, _, rfl, _, rfl, d, l, vy, y, many, m, mI, mB, th, rfl, hM.same s1, ry.mono (tk_of s1), ht.2.1, (by omega), (by omega), hmany, s1.at hl, fun H2 s2 => ?_⟩
            have q' := q H2 (s1.trans s2)
            simp only [trW, trH, trT, e1] at q'
            exact q'
      have c3 := of_decide_eq_false (Bool.eq_false_iff.mpr c)
      have e : t = .all := by
        cases t <;> first | rfl | exact absurd rfl c0 | exact absurd rfl c1 | exact absurd rfl c2 | exact absurd rfl c3 | (simp only [FmW] at ht)
      subst e
      obtain ⟨a', xs, e, ha', hx, _⟩ := hw.plain rfl
      cases e
      simp only [FmW] at ht
      obtain ⟨hl2, ht⟩ := ht
      match ps, hl2, ht, hx, hd, q with
      | [x], _, ht, hx, hd, q =>
        rw [Rws] at hx
        obtain ⟨vx, r, rfl, rx, hx⟩ := hx
        rw [Rws] at hx
        subst hx
        simp only [FmWL] at ht
        have d1 := dep_parts (w := .node .all nm [x]) (p := x) (by simp [Wd.parts])
        refine ⟨_, rfl, (many : Int), rfl, (by omega), (by omega), ?_⟩
        refine for_range (lo := 0) (n := many) (fun i σ H1 => Same H H1 ∧ (∀ j, j < i → trW mI mB many x ((j : Int) :: th) = true) ∧ ∃ o1 o2 : Option V, σ = [some (.ref a), some (.ref l), some (.ref d), some (.int many), o1, o2])
          ⟨Same.refl H, fun j hj => by omega, none, none, rfl⟩ (fun i σ H1 hi hP => ?_) (fun σ H1 hP => ?_)
        · obtain ⟨s1, hall, o1, o2, rfl⟩ := hP
          refine ⟨_, rfl, a, _, _, _, rfl, rfl, SqT.of (s1.at ha'), at1, _, rfl, (by show 1 ≤ sizeLine; decide), fun p hp => ?_⟩
          have s2 := s1.trans (same_new hp (.lst [.int (0 + (i : Int))]))
          refine ⟨_, rfl, p, l, _, _, rfl, rfl, upd_same, s2.at hl, (by rw [sizeLine_eq, List.length_map]; simp only [List.length_cons, List.length_nil]; omega), fun p2 hp2 => ?_⟩
          have s3 := s2.trans (same_new hp2 (.lst ([V.int (0 + (i : Int))] ++ th.map V.int)))
          refine ⟨_, rfl, _, rfl, d, p2, vx, x, many, m, mI, mB, (i : Int) :: th, rfl, hM.same s3, rx.mono (tk_of s3), ht.1, (by omega), (by rw [List.length_cons]; omega), hmany, ?_, fun H4 s4 => ⟨_, rfl, ?_⟩⟩
          · rw [upd_same]
            show some (HO.lst (V.int (0 + (i : Int)) :: th.map V.int)) = _
            rw [Int.zero_add]; rfl
          · cases e1 : trW mI mB many x ((i : Int) :: th) with
            | true =>
              refine iteF ⟨s3.trans s4, fun j hj => ?_, _, _, rfl⟩
              by_cases hji : j = i
              · rw [hji]; exact e1
              · exact hall j (by omega)
            | false =>
              refine iteT ?_
              have q' := q H4 (s3.trans s4)
              simp only [trW, trH] at q'
              rw [List.all_eq_false.mpr ⟨i, List.mem_range.mpr hi, by rw [e1]; exact Bool.false_ne_true⟩] at q'
              exact q'
        · obtain ⟨s1, hall, o1, o2, rfl⟩ := hP
          have q' := q H1 s1
          simp only [trW, trH] at q'
          rw [List.all_eq_true.mpr fun j hj => hall j (List.mem_range.mp hj)] at q'
          exact q'
def spNoThing (CN : Addr) : Sp := fun vs H Q _ => ∃ ea, vs = [.ref ea] ∧ H ea = some (.ext (IsEx ea (.ref CN))) ∧ Q (.bl true) H
theorem ok_law_is_no_thing {C_Unfit C_NoSeal C_NoThing C_NoWord C_TooLarge : Addr} (D : Def K mg "_law_is_no_thing" s_law_is_no_thing ["e"]) (B : Blt mg) (E_Unfit : ECls K mg base "Unfit" C_Unfit) (E_NoSeal : ECls K mg base "NoSeal" C_NoSeal) (E_NoThing : ECls K mg base "NoThing" C_NoThing) (E_NoWord : ECls K mg base "NoWord" C_NoWord) (E_TooLarge : ECls K mg base "TooLarge" C_TooLarge)
    (k1 : PySem.W.kitOne K (.ref C_NoThing) (.ref C_NoSeal) = some false) (k2 : PySem.W.kitOne K (.ref C_NoThing) (.ref C_NoWord) = some false) (k3 : PySem.W.kitOne K (.ref C_NoThing) (.ref C_TooLarge) = some false) (k4 : PySem.W.kitOne K (.ref C_NoThing) (.ref C_Unfit) = some false)
    (k5 : PySem.W.kitOne K (.ref C_NoThing) (.ref C_NoThing) = some true) (k6 : PySem.W.kitOne K (.ref C_NoThing) (.type "ValueError") = some true) : OkH P w K mg base "_law_is_no_thing" ["e"] 1 (spNoThing C_NoThing) := by
  refine D.okH sc_law_is_no_thing (fun vs H Q E h => ?_) (fun f cdv A outer s H vs Q hr h => ?_)
  · obtain ⟨ea, rfl, _⟩ := h
    rfl
  obtain ⟨ea, rfl, he, q⟩ := h
  refine ⟨_, (pss_cons (ps_set (i := 1) sc_law_is_no_thing.nd rfl (Or.inl rfl) (pe_or (pe_callB (call_isinstX (K := K) rfl) (by rfl) B.isinstance PyProof.Rows.boot_isinstance (pa_cons (pv 0) (pa_cons (pe_cls (by rfl) E_NoSeal.bound) pa_nil))) (pe_or (pe_callB (call_isinstX (K := K) rfl) (by rfl) B.isinstance PyProof.Rows.boot_isinstance (pa_cons (pv 0) (pa_cons (pe_cls (by rfl) E_NoWord.bound) pa_nil))) (pe_or (pe_callB (call_isinstX (K := K) rfl) (by rfl) B.isinstance PyProof.Rows.boot_isinstance (pa_cons (pv 0) (pa_cons (pe_cls (by rfl) E_TooLarge.bound) pa_nil))) (pe_one (pe_callB (call_isinstX (K := K) rfl) (by rfl) B.isinstance PyProof.Rows.boot_isinstance (pa_cons (pv 0) (pa_cons (pe_cls (by rfl) E_Unfit.bound) pa_nil))))))))
    (pss_one (ps_ret (pe_and (pe_callB (call_isinstX (K := K) rfl) (by rfl) B.isinstance PyProof.Rows.boot_isinstance (pa_cons (pv 0) (pa_cons (pe_cls (by rfl) E_NoThing.bound) pa_nil))) (pe_and (pe_callB (call_isinstX (K := K) rfl) (by rfl) B.isinstance PyProof.Rows.boot_isinstance (pa_cons (pv 0) (pa_cons (pe_ty_ValueError B.ValueError (by rfl)) pa_nil))) (pe_one (pe_not (pv 1)))))))), ?_⟩
  refine ⟨_, rfl, ea, _, _, _, _, rfl, he, rfl, E_NoThing.exk, k1, _, rfl, iteF ?_⟩
  refine ⟨_, rfl, ea, _, _, _, _, rfl, he, rfl, E_NoThing.exk, k2, _, rfl, iteF ?_⟩
  refine ⟨_, rfl, ea, _, _, _, _, rfl, he, rfl, E_NoThing.exk, k3, _, rfl, iteF ?_⟩
  refine ⟨_, rfl, ea, _, _, _, _, rfl, he, rfl, E_NoThing.exk, k4, ?_⟩
  refine ⟨_, rfl, ea, _, _, _, _, rfl, he, rfl, E_NoThing.exk, k5, _, rfl, iteT ?_⟩
  refine ⟨_, rfl, ea, _, _, _, _, rfl, he, rfl, E_NoThing.exk, k6, _, rfl, iteT ?_⟩
  exact ⟨_, rfl, _, rfl, q⟩
theorem lc_law_spread_1 : LcScope "part" ["by"] (defScope s_law_spread) (lcS (exA (exA (stE (stB (stB s_law_spread 2) 0)) 2) 0)) := ⟨rfl, by decide +kernel, rfl, by decide +kernel, by decide +kernel, by decide +kernel, by decide +kernel⟩
theorem lc_law_spread_2 : LcScope "part" ["by"] (defScope s_law_spread) (lcS (exR (exA (stE (stB s_law_spread 3)) 0))) := ⟨rfl, by decide +kernel, rfl, by decide +kernel, by decide +kernel, by decide +kernel, by decide +kernel⟩
def spSpread (n : Nat) : Sp := fun vs H Q _ => ∃ v w, ∃ b0 : Int, vs = [v, .int b0] ∧ Rw H w v ∧ Her noOk w ∧ dep w ≤ n ∧ knots w ≤ 1000 ∧ ∀ r H', Same H H' → Rw H' (chg (fun k _ => .var ((k * 7 + b0) % 24)) w 0) r → Q r H'
theorem ok_law_spread (D : Def K mg "_law_spread" s_law_spread ["word", "by"]) (B : Blt mg) : ∀ n : Nat, Ok P w K mg base "_law_spread" ["word", "by"] n (spSpread n)
  | 0 => D.void fun vs H Q E h => by
    obtain ⟨v, w, b0, _, _, _, h, _⟩ := h
    have := dep_pos w
    omega
  | n + 1 => by
    have G_law_spread := ok_law_spread D B n
    refine D.ok sc_law_spread (fun vs H Q E h => ?_) (fun f cdv A outer s H vs Q E hr h => ?_)
    · obtain ⟨v, w, b0, rfl, _⟩ := h
      rfl
    obtain ⟨v, w, b0, rfl, hw, hh, hd, hk, q⟩ := h
    refine ⟨_, (pss_cons (ps_if (pt_cmpR op_eq (pe_ix ix_tup (pv 0) pe_int (fun _ _ => rfl)) pe_str (nomark _)) (pss_one (ps_ret (pe_tup (pa_cons pe_str (pa_cons (pe_op op_mod (pe_op op_add (pe_op op_mul (pe_ix ix_tup (pv 0) pe_int (fun _ _ => rfl)) pe_int) (pv 1)) pe_int) pa_nil))))) pss_nil)
    (pss_cons (ps_if (pt_cmpR op_eq (pe_ix ix_tup (pv 0) pe_int (fun _ _ => rfl)) pe_str (nomark _)) (pss_one (ps_ret (pv 0))) pss_nil)
    (pss_cons (ps_if (PW.pt (pw_or (pt_cmpR op_eq (pe_ix ix_tup (pv 0) pe_int (fun _ _ => rfl)) pe_str (nomark _)) (pw_or1 (pt_cmpR op_eq (pe_ix ix_tup (pv 0) pe_int (fun _ _ => rfl)) pe_str (nomark _))))) (pss_one (ps_ret (pe_tup (pa_cons (pe_ix ix_tup (pv 0) pe_int (fun _ _ => rfl)) (pa_cons (pe_ix ix_tup (pv 0) pe_int (fun _ _ => rfl)) (pa_cons (pe_callTy call_tuple_of (by rfl) B.tuple PyProof.Rows.boot_tuple (pa_cons (pe_lcomp rfl rfl lc_law_spread_1 (ix := [1]) rfl (lcN (N := ["word", "by"]) (by decide +kernel)) (pi_tup (pe_ix ix_tup (pv 0) pe_int (fun _ _ => rfl))) (fun s₃ H₃ fp pins => (pe_ok G_law_spread hr (by omega) rfl (pa_cons (pv 0) (pa_cons (pv 1) pa_nil))))) pa_nil)) pa_nil)))))) pss_nil)
    (pss_one (ps_ret (pe_callTy call_tuple_of (by rfl) B.tuple PyProof.Rows.boot_tuple (pa_cons (pe_op op_cat (pe_lst (pa_cons (pe_ix ix_tup (pv 0) pe_int (fun _ _ => rfl)) pa_nil)) (pe_lcomp rfl rfl lc_law_spread_2 (ix := [1]) rfl (lcN (N := ["word", "by"]) (by decide +kernel)) (pi_tup (pe_slice sl_tup (pv 0) (po_some pe_int) po_none)) (fun s₃ H₃ fp pins => (pe_ok G_law_spread hr (by omega) rfl (pa_cons (pv 0) (pa_cons (pv 1) pa_nil)))))) pa_nil))))))), ?_⟩
    cases w with
    | var m =>
      rw [Rw] at hw
      obtain ⟨a, rfl, ha⟩ := hw
      refine ⟨_, rfl, a, _, _, _, rfl, rfl, SqT.of ha, at0, rfl, _, rfl, ?_⟩
      rw [var_var]
      refine iteT ⟨_, rfl, a, _, _, _, rfl, rfl, SqT.of ha, at1, _, _, rfl, rfl, .inr ⟨(by decide), (by decide)⟩, _, rfl, _, _, rfl, rfl, _, _, rfl, rfl, (by show (0 : Int) < 24; decide), (by show 2 ≤ sizeLine; decide), fun p hp => ?_⟩
      refine q (.ref p) _ (same_new hp _) ?_
      rw [chg]
      exact .var upd_same
    | node t nm ps =>
      have hkl := node_len hk
      have ec : ∀ d, (ps.map fun w => chg (fun k _ => .var ((k * 7 + b0) % 24)) w d) = ps.map fun u => chg (fun k _ => .var ((k * 7 + b0) % 24)) u 0 := fun d => List.map_congr_left fun u _ => chg_const (h := fun k => .var ((k * 7 + b0) % 24)) u _ _
      -- the comprehension over the parts
      obtain ⟨a, ys, rfl, ha⟩ := hw.head
      refine ⟨_, rfl, a, _, _, _, rfl, rfl, SqT.of ha, at0, rfl, _, rfl, ?_⟩
      rw [tag_var]
      refine iteF ⟨_, rfl, a, _, _, _, rfl, rfl, SqT.of ha, at0, rfl, _, rfl, ?_⟩
      rw [tag_no]
      refine ite2 (fun c => ?_) (fun _ => ?_)
      · have e := of_decide_eq_true c
        subst e
        have e := her_at hh nm ps rfl
        subst e
        refine ⟨_, rfl, q _ H (Same.refl H) ?_⟩
        rw [chg, chgL]; exact hw
      refine ⟨_, rfl, a, _, _, _, rfl, rfl, SqT.of ha, at0, rfl, _, rfl, ?_⟩
      rw [tag_fun]
      cases hn : t.named with
      | true =>
        obtain ⟨a', b, xs, e, ha', hb, hx⟩ := hw.named hn
        cases e
        have turn : ∀ (i : Nat) (L : Addr) (x : V) (H2 : Hp), xs[i]? = some x → LcW H ps (fun u => chg (fun k _ => .var ((k * 7 + b0) % 24)) u 0) i L H2 → spSpread n [x, .int b0] H2 (fun y H3 => rAppend (.ref L) [y] H3 fun _ H4 => LcW H ps (fun u => chg (fun k _ => .var ((k * 7 + b0) % 24)) u 0) (i + 1) L H4) E0 := by
          intro i L x H2 hi hP
          obtain ⟨u, hu, ru⟩ := hx.get hi
          have hum := List.mem_of_getElem? hu
          obtain ⟨hd', hk'⟩ := node_mem hum hd hk
          exact ⟨x, u, b0, rfl, ru.mono (tk_of hP.2.1), herL_mem (her_parts hh) hum, hd', hk', fun r H3 s3 hr3 => lcw_s hP hu hkl s3 hr3⟩
        have fin : ∀ (L : Addr) (H2 : Hp), LcW H ps (fun u => chg (fun k _ => .var ((k * 7 + b0) % 24)) u 0) xs.length L H2 → ∃ zs : List V, H2 L = some (.lst zs) ∧ ∀ t2, H2 t2 = none → ∀ p3, upd H2 t2 (.tup zs) p3 = none → Q (.ref p3) (upd (upd H2 t2 (.tup zs)) p3 (.tup [.str t.s, .str nm, .ref t2])) := by
          intro L H2 hP
          obtain ⟨s2, zs, hz, hzl, hzs⟩ := lcw_e hP hx.length
          refine ⟨zs, hz, fun t2 ht2 p3 hp3 => ?_⟩
          have s3 := same_new ht2 (.tup zs)
          have s4 := same_new hp3 (.tup [.str t.s, .str nm, .ref t2])
          refine q (.ref p3) _ (s2.trans (s3.trans s4)) ?_
          rw [chg_node, ec]
          exact .node (hzs.mono (tk_of (s3.trans s4))) (.named t2 hn upd_same (s4.at upd_same))
        refine ite2 (fun c => iteT ?_) (fun c => ?_)
        · refine ⟨_, rfl, a, _, _, _, rfl, rfl, SqT.of ha', at0, _, rfl, a, _, _, _, rfl, rfl, SqT.of ha', at1, _, rfl, a, _, _, _, rfl, rfl, SqT.of ha', at2, b, rfl, ⟨xs, SqT.of hb⟩, ?_⟩
          refine lc_tup2 (xs := xs) (LcW H ps fun u => chg (fun k _ => .var ((k * 7 + b0) % 24)) u 0) lcw_0 (fun i L H2 _ hP => SqT.of (hP.2.1.at hb)) (fun i L x H2 hi hP => ⟨_, rfl, _, rfl, turn i L x H2 hi hP⟩) (fun L H2 hP => ?_)
          obtain ⟨zs, hz, k⟩ := fin L H2 hP
          exact ⟨L, zs, rfl, .inl ⟨SqL.of hz, fun t2 ht2 => ⟨(by show 3 ≤ sizeLine; decide), fun p3 hp3 => k t2 ht2 p3 hp3⟩⟩⟩
        · refine ⟨_, rfl, a, _, _, _, rfl, rfl, SqT.of ha', at0, rfl, _, rfl, ?_⟩
          rw [tag_rel, decide_eq_true (fnrel hn (of_decide_eq_false (Bool.eq_false_iff.mpr c)))]
          refine iteT ⟨_, rfl, a, _, _, _, rfl, rfl, SqT.of ha', at0, _, rfl, a, _, _, _, rfl, rfl, SqT.of ha', at1, _, rfl, a, _, _, _, rfl, rfl, SqT.of ha', at2, b, rfl, ⟨xs, SqT.of hb⟩, ?_⟩
          refine lc_tup2 (xs := xs) (LcW H ps fun u => chg (fun k _ => .var ((k * 7 + b0) % 24)) u 0) lcw_0 (fun i L H2 _ hP => SqT.of (hP.2.1.at hb)) (fun i L x H2 hi hP => ⟨_, rfl, _, rfl, turn i L x H2 hi hP⟩) (fun L H2 hP => ?_)
          obtain ⟨zs, hz, k⟩ := fin L H2 hP
          exact ⟨L, zs, rfl, .inl ⟨SqL.of hz, fun t2 ht2 => ⟨(by show 3 ≤ sizeLine; decide), fun p3 hp3 => k t2 ht2 p3 hp3⟩⟩⟩
      | false =>
        obtain ⟨a', xs, e, ha', hx, hm⟩ := hw.plain hn
        cases e
        rw [decide_eq_false (nfn hn)]
        refine iteF ⟨_, rfl, a, _, _, _, rfl, rfl, SqT.of ha', at0, rfl, _, rfl, ?_⟩
        rw [tag_rel, decide_eq_false (nrel hn)]
        refine iteF ⟨_, rfl, a, _, _, _, rfl, rfl, SqT.of ha', at0, (by show 1 ≤ sizeLine; decide), fun p2 hp2 => ?_⟩
        have s2 := same_new hp2 (.lst [.str t.s])
        refine ⟨_, rfl, 1, rfl, a, _, rfl, SqT.of (s2.at ha'), ?_, fun p3 hp3 => ?_⟩
        · rintro ⟨e, _⟩
          rw [List.length_cons, sIx_one] at e
          omega
        rw [cut_tail]
        have s3 := same_new hp3 (.tup xs)
        have s23 := s2.trans s3
        refine ⟨p3, rfl, ⟨xs, SqT.of upd_same⟩, ?_⟩
        refine lc_tup2 (xs := xs) (LcW (upd (upd H p2 (.lst [.str t.s])) p3 (.tup xs)) ps fun u => chg (fun k _ => .var ((k * 7 + b0) % 24)) u 0) lcw_0 (fun i L H2 _ hP => SqT.of (hP.2.1.at upd_same)) (fun i L x H2 hi hP => ?_) (fun L H2 hP => ?_)
        · obtain ⟨u, hu, ru⟩ := hx.get hi
          have hum := List.mem_of_getElem? hu
          obtain ⟨hd', hk'⟩ := node_mem hum hd hk
          exact ⟨_, rfl, _, rfl, x, u, b0, rfl, ru.mono (tk_of (s23.trans hP.2.1)), herL_mem (her_parts hh) hum, hd', hk', fun r H3 s4 hr3 => lcw_s hP hu hkl s4 hr3⟩
        · obtain ⟨s4, zs, hz, hzl, hzs⟩ := lcw_e hP hx.length
          refine ⟨p2, L, _, zs, rfl, rfl, (s3.trans s4).at upd_same, hz, (by rw [sizeLine_eq, List.length_singleton]; omega), fun p5 hp5 => ?_⟩
          have s5 := same_new hp5 (.lst ([.str t.s] ++ zs))
          refine ⟨p5, _, rfl, .inl ⟨SqL.of upd_same, fun p6 hp6 => ?_⟩⟩
          have s6 := same_new hp6 (.tup ([.str t.s] ++ zs))
          refine q (.ref p6) _ (s23.trans (s4.trans (s5.trans s6))) ?_
          rw [chg_node, ec]
          exact .node (hzs.mono (tk_of (s5.trans s6))) (.plain hn upd_same hm)
def spRefused (w : World) (C : Addr) : Sp := fun vs H Q _ => ∃ (a dm df l : Addr) (nm : Str) (x sd : Int) (many n : Nat) (mI : MI) (mB : MB) (row : List Int), vs = [.ref a, .str nm, .ref l, .int x, .int sd] ∧ WAt w C H a dm df many n mI mB ∧ n < 1000 ∧ H l = some (.lst (row.map V.int)) ∧ row.length ≤ 1000 ∧
  (∀ i ∈ x :: row, -1 ≤ i ∧ i ≤ 11) ∧ (∃ i ∈ if sd % 2 = 0 then x :: row else row, ¬ (0 ≤ i ∧ i < many)) ∧ ∀ H', Same H H' → Q (.bl true) H'
theorem ok_law_refused {C CN CH : Addr} (D : Def K mg "_law_refused" s_law_refused ["world", "name", "row", "thing", "seed"]) (T_World : TC K C ["size", "meanings", "facts"]) (E_HallError : ECls K mg base "HallError" CH) (x1 : PySem.W.exmOne K (.ref CN) (.ref CH) = some true) (G_World_means : MOk (CX1 P w) P w K mg base C "means" ["self", "name", "parts", "thing"] 2 (spMeans w K C CN) [])
    (G_World_so : MOk (CX1 P w) P w K mg base C "so" ["self", "name", "parts", "answer"] 2 (spSo w K C CN) [.bl true]) (G_law_is_no_thing : OkH P w K mg base "_law_is_no_thing" ["e"] 1 (spNoThing CN)) : Ok P w K mg base "_law_refused" ["world", "name", "row", "thing", "seed"] 3 (spRefused w C) := by
  refine D.ok sc_law_refused (fun vs H Q E h => ?_) (fun f cdv A outer s H vs Q E hr h => ?_)
  · obtain ⟨a, dm, df, l, nm, x, sd, many, n, mI, mB, row, rfl, _⟩ := h
    rfl
  obtain ⟨a, dm, df, l, nm, x, sd, many, n, mI, mB, row, rfl, hw, hn, hl, hlen, hb, hbad, q⟩ := h
  obtain ⟨dx, fm, fg, ha, _⟩ := id hw
  refine ⟨_, (pss_cut (ps_try ⟨rfl, rfl⟩ rfl (fun pins R => (pss_one (ps_if (pt_cmpR op_eq (pe_op op_mod (pv 4) pe_int) pe_int (nomark _)) (pss_one (ps_expr (pe_mokX G_World_means T_World.cl rfl hr (by omega) (pv 0) (pa_cons (pv 1) (pa_cons (pv 2) (pa_cons (pv 3) pa_nil)))))) (pss_one (ps_expr (pe_mokXD G_World_so T_World.cl rfl hr (by omega) (pv 0) (pa_cons (pv 1) (pa_cons (pv 2) pa_nil)))))))) (ph_as (i := 5) sc_law_refused.nd rfl rfl (by rfl) E_HallError.bound (fun ea => (pss_one (ps_ret (pe_okH G_law_is_no_thing ((RoomH.of hr _).mono (by omega)) (by rfl) (pa_cons (pv 5) pa_nil))))) ph_nil))
    (pss_one (ps_ret pe_bl))), ?_⟩
  refine ⟨fun _ _ => False, ?_, fun _ _ z => z.elim⟩
  have out : ∀ H1, Same H H1 → ∀ ea, H1 ea = none → spNoThing CN ([V.ref ea] ++ []) (upd H1 ea (.ext (IsEx ea (.ref CN)))) (fun v H' => Q v H') E0 := fun H1 s1 ea he => ⟨ea, rfl, upd_same, q _ (s1.trans (same_new he _))⟩
  refine ⟨_, rfl, _, _, rfl, rfl, (by show (0 : Int) < 2; decide), rfl, _, rfl, ite2 (fun c => ?_) (fun c => ?_)⟩
  · have c' : sd % 2 = 0 := by have := of_decide_eq_true c; injection this
    rw [if_pos c'] at hbad
    refine ⟨_, rfl, a, dx, _, rfl, ha, rfl, _, rfl, _, rfl, _, rfl, a, dm, df, l, nm, x, many, n, mI, mB, row, rfl, hw, hn, hl, hlen, hb, fun ok => ?_, fun bad H1 s1 => ?_⟩
    · obtain ⟨i, hi, no⟩ := hbad
      exact absurd (ok i hi) no
    · exact ⟨true, x1, iteT fun ea he => ⟨_, rfl, out H1 s1 ea he⟩⟩
  · have c' : ¬ sd % 2 = 0 := fun e => c (by show decide (V.int (sd % 2) = V.int 0) = true; rw [e]; decide)
    rw [if_neg c'] at hbad
    refine ⟨_, rfl, a, dx, _, rfl, ha, rfl, _, rfl, _, rfl, a, dm, df, l, nm, true, many, n, mI, mB, row, rfl, hw, hn, hl, hlen, (fun i hi => hb i (List.mem_cons_of_mem _ hi)), fun ok => ?_, fun bad H1 s1 => ?_⟩
    · obtain ⟨i, hi, no⟩ := hbad
      exact absurd (ok i hi) no
    · exact ⟨true, x1, iteT fun ea he => ⟨_, rfl, out H1 s1 ea he⟩⟩
theorem lc_law_told_1 : LcScope "k" ["seed", "many"] (defScope s_law_told) (lcS (stE (stB s_law_told 2))) := ⟨rfl, by decide +kernel, rfl, by decide +kernel, by decide +kernel, by decide +kernel, by decide +kernel⟩
theorem ok_law_told {C CN : Addr} (D : Def K mg "_law_told" s_law_told ["world", "meant", "cell", "names", "many"]) (B : Blt mg) (T_World : TC K C ["size", "meanings", "facts"]) (G_law_next : Ok P w K mg base "_law_next" ["seed"] 1 spNext) (G_law_refused : Ok P w K mg base "_law_refused" ["world", "name", "row", "thing", "seed"] 3 (spRefused w C))
    (G_World_means : MOk (CX1 P w) P w K mg base C "means" ["self", "name", "parts", "thing"] 2 (spMeans w K C CN) []) (G_World_so : MOk (CX1 P w) P w K mg base C "so" ["self", "name", "parts", "answer"] 2 (spSo w K C CN) [.bl true]) : Ok P w K mg base "_law_told" ["world", "meant", "cell", "names", "many"] 4 (spTold w C) := by
  refine D.ok sc_law_told (fun vs H Q E h => ?_) (fun f cdv A outer s H vs Q E hr h => ?_)
  · obtain ⟨a, dm, df, l, d, cell, many, m, mI, mB, xs, rfl, _⟩ := h
    rfl
  obtain ⟨a, dm, df, l, d, cell, many, m, mI, mB, xs, rfl, hw, hM, n1, n2, hm9, hl, hxs, hm0, hm4, hc0, q⟩ := h
  obtain ⟨dx, fm, fg, ha, hm, hf, hne, hI, hB⟩ := id hw
  obtain ⟨gm, hg, gI, gB⟩ := id hM
  refine ⟨_, (pss_cons (ps_set (i := 5) sc_law_told.nd rfl (Or.inl rfl) (pe_ix ix_list (pv 3) (pe_op op_mod (pv 2) pe_int) (fun _ _ => rfl)))
    (pss_cons (ps_set (i := 6) sc_law_told.nd rfl (Or.inr rfl) (pe_ok G_law_next hr (by omega) rfl (pa_cons (pv 2) pa_nil)))
    (pss_cons (ps_setLC (k := 7) sc_law_told.nd rfl (Or.inl rfl) rfl rfl lc_law_told_1 (ix := [6, 4]) rfl (lcN (N := ["world", "meant", "cell", "names", "many", "name", "seed", "row", "given", "bad", "found", "kept"]) (by decide +kernel)) (pi_range1 (by rfl) B.range (pa_cons (pe_op op_mod (pe_op op_fdiv (pv 2) pe_int) pe_int) pa_nil)) (fun s₃ H₃ fp pins => (pe_op op_mod (pe_op op_fdiv (pv 1) (pe_op op_add pe_int (pe_op op_mul pe_int (pv 0)))) (pv 2))))
    (pss_cons (ps_set (i := 8) sc_law_told.nd rfl (Or.inl rfl) (pe_callTy call_list_of (by rfl) B.list PyProof.Rows.boot_list (pa_cons (pv 7) pa_nil)))
    (pss_cons (ps_if (pt_cmpR op_eq (pe_op op_mod (pe_op op_fdiv (pv 2) pe_int) pe_int) pe_int (nomark _)) (pss_cons (ps_set (i := 9) sc_law_told.nd rfl (Or.inl rfl) (pe_ix ix_list (pe_lst (pa_cons (pv 4) (pa_cons (pe_un un_neg pe_int) (pa_cons (pe_op op_add (pv 4) pe_int) pa_nil)))) (pe_op op_mod (pe_op op_fdiv (pv 2) pe_int) pe_int) (fun _ _ => rfl)))
    (pss_cons (ps_if (PW.pt (pw_and (pt_cmpR op_gt (pe_callB call_len_seq (by rfl) B.len PySem.boot_len (pa_cons (pv 7) pa_nil)) pe_int (nomark _)) (pw_and1 (pt_cmpR op_eq (pe_op op_mod (pe_op op_fdiv (pv 2) pe_int) pe_int) pe_int (nomark _))))) (pss_cons (ps_asg (pv 9) (pg_sub (pv 7) (pe_op op_mod (pe_op op_fdiv (pv 2) pe_int) (pe_callB call_len_seq (by rfl) B.len PySem.boot_len (pa_cons (pv 7) pa_nil))) set_list))
    (pss_one (ps_ret (pe_ok G_law_refused hr (by omega) rfl (pa_cons (pv 0) (pa_cons (pv 5) (pa_cons (pv 7) (pa_cons pe_int (pa_cons (pe_op op_fdiv (pv 2) pe_int) pa_nil))))))))) pss_nil)
    (pss_one (ps_ret (pe_ok G_law_refused hr (by omega) rfl (pa_cons (pv 0) (pa_cons (pv 5) (pa_cons (pv 7) (pa_cons (pv 9) (pa_cons pe_int pa_nil)))))))))) pss_nil)
    (pss_cut (ps_if (pt_cmpR op_eq (pe_op op_mod (pe_op op_fdiv (pv 2) pe_int) pe_int) pe_int (nomark _)) (pss_cons (ps_asg (pe_op op_mod (pe_op op_fdiv (pv 6) pe_int) (pv 4)) (pg_sub (pv 1) (pe_tup (pa_cons pe_str (pa_cons (pv 5) (pa_cons (pe_callTy call_tuple_of (by rfl) B.tuple PyProof.Rows.boot_tuple (pa_cons (pv 7) pa_nil)) pa_nil)))) (set_putN (w := w) (hu9 hr))))
    (pss_one (ps_set (i := 10) sc_law_told.nd rfl (Or.inl rfl) (pe_mok (MOk.calm G_World_means) T_World.cl hr (by omega) (pv 0) (pa_cons (pv 5) (pa_cons (pv 8) (pa_cons (pe_op op_mod (pe_op op_fdiv (pv 6) pe_int) (pv 4)) pa_nil))))))) (pss_one (ps_if (pt_cmpR op_eq (pe_op op_mod (pe_op op_fdiv (pv 2) pe_int) pe_int) pe_int (nomark _)) (pss_cons (ps_asg pe_int (pg_sub (pv 1) (pe_tup (pa_cons pe_str (pa_cons (pv 5) (pa_cons (pe_callTy call_tuple_of (by rfl) B.tuple PyProof.Rows.boot_tuple (pa_cons (pv 7) pa_nil)) pa_nil)))) (set_putN (w := w) (hu9 hr))))
    (pss_one (ps_set (i := 10) sc_law_told.nd rfl (Or.inl rfl) (pe_mokD (MOk.calm G_World_so) T_World.cl hr (by omega) (pv 0) (pa_cons (pv 5) (pa_cons (pv 8) pa_nil)))))) (pss_cons (ps_asg (pe_op op_mod (pe_op op_fdiv (pv 6) pe_int) pe_int) (pg_sub (pv 1) (pe_tup (pa_cons pe_str (pa_cons (pv 5) (pa_cons (pe_callTy call_tuple_of (by rfl) B.tuple PyProof.Rows.boot_tuple (pa_cons (pv 7) pa_nil)) pa_nil)))) (set_putN (w := w) (hu9 hr))))
    (pss_one (ps_set (i := 10) sc_law_told.nd rfl (Or.inl rfl) (pe_mok (MOk.calm G_World_so) T_World.cl hr (by omega) (pv 0) (pa_cons (pv 5) (pa_cons (pv 8) (pa_cons (pe_cmpR op_eq (pe_op op_mod (pe_op op_fdiv (pv 6) pe_int) pe_int) pe_int (nomark _)) pa_nil))))))))))
    (pss_cons (ps_set (i := 11) sc_law_told.nd rfl (Or.inl rfl) (pe_and (pe_cmpR (op_eqLD (n := 8) (hu9 hr)) (pv 8) (pv 7) (nomark _)) (pe_one (pe_cmpR op_isN (pv 10) pe_non (nomark _)))))
    (pss_cons (ps_expr (pe_bm PySem.F.plainAttrs_list PySem.F.slot_list_append PySem.F.type_list_append mt_append (pv 8) (pa_cons pe_int pa_nil)))
    (pss_one (ps_ret (pv 11))))))))))), ?_⟩
  obtain ⟨nm, hnm⟩ := hxs cell
  refine ⟨_, rfl, _, rfl, _, _, rfl, rfl, (by show (0 : Int) < 3; decide), l, xs, _, _, rfl, rfl, SqL.of hl, hnm, ?_⟩
  refine ⟨_, rfl, cell, rfl, ?_⟩
  refine ⟨_, rfl, _, _, rfl, rfl, ⟨by decide, by decide⟩, _, _, rfl, rfl, (by show (0 : Int) < 4; decide), ?_⟩
  have hj0 := Int.emod_nonneg (cell / 3) (show (4 : Int) ≠ 0 by decide)
  have hj1 := Int.emod_lt_of_pos (cell / 3) (show (0 : Int) < 4 by decide)
  have hmz : (many : Int) ≠ 0 := by omega
  have hmp : (0 : Int) < many := by omega
  refine ⟨cell / 3 % 4, rfl, (by omega), (by omega), ?_⟩
  refine lc_range2 (lo := 0) (n := (cell / 3 % 4).toNat) (LcR H fun k => nxt cell / (5 + 7 * (k : Int)) % many) lcr_0 (fun i L H2 hi hP => ?_) (fun L H2 hP => ?_)
  · refine ⟨_, rfl, _, rfl, _, _, rfl, rfl, .inl ⟨by decide, by decide⟩, _, _, rfl, rfl, _, _, rfl, rfl, ?_, _, rfl, _, _, rfl, rfl, hmp, lcr_s hP (by rw [Int.zero_add]) (by omega) (Same.refl _)⟩
    exact ⟨by omega, by omega⟩
  obtain ⟨hL, s2, hrow⟩ := hP
  generalize hrw : (List.range (cell / 3 % 4).toNat).map (fun k : Nat => nxt cell / (5 + 7 * (k : Int)) % many) = row at hrow
  have hlen : row.length ≤ 3 := by rw [← hrw, List.length_map, List.length_range]; omega
  have hin : ∀ i ∈ row, 0 ≤ i ∧ i < many := by
    intro i hi
    rw [← hrw] at hi
    obtain ⟨k, _, rfl⟩ := List.mem_map.mp hi
    exact ⟨Int.emod_nonneg _ hmz, Int.emod_lt_of_pos _ hmp⟩
  refine ⟨_, rfl, L, _, rfl, .inl (SqL.of hrow), fun p hp => ?_⟩
  have s3 := s2.trans (same_new hp (.lst (row.map V.int)))
  have hrow3 := (same_new hp (.lst (row.map V.int))).at hrow
  refine ⟨_, rfl, _, _, rfl, rfl, ⟨by decide, by decide⟩, _, _, rfl, rfl, (by show (0 : Int) < 9; decide), rfl, _, rfl, ite2 (fun c => ?_) (fun c => ?_)⟩
  · obtain ⟨bd, hbd, b1, b2, b3⟩ := bad_at hm4 (cell / 108)
    have hb : ∀ i ∈ row, -1 ≤ i ∧ i ≤ 11 := fun i hi => by have := hin i hi; omega
    refine ⟨_, rfl, _, rfl, _, rfl, _, _, rfl, rfl, (by show 3 ≤ sizeLine; decide), fun pl hpl => ?_⟩
    have s4 := s3.trans (same_new hpl (.lst [V.int many, V.int (-1), V.int (many + 7)]))
    have hrow4 := (same_new hpl (.lst [V.int many, V.int (-1), V.int (many + 7)])).at hrow3
    refine ⟨_, rfl, _, _, rfl, rfl, ⟨by decide, by decide⟩, _, _, rfl, rfl, (by show (0 : Int) < 3; decide), pl, _, _, _, rfl, rfl, SqL.of upd_same, hbd, ?_⟩
    have last : spRefused w C [.ref a, .str nm, .ref L, .int bd, .int 0] _ (fun v H' => Q v H') E0 := ⟨a, dm, df, L, nm, bd, 0, many, m, mI, mB, row, rfl, hw.same s4, by omega, hrow4, by omega, fun i hi => (by
      rcases List.mem_cons.mp hi with rfl | hi
      · exact ⟨b1, b2⟩
      · exact hb i hi), ⟨bd, (by rw [if_pos (by decide)]; exact List.mem_cons_self), b3⟩, fun H' s' => q H' mI mB (fun b o _ e f => (s4.trans s').fix b o e f) ((hw.same (s4.trans s')).wide (by omega)) ((hM.same (s4.trans s')).wide (by omega))⟩
    refine ⟨_, rfl, L, _, rfl, .inl (SqL.of hrow4), _, _, rfl, rfl, _, rfl, ite2 (fun c1 => ?_) (fun c1 => ?_)⟩
    · have c1' := of_decide_eq_true c1
      rw [List.length_map] at c1'
      refine ⟨_, rfl, _, _, rfl, rfl, ⟨by decide, by decide⟩, _, _, rfl, rfl, (by show (0 : Int) < 2; decide), rfl, _, rfl, ite2 (fun c2 => ?_) (fun c2 => ?_)⟩
      · generalize hjj : (cell / 648 % ((row.map V.int).length : Int)).toNat = j
        have hl0 : (0 : Int) < ((row.map V.int).length : Int) := by rw [List.length_map]; omega
        have k0 := Int.emod_nonneg (cell / 648) (show ((row.map V.int).length : Int) ≠ 0 by omega)
        have k1 := Int.emod_lt_of_pos (cell / 648) hl0
        have hj : ixN (row.map V.int).length (cell / 648 % ((row.map V.int).length : Int)) = some j := by
          unfold ixN
          rw [if_pos (by omega), if_pos (by omega), hjj]
        have jl : j < row.length := by rw [List.length_map] at k1; rw [List.length_map] at hjj; omega
        refine ⟨_, rfl, _, rfl, _, rfl, _, _, rfl, rfl, ⟨by decide, by decide⟩, _, rfl, L, _, rfl, .inl (SqL.of hrow4), _, _, rfl, rfl, hl0, L, _, _, j, rfl, rfl, hrow4, hj, ?_⟩
        rw [← List.map_set]
        have s5 : Same H (upd _ L (.lst ((row.set j bd).map V.int))) := same_own s4 hL hrow4 _
        refine ⟨_, rfl, _, rfl, _, rfl, _, rfl, _, _, rfl, rfl, ⟨by decide, by decide⟩, a, dm, df, L, nm, 0, _, many, m, mI, mB, row.set j bd, rfl, hw.same s5, (by omega), upd_same, (by rw [List.length_set]; omega), fun i hi => ?_, ⟨bd, ?_, b3⟩, fun H' s' => q H' mI mB (fun b o _ e f => (s5.trans s').fix b o e f) ((hw.same (s5.trans s')).wide (by omega)) ((hM.same (s5.trans s')).wide (by omega))⟩
        · rcases List.mem_cons.mp hi with rfl | hi
          · omega
          · rcases List.mem_or_eq_of_mem_set hi with hi | rfl
            · exact hb i hi
            · exact ⟨b1, b2⟩
        · have hbm : bd ∈ row.set j bd := List.mem_set jl bd
          split
          · exact List.mem_cons_of_mem _ hbm
          · exact hbm
      · exact ⟨_, rfl, _, rfl, _, rfl, _, rfl, last⟩
    · exact iteF ⟨_, rfl, _, rfl, _, rfl, _, rfl, last⟩
  · obtain ⟨φm, em⟩ := hm.at
    obtain ⟨φf, ef⟩ := hf.at
    obtain ⟨φd, ed⟩ := hg.at
    have na : a ≠ d := ne_of ha ed (fun z => nomatch z)
    have hp3 : upd H2 p (.lst (row.map V.int)) p = some (.lst (row.map V.int)) := upd_same
    have hb : ∀ i ∈ row, -1 ≤ i ∧ i ≤ 11 := fun i hi => by have := hin i hi; omega
    refine ⟨fun σ' H' => ∃ mI' mB', σ' = [some (.ref a), some (.ref d), some (.int cell), some (.ref l), some (.int many), some (.str nm), some (.int (nxt cell)), some (.ref L), some (.ref p), none, some .non, none] ∧ But3 H H' [d, dm, df] ∧ WAt w C H' a dm df many (m + 1) mI' mB' ∧ MAt w H' d (m + 1) mI' mB' ∧ H' L = some (.lst (row.map V.int)) ∧ H' p = some (.lst (row.map V.int)), ?_, fun σ' H' hP => ?_⟩
    · refine ⟨_, rfl, _, _, rfl, rfl, ⟨by decide, by decide⟩, _, _, rfl, rfl, (by show (0 : Int) < 2; decide), rfl, _, rfl, ite2 (fun c1 => ?_) (fun c1 => ?_)⟩
      · have hx0 := Int.emod_nonneg (nxt cell / 11) hmz
        have hx1 := Int.emod_lt_of_pos (nxt cell / 11) hmp
        refine ⟨_, rfl, _, _, rfl, rfl, ⟨by decide, by decide⟩, _, rfl, _, _, rfl, rfl, hmp, _, rfl, _, rfl, _, rfl, L, _, rfl, .inl ⟨SqL.of hrow3, fun r hr2 => ⟨(by show 3 ≤ sizeLine; decide), fun k hk => ?_⟩⟩⟩
        have s5 : Same _ (upd _ r (.tup (row.map V.int))) := same_new hr2 _
        have s6 : Same _ (upd _ k (.tup [.str "fun", .str nm, .ref r])) := same_new hk _
        have s56 := s5.trans s6
        have s36 := s3.trans s56
        refine ⟨d, m, gm, _, rfl, hg.same s36, (by rw [sizeLine_eq]; omega), rd_keyM upd_same (s6.at upd_same), ddep_keyM, fun ob D' tk => ?_⟩
        have k7 := But.upd (H := upd (upd (upd H2 p (.lst (row.map V.int))) r (.tup (row.map V.int))) k (.tup [.str "fun", .str nm, .ref r])) (d := d) ob
        have W7 := (hw.same s36).but k7 na (Ne.symm n1) (Ne.symm n2) tk
        have M7 := MAt.tellI gI gB D'
        have p7 := k7 p _ (ne_of hp3 (s3.at ed) (fun z => nomatch z)) (s56.at hp3) rfl
        have L7 := k7 L _ (ne_of hrow3 (s3.at ed) (fun z => nomatch z)) (s56.at hrow3) rfl
        refine ⟨_, rfl, a, dx, _, rfl, k7 a _ na (s36.at ha) rfl, rfl, _, rfl, _, rfl, _, rfl, _, _, rfl, rfl, ⟨by decide, by decide⟩, _, rfl, _, _, rfl, rfl, hmp, a, dm, df, p, nm, _, many, m, mI, mB, row, rfl, W7, (by omega), p7, (by omega), ?_, ?_, ?_⟩
        · intro i hi
          rcases List.mem_cons.mp hi with rfl | hi
          · omega
          · exact hb i hi
        · intro ok H8 k8 W8
          have tk8 : Tk _ H8 := tk_but k8 (fun xs e => by rw [k7 dm _ (Ne.symm n1) (s36.at em) rfl] at e; cases e)
          refine ⟨_, _, rfl, fun b o hn e f => ?_, W8, M7.but k8 n1 tk8, k8 L _ (ne_of L7 (k7 dm _ (Ne.symm n1) (s36.at em) rfl) (fun z => nomatch z)) L7 rfl, k8 p _ (ne_of p7 (k7 dm _ (Ne.symm n1) (s36.at em) rfl) (fun z => nomatch z)) p7 rfl⟩
          simp only [List.mem_cons, List.not_mem_nil, or_false, not_or] at hn
          exact k8 b o hn.2.1 (k7 b o hn.1 (s36.fix b o e f) f) f
        · intro ⟨i, hi, no⟩
          refine absurd ?_ no
          rcases List.mem_cons.mp hi with rfl | hi
          · exact ⟨hx0, hx1⟩
          · exact hin i hi
      · refine ⟨_, rfl, _, _, rfl, rfl, ⟨by decide, by decide⟩, _, _, rfl, rfl, (by show (0 : Int) < 2; decide), rfl, _, rfl, ite2 (fun c2 => ?_) (fun c2 => ?_)⟩
        · refine ⟨_, rfl, _, rfl, _, rfl, L, _, rfl, .inl ⟨SqL.of hrow3, fun r hr2 => ⟨(by show 3 ≤ sizeLine; decide), fun k hk => ?_⟩⟩⟩
          have s5 : Same _ (upd _ r (.tup (row.map V.int))) := same_new hr2 _
          have s6 : Same _ (upd _ k (.tup [.str "rel", .str nm, .ref r])) := same_new hk _
          have s56 := s5.trans s6
          have s36 := s3.trans s56
          refine ⟨d, m, gm, _, rfl, hg.same s36, (by rw [sizeLine_eq]; omega), rd_keyM upd_same (s6.at upd_same), ddep_keyM, fun ob D' tk => ?_⟩
          have k7 := But.upd (H := upd (upd (upd H2 p (.lst (row.map V.int))) r (.tup (row.map V.int))) k (.tup [.str "rel", .str nm, .ref r])) (d := d) ob
          have W7 := (hw.same s36).but k7 na (Ne.symm n1) (Ne.symm n2) tk
          have M7 := MAt.tellB (b := true) rfl gI gB D'
          have p7 := k7 p _ (ne_of hp3 (s3.at ed) (fun z => nomatch z)) (s56.at hp3) rfl
          have L7 := k7 L _ (ne_of hrow3 (s3.at ed) (fun z => nomatch z)) (s56.at hrow3) rfl
          refine ⟨_, rfl, a, dx, _, rfl, k7 a _ na (s36.at ha) rfl, rfl, _, rfl, _, rfl, a, dm, df, p, nm, true, many, m, mI, mB, row, rfl, W7, (by omega), p7, (by omega), hb, ?_, ?_⟩
          · intro ok H8 k8 W8
            have e8 := k7 df _ (Ne.symm n2) (s36.at ef) rfl
            have tk8 : Tk _ H8 := tk_but k8 (fun xs e => by rw [e8] at e; cases e)
            refine ⟨_, _, rfl, fun b o hn e f => ?_, W8, M7.but k8 n2 tk8, k8 L _ (ne_of L7 e8 (fun z => nomatch z)) L7 rfl, k8 p _ (ne_of p7 e8 (fun z => nomatch z)) p7 rfl⟩
            simp only [List.mem_cons, List.not_mem_nil, or_false, not_or] at hn
            exact k8 b o hn.2.2 (k7 b o hn.1 (s36.fix b o e f) f) f
          · intro ⟨i, hi, no⟩
            exact absurd (hin i hi) no
        · have hb13 : nxt cell / 13 % 2 = bi1 (decide (V.int (nxt cell / 13 % 2) = V.int 1)) := by
            rw [dec_int']
            unfold bi1
            by_cases e : nxt cell / 13 % 2 = 1
            · rw [decide_eq_true e]; exact e
            · rw [decide_eq_false e]; have := Int.emod_nonneg (nxt cell / 13) (show (2 : Int) ≠ 0 by decide); have := Int.emod_lt_of_pos (nxt cell / 13) (show (0 : Int) < 2 by decide); show _ = (0 : Int); omega
          refine ⟨_, rfl, _, _, rfl, rfl, ⟨by decide, by decide⟩, _, _, rfl, rfl, (by show (0 : Int) < 2; decide), _, rfl, _, rfl, _, rfl, L, _, rfl, .inl ⟨SqL.of hrow3, fun r hr2 => ⟨(by show 3 ≤ sizeLine; decide), fun k hk => ?_⟩⟩⟩
          have s5 : Same _ (upd _ r (.tup (row.map V.int))) := same_new hr2 _
          have s6 : Same _ (upd _ k (.tup [.str "rel", .str nm, .ref r])) := same_new hk _
          have s56 := s5.trans s6
          have s36 := s3.trans s56
          refine ⟨d, m, gm, _, rfl, hg.same s36, (by rw [sizeLine_eq]; omega), rd_keyM upd_same (s6.at upd_same), ddep_keyM, fun ob D' tk => ?_⟩
          have k7 := But.upd (H := upd (upd (upd H2 p (.lst (row.map V.int))) r (.tup (row.map V.int))) k (.tup [.str "rel", .str nm, .ref r])) (d := d) ob
          have W7 := (hw.same s36).but k7 na (Ne.symm n1) (Ne.symm n2) tk
          have M7 := MAt.tellB (b := decide (V.int (nxt cell / 13 % 2) = V.int 1)) hb13 gI gB D'
          have p7 := k7 p _ (ne_of hp3 (s3.at ed) (fun z => nomatch z)) (s56.at hp3) rfl
          have L7 := k7 L _ (ne_of hrow3 (s3.at ed) (fun z => nomatch z)) (s56.at hrow3) rfl
          refine ⟨_, rfl, a, dx, _, rfl, k7 a _ na (s36.at ha) rfl, rfl, _, rfl, _, rfl, _, rfl, _, _, rfl, rfl, ⟨by decide, by decide⟩, _, _, rfl, rfl, (by show (0 : Int) < 2; decide), rfl, a, dm, df, p, nm, decide (V.int (nxt cell / 13 % 2) = V.int 1), many, m, mI, mB, row, rfl, W7, (by omega), p7, (by omega), hb, ?_, ?_⟩
          · intro ok H8 k8 W8
            have e8 := k7 df _ (Ne.symm n2) (s36.at ef) rfl
            have tk8 : Tk _ H8 := tk_but k8 (fun xs e => by rw [e8] at e; cases e)
            refine ⟨_, _, rfl, fun b o hn e f => ?_, W8, M7.but k8 n2 tk8, k8 L _ (ne_of L7 e8 (fun z => nomatch z)) L7 rfl, k8 p _ (ne_of p7 e8 (fun z => nomatch z)) p7 rfl⟩
            simp only [List.mem_cons, List.not_mem_nil, or_false, not_or] at hn
            exact k8 b o hn.2.2 (k7 b o hn.1 (s36.fix b o e f) f) f
          · intro ⟨i, hi, no⟩
            exact absurd (hin i hi) no
    · obtain ⟨mI', mB', rfl, k8, W8, M8, L8, p8⟩ := hP
      have e : deqL (row.map Dt.int) (row.map Dt.int) = true := (deqL_iff _ _).mpr rfl
      refine ⟨_, rfl, _, rfl, p, L, _, _, _, _, rfl, rfl, SqL.of p8, SqL.of L8, Rds.ints row, Rds.ints row, Nat.le_trans (ddepL_ints row) (by decide), ?_⟩
      rw [e]
      refine ⟨_, rfl, iteT ⟨_, rfl, rfl, ?_⟩⟩
      refine ⟨_, rfl, .inl ⟨rfl, _, SqL.of p8⟩, p, _, _, rfl, rfl, p8, (by rw [sizeLine_eq, List.length_map]; omega), ?_⟩
      have k9 := But.upd (H := H') (d := p) (.lst (row.map V.int ++ [.int 0]))
      have tk9 := tk_but k9 (fun xs e => by rw [p8] at e; cases e)
      obtain ⟨dx8, f8, g8, a8, m8, b8, _⟩ := id W8
      obtain ⟨_, h8, _⟩ := id M8
      obtain ⟨_, em8⟩ := m8.at
      obtain ⟨_, ef8⟩ := b8.at
      obtain ⟨_, ed8⟩ := h8.at
      refine ⟨_, rfl, q _ mI' mB' (fun b o hn e f => ?_) (W8.but k9 (ne_of a8 p8 (fun z => nomatch z)) (ne_of em8 p8 (fun z => nomatch z)) (ne_of ef8 p8 (fun z => nomatch z)) tk9) (M8.but k9 (ne_of ed8 p8 (fun z => nomatch z)) tk9)⟩
      refine k9 b o (fun z => ?_) (k8 b o hn e f) f
      rw [z] at e
      rw [s2.fix p o e f] at hp
      cases hp
def spAsked (w : World) (C : Addr) (n : Nat) : Sp := fun vs H Q _ => ∃ (a dm df l d : Addr) (vt vf : V) (t g : Wd) (many m m' : Nat) (mI : MI) (mB : MB) (th : List Int), vs = [.ref a, vt, vf, .ref l, .ref d, .int many] ∧ WAt w C H a dm df many m mI mB ∧ MAt w H d m' mI mB ∧ Rw H t vt ∧ TmW t ∧ dep t ≤ n ∧ Rw H g vf ∧ FmW g ∧ dep g ≤ n ∧ th.length + n ≤ 1000 ∧ many ≤ 11 ∧ H l = some (.lst (th.map V.int)) ∧
  (∀ i ∈ th, 0 ≤ i ∧ i < many) ∧ ∀ H', Same H H' → Q (.bl true) H'
theorem ok_law_asked {C CN : Addr} {n k : Nat} (hk : n + n + 2 ≤ k) (D : Def K mg "_law_asked" s_law_asked ["world", "term", "form", "things", "meant", "many"]) (B : Blt mg) (T_World : TC K C ["size", "meanings", "facts"]) (G_law_whole : Ok P w K mg base "_law_whole" ["found", "due"] 1 spWhole)
    (G_World_value : MOk (CX1 P w) P w K mg base C "value" ["self", "term", "things"] k (spValueW w C CN n) []) (G_World_holds : MOk (CX1 P w) P w K mg base C "holds" ["self", "form", "things"] k (spHoldsW w C CN n) [])
    (G_law_value : Ok P w K mg base "_law_value" ["term", "things", "meant"] (n + 2) (spLV w n)) (G_law_true : Ok P w K mg base "_law_true" ["form", "things", "meant", "many"] (n + n + 2) (spLT w n)) : Ok P w K mg base "_law_asked" ["world", "term", "form", "things", "meant", "many"] (k + 1) (spAsked w C n) := by
  refine D.ok sc_law_asked (fun vs H Q E h => ?_) (fun f cdv A outer s H vs Q E hr h => ?_)
  · obtain ⟨a, dm, df, l, d, vt, vf, t, g, many, m, m', mI, mB, th, rfl, _⟩ := h
    rfl
  obtain ⟨a, dm, df, l, d, vt, vf, t, g, many, m, m', mI, mB, th, rfl, hw, hM, ht, ht1, ht2, hg, hg1, hg2, hn, hmany, hl, hb, q⟩ := h
  obtain ⟨dx, fm, fg, ha, _⟩ := id hw
  have hb' : ∀ i ∈ th, -1 ≤ i ∧ i ≤ 11 := fun i hi => by have := hb i hi; omega
  have bad : ¬ ∃ i ∈ th, ¬ (0 ≤ i ∧ i < many) := fun ⟨i, hi, no⟩ => no (hb i hi)
  refine ⟨_, (pss_cons (ps_set (i := 6) sc_law_asked.nd rfl (Or.inl rfl) (pe_callTy call_list_of (by rfl) B.list PyProof.Rows.boot_list (pa_cons (pv 3) pa_nil)))
    (pss_cons (ps_if (pt_not (pt_val (pe_ok G_law_whole hr (by omega) rfl (pa_cons (pe_mok (MOk.calm G_World_value) T_World.cl hr (by omega) (pv 0) (pa_cons (pv 1) (pa_cons (pv 6) pa_nil))) (pa_cons (pe_ok G_law_value hr (by omega) rfl (pa_cons (pv 1) (pa_cons (pv 3) (pa_cons (pv 4) pa_nil)))) pa_nil))))) (pss_one (ps_ret pe_bl)) pss_nil)
    (pss_cons (ps_set (i := 7) sc_law_asked.nd rfl (Or.inl rfl) (pe_mok (MOk.calm G_World_holds) T_World.cl hr (by omega) (pv 0) (pa_cons (pv 2) (pa_cons (pv 6) pa_nil))))
    (pss_cons (ps_if (PW.pt (pw_or (pt_not (pt_val (pe_callB call_isinst (by rfl) B.isinstance PyProof.Rows.boot_isinstance (pa_cons (pv 7) (pa_cons (pe_ty_bool B.bool rfl) pa_nil))))) (pw_or1 (pt_cmpR op_ne (pv 7) (pe_ok G_law_true hr (by omega) rfl (pa_cons (pv 2) (pa_cons (pv 3) (pa_cons (pv 4) (pa_cons (pv 5) pa_nil))))) (nomark _))))) (pss_one (ps_ret pe_bl)) pss_nil)
    (pss_one (ps_ret (pe_cmpR (op_eqLD (n := 8) (hu9 hr)) (pv 6) (pv 3) (nomark _)))))))), ?_⟩
  refine ⟨_, rfl, l, _, rfl, .inl (SqL.of hl), fun p hp => ?_⟩
  have s1 := same_new hp (.lst (th.map V.int))
  refine ⟨_, rfl, a, dx, _, rfl, s1.at ha, rfl, _, rfl, _, rfl, a, dm, df, p, vt, t, many, m, mI, mB, th, rfl, hw.same s1, ht.mono (tk_of s1), ht1, ht2, upd_same, hb', fun _ H2 s2 => ?_, fun z => absurd z bad⟩
  have s12 := s1.trans s2
  refine ⟨_, rfl, _, rfl, _, rfl, d, l, vt, t, m', mI, mB, th, rfl, hM.same s12, ht.mono (tk_of s12), ht1, ht2, s12.at hl, fun H3 s3 => ?_⟩
  have s13 := s12.trans s3
  refine ⟨_, _, rfl, ?_⟩
  rw [decide_eq_true rfl]
  refine ⟨_, rfl, iteF ?_⟩
  refine ⟨_, rfl, a, dx, _, rfl, s13.at ha, rfl, _, rfl, _, rfl, a, dm, df, p, vf, g, many, m, mI, mB, th, rfl, hw.same s13, hg.mono (tk_of s13), hg1, hg2, (by omega), (by omega), (s2.trans s3).at upd_same, hb', fun _ H4 s4 => ?_, fun z => absurd z bad⟩
  have s14 := s13.trans s4
  refine ⟨_, rfl, .bl _, "bool", .type "bool", true, rfl, .bl _, kit_bool_bool, true, rfl, iteF ?_⟩
  refine ⟨_, rfl, _, rfl, _, rfl, _, rfl, _, rfl, d, l, vf, g, many, m', mI, mB, th, rfl, hM.same s14, hg.mono (tk_of s14), hg1, hg2, (by omega), (by omega), s14.at hl, fun H5 s5 => ?_⟩
  have s15 := s14.trans s5
  refine ⟨rfl, _, rfl, ?_⟩
  rw [decide_eq_true rfl]
  refine iteF ?_
  have q' := q _ s15
  have e : deqL (th.map Dt.int) (th.map Dt.int) = true := (deqL_iff _ _).mpr rfl
  refine ⟨_, rfl, _, rfl, p, l, _, _, _, _, rfl, rfl, SqL.of ((s2.trans (s3.trans (s4.trans s5))).at upd_same), SqL.of (s15.at hl), Rds.ints th, Rds.ints th, Nat.le_trans (ddepL_ints th) (by decide), ?_⟩
  rw [e]
  exact q'
def spListRefused (w : World) (C : Addr) (n : Nat) : Sp := fun vs H Q _ => ∃ (a dm df l : Addr) (vt vf : V) (t g : Wd) (many m : Nat) (mI : MI) (mB : MB) (th : List Int), vs = [.ref a, vt, vf, .ref l] ∧ WAt w C H a dm df many m mI mB ∧ Rw H t vt ∧ TmW t ∧ dep t ≤ n ∧ Rw H g vf ∧ FmW g ∧ dep g ≤ n ∧ th.length + n ≤ 5000 ∧ many ≤ 100 ∧ H l = some (.lst (th.map V.int)) ∧
  (∀ i ∈ th, -1 ≤ i ∧ i ≤ 11) ∧ (∃ i ∈ th, ¬ (0 ≤ i ∧ i < many)) ∧ ∀ H', Same H H' → Q (.bl true) H'
theorem ok_law_list_refused {C CN : Addr} {n k : Nat} (D : Def K mg "_law_list_refused" s_law_list_refused ["world", "term", "form", "things"]) (B : Blt mg) (T_World : TC K C ["size", "meanings", "facts"]) (E_NoThing : ECls K mg base "NoThing" CN) (x1 : PySem.W.exmOne K (.ref CN) (.ref CN) = some true)
    (G_World_value : MOk (CX1 P w) P w K mg base C "value" ["self", "term", "things"] k (spValueW w C CN n) []) (G_World_holds : MOk (CX1 P w) P w K mg base C "holds" ["self", "form", "things"] k (spHoldsW w C CN n) []) : Ok P w K mg base "_law_list_refused" ["world", "term", "form", "things"] (k + 1) (spListRefused w C n) := by
  refine D.ok sc_law_list_refused (fun vs H Q E h => ?_) (fun f cdv A outer s H vs Q E hr h => ?_)
  · obtain ⟨a, dm, df, l, vt, vf, t, g, many, m, mI, mB, th, rfl, _⟩ := h
    rfl
  obtain ⟨a, dm, df, l, vt, vf, t, g, many, m, mI, mB, th, rfl, hw, ht, ht1, ht2, hg, hg1, hg2, hn, hmany, hl, hb, hbad, q⟩ := h
  obtain ⟨dx, fm, fg, ha, _⟩ := id hw
  obtain ⟨i0, hi0, no0⟩ := hbad
  refine ⟨_, (pss_cons (ps_set (i := 4) sc_law_list_refused.nd rfl (Or.inl rfl) pe_int)
    (pss_cut (ps_try ⟨rfl, rfl⟩ rfl (fun pins R => (pss_one (ps_expr (pe_mokX G_World_value T_World.cl rfl hr (by omega) (pv 0) (pa_cons (pv 1) (pa_cons (pe_callTy (call_list_ofK (K := K) rfl) (by rfl) B.list PyProof.Rows.boot_list (pa_cons (pv 3) pa_nil)) pa_nil)))))) (ph_plain (by rfl) E_NoThing.bound (fun ea => (pss_one (ps_set (i := 4) sc_law_list_refused.nd rfl (Or.inl rfl) (pe_op op_add (pv 4) pe_int)))) ph_nil))
    (pss_cut (ps_try ⟨rfl, rfl⟩ rfl (fun pins R => (pss_one (ps_expr (pe_mokX G_World_holds T_World.cl rfl hr (by omega) (pv 0) (pa_cons (pv 2) (pa_cons (pe_callTy (call_list_ofK (K := K) rfl) (by rfl) B.list PyProof.Rows.boot_list (pa_cons (pv 3) pa_nil)) pa_nil)))))) (ph_plain (by rfl) E_NoThing.bound (fun ea => (pss_one (ps_set (i := 4) sc_law_list_refused.nd rfl (Or.inl rfl) (pe_op op_add (pv 4) pe_int)))) ph_nil))
    (pss_one (ps_ret (pe_cmpR op_eq (pv 4) pe_int (nomark _))))))), ?_⟩
  refine ⟨fun σ' H' => Same H H' ∧ σ' = [some (.ref a), some vt, some vf, some (.ref l), some (.int 1)], ?_, fun σ' H' hP => ?_⟩
  · refine ⟨_, rfl, a, dx, _, rfl, ha, rfl, _, rfl, _, rfl, l, _, rfl, .inl (SqL.of hl), fun p hp => ?_⟩
    have s1 := same_new hp (.lst (th.map V.int))
    refine ⟨a, dm, df, p, vt, t, many, m, mI, mB, th, rfl, hw.same s1, ht.mono (tk_of s1), ht1, ht2, upd_same, hb, fun ok => absurd (ok i0 hi0) no0, fun bad => ?_⟩
    exact ⟨true, x1, iteT ⟨_, rfl, _, _, rfl, rfl, s1, rfl⟩⟩
  · obtain ⟨s1, rfl⟩ := hP
    refine ⟨fun σ' H' => Same H H' ∧ σ' = [some (.ref a), some vt, some vf, some (.ref l), some (.int 2)], ?_, fun σ' H' hP => ?_⟩
    · refine ⟨_, rfl, a, dx, _, rfl, s1.at ha, rfl, _, rfl, _, rfl, l, _, rfl, .inl (SqL.of (s1.at hl)), fun p hp => ?_⟩
      have s2 := s1.trans (same_new hp (.lst (th.map V.int)))
      refine ⟨a, dm, df, p, vf, g, many, m, mI, mB, th, rfl, hw.same s2, hg.mono (tk_of s2), hg1, hg2, hn, hmany, upd_same, hb, fun ok => absurd (ok i0 hi0) no0, fun bad => ?_⟩
      exact ⟨true, x1, iteT ⟨_, rfl, _, _, rfl, rfl, s2, rfl⟩⟩
    · obtain ⟨s2, rfl⟩ := hP
      exact ⟨_, rfl, rfl, q _ s2⟩
theorem lc_law_1 : LcScope "k" ["script", "many"] (defScope s_law) (lcS (stE (stB s_law 4))) := ⟨rfl, by decide +kernel, rfl, by decide +kernel, by decide +kernel, by decide +kernel, by decide +kernel⟩
theorem lc_law_2 : LcScope "k" ["script", "many"] (defScope s_law) (lcS (stE (stB (stB s_law 5) 2))) := ⟨rfl, by decide +kernel, rfl, by decide +kernel, by decide +kernel, by decide +kernel, by decide +kernel⟩
theorem fn_law {C CN e : Addr} {ed : FuncData} (F : Fun K "law" "law" s_law e ed) (B : Blt mg) (T_World : TC K C ["size", "meanings", "facts"]) (G_law_names_by : Ok P w K mg base "_law_names_by" ["cell"] 3 spNames) (G_law_cell_at : Ok P w K mg base "_law_cell_at" ["script", "k"] 1 (spCell K))
    (G_law_next : Ok P w K mg base "_law_next" ["seed"] 1 spNext) (G_law_form_by : Ok P w K mg base "_law_form_by" ["seed", "deep", "names"] 8 (spForm 3)) (G_law_term_by : Ok P w K mg base "_law_term_by" ["seed", "deep", "names"] 4 (spTerm 2)) (G_law_spread : Ok P w K mg base "_law_spread" ["word", "by"] 12 (spSpread 12))
    (G_World : MMk P w K mg base "World" C ["self", "things"] 1 (spInit w C)) (G_law_told : Ok P w K mg base "_law_told" ["world", "meant", "cell", "names", "many"] 4 (spTold w C)) (G_law_asked : Ok P w K mg base "_law_asked" ["world", "term", "form", "things", "meant", "many"] 60 (spAsked w C 12))
    (G_law_list_refused : Ok P w K mg base "_law_list_refused" ["world", "term", "form", "things"] 60 (spListRefused w C 12)) :
    FnOk P w K mg base CX0 70 e ed ["script"] (spLawT K []) := by
  refine F.ok sc_law (fun vs H Q E h => ?_) (fun cdv A outer s H vs Q E hr h => ?_)
  · obtain ⟨a, ns, rfl, _⟩ := h
    rfl
  obtain ⟨a, ns, rfl, hS, h63, _, q⟩ := h
  refine ⟨_, (pss_cons (ps_set (i := 1) sc_law.nd rfl (Or.inr rfl) (pe_op op_add pe_int (pe_op op_mod (pe_ok G_law_cell_at hr (by omega) rfl (pa_cons (pv 0) (pa_cons pe_int pa_nil))) pe_int)))
    (pss_cons (ps_set (i := 2) sc_law.nd rfl (Or.inl rfl) (pe_ok G_law_names_by hr (by omega) rfl (pa_cons (pe_ok G_law_cell_at hr (by omega) rfl (pa_cons (pv 0) (pa_cons pe_int pa_nil))) pa_nil)))
    (pss_cons (ps_set (i := 3) sc_law.nd rfl (Or.inl rfl) (pe_ok G_law_term_by hr (by omega) rfl (pa_cons (pe_ok G_law_next hr (by omega) rfl (pa_cons (pe_ok G_law_cell_at hr (by omega) rfl (pa_cons (pv 0) (pa_cons pe_int pa_nil))) pa_nil)) (pa_cons pe_int (pa_cons (pv 2) pa_nil)))))
    (pss_cons (ps_set (i := 4) sc_law.nd rfl (Or.inl rfl) (pe_ok G_law_form_by hr (by omega) rfl (pa_cons (pe_ok G_law_next hr (by omega) rfl (pa_cons (pe_ok G_law_cell_at hr (by omega) rfl (pa_cons (pv 0) (pa_cons pe_int pa_nil))) pa_nil)) (pa_cons pe_int (pa_cons (pv 2) pa_nil)))))
    (pss_cons (ps_setLC (k := 5) sc_law.nd rfl (Or.inl rfl) rfl rfl lc_law_1 (ix := [0, 1]) rfl (lcN (N := ["script", "many", "names", "term", "form", "things", "world", "other", "meant", "cell", "at", "bad"]) (by decide +kernel)) (pi_range1 (by rfl) B.range (pa_cons (pe_op op_mod (pe_op op_fdiv (pe_ok G_law_cell_at hr (by omega) rfl (pa_cons (pv 0) (pa_cons pe_int pa_nil))) pe_int) pe_int) pa_nil)) (fun s₃ H₃ fp pins => (pe_op op_mod (pe_ok G_law_cell_at hr (by omega) rfl (pa_cons (pv 1) (pa_cons (pe_op op_add pe_int (pv 0)) pa_nil))) (pv 2))))
    (pss_cut (ps_if (pt_cmpR op_eq (pe_op op_mod (pe_op op_fdiv (pe_ok G_law_cell_at hr (by omega) rfl (pa_cons (pv 0) (pa_cons pe_int pa_nil))) pe_int) pe_int) pe_int (nomark _)) (pss_cons (ps_set (i := 3) sc_law.nd rfl (Or.inl rfl) (pe_ok G_law_spread hr (by omega) rfl (pa_cons (pv 3) (pa_cons (pe_op op_mod (pe_ok G_law_cell_at hr (by omega) rfl (pa_cons (pv 0) (pa_cons pe_int pa_nil))) pe_int) pa_nil))))
    (pss_cons (ps_set (i := 4) sc_law.nd rfl (Or.inl rfl) (pe_ok G_law_spread hr (by omega) rfl (pa_cons (pv 4) (pa_cons (pe_op op_mod (pe_ok G_law_cell_at hr (by omega) rfl (pa_cons (pv 0) (pa_cons pe_int pa_nil))) pe_int) pa_nil))))
    (pss_one (ps_setLC (k := 5) sc_law.nd rfl (Or.inl rfl) rfl rfl lc_law_2 (ix := [0, 1]) rfl (lcN (N := ["script", "many", "names", "term", "form", "things", "world", "other", "meant", "cell", "at", "bad"]) (by decide +kernel)) (pi_range1 (by rfl) B.range (pa_cons (pe_op op_add pe_int (pe_op op_mod (pe_ok G_law_cell_at hr (by omega) rfl (pa_cons (pv 0) (pa_cons pe_int pa_nil))) pe_int)) pa_nil)) (fun s₃ H₃ fp pins => (pe_op op_mod (pe_op op_fdiv (pe_ok G_law_next hr (by omega) rfl (pa_cons (pe_op op_add (pe_ok G_law_cell_at hr (by omega) rfl (pa_cons (pv 1) (pa_cons pe_int pa_nil))) (pv 0)) pa_nil)) pe_int) (pv 2))))))) pss_nil)
    (pss_cons (ps_set (i := 6) sc_law.nd rfl (Or.inl rfl) (pe_mmk G_World hr (by omega) (by rfl) (pa_cons (pv 1) pa_nil)))
    (pss_cons (ps_set (i := 7) sc_law.nd rfl (Or.inl rfl) (pe_mmk G_World hr (by omega) (by rfl) (pa_cons (pv 1) pa_nil)))
    (pss_cons (ps_set (i := 8) sc_law.nd rfl (Or.inl rfl) (pe_newN (w := w)))
    (pss_cons (ps_for PassesOwn.never rfl (pi_list (pe_slice sl_list (pv 0) (po_some pe_int) (po_some pe_int))) (pg_name (i := 9) sc_law.nd rfl (Or.inl rfl)) (pss_one (ps_if (pt_not (pt_val (pe_ok G_law_told hr (by omega) rfl (pa_cons (pv 6) (pa_cons (pv 8) (pa_cons (pe_op op_mod (pv 9) pe_int) (pa_cons (pv 2) (pa_cons (pv 1) pa_nil)))))))) (pss_one (ps_ret pe_bl)) pss_nil)))
    (pss_cons (ps_if (pt_not (pt_val (pe_ok G_law_asked hr (by omega) rfl (pa_cons (pv 6) (pa_cons (pv 3) (pa_cons (pv 4) (pa_cons (pv 5) (pa_cons (pv 8) (pa_cons (pv 1) pa_nil))))))))) (pss_one (ps_ret pe_bl)) pss_nil)
    (pss_cons (ps_if (pt_not (pt_val (pe_ok G_law_told hr (by omega) rfl (pa_cons (pv 6) (pa_cons (pv 8) (pa_cons (pe_op op_mod (pe_ok G_law_cell_at hr (by omega) rfl (pa_cons (pv 0) (pa_cons pe_int pa_nil))) pe_int) (pa_cons (pv 2) (pa_cons (pv 1) pa_nil)))))))) (pss_one (ps_ret pe_bl)) pss_nil)
    (pss_cons (ps_if (pt_cmpR op_eq (pe_op op_mod (pe_op op_fdiv (pe_ok G_law_cell_at hr (by omega) rfl (pa_cons (pv 0) (pa_cons pe_int pa_nil))) pe_int) pe_int) pe_int (nomark _)) (pss_cons (ps_set (i := 10) sc_law.nd rfl (Or.inl rfl) (pe_op op_mod (pe_op op_fdiv (pe_ok G_law_cell_at hr (by omega) rfl (pa_cons (pv 0) (pa_cons pe_int pa_nil))) pe_int) (pe_op op_add (pe_callB call_len_seq (by rfl) B.len PySem.boot_len (pa_cons (pv 5) pa_nil)) pe_int)))
    (pss_cons (ps_set (i := 11) sc_law.nd rfl (Or.inl rfl) (pe_ix ix_list (pe_lst (pa_cons (pv 1) (pa_cons (pe_un un_neg pe_int) (pa_cons (pe_op op_add (pv 1) pe_int) pa_nil)))) (pe_op op_mod (pe_ok G_law_cell_at hr (by omega) rfl (pa_cons (pv 0) (pa_cons pe_int pa_nil))) pe_int) (fun _ _ => rfl)))
    (pss_one (ps_ret (pe_ok G_law_list_refused hr (by omega) rfl (pa_cons (pv 6) (pa_cons (pv 3) (pa_cons (pv 4) (pa_cons (pe_op op_cat (pe_op op_cat (pe_slice sl_list (pv 5) po_none (po_some (pv 10))) (pe_lst (pa_cons (pv 11) pa_nil))) (pe_slice sl_list (pv 5) (po_some (pv 10)) po_none)) pa_nil))))))))) pss_nil)
    (pss_one (ps_ret (pe_and (pe_ok G_law_asked hr (by omega) rfl (pa_cons (pv 6) (pa_cons (pv 3) (pa_cons (pv 4) (pa_cons (pv 5) (pa_cons (pv 8) (pa_cons (pv 1) pa_nil))))))) (pe_one (pe_ok G_law_asked hr (by omega) rfl (pa_cons (pv 7) (pa_cons (pv 3) (pa_cons (pv 4) (pa_cons (pv 5) (pa_cons (pe_newN (w := w)) (pa_cons (pv 1) pa_nil)))))))))))))))))))))))), ?_⟩
  have m0 := Int.emod_nonneg (cellOf ns 0) (show (4 : Int) ≠ 0 by decide)
  have m1 := Int.emod_lt_of_pos (cellOf ns 0) (show (0 : Int) < 4 by decide)
  refine ⟨_, rfl, a, ns, 0, rfl, hS, (by decide), _, _, rfl, rfl, (by show (0 : Int) < 4; decide), _, _, rfl, rfl, ?_⟩
  obtain ⟨many, hmany⟩ : ∃ many : Nat, (many : Int) = 1 + cellOf ns 0 % 4 := ⟨(1 + cellOf ns 0 % 4).toNat, by omega⟩
  rw [show ((fun i j : Int => V.int (i + j)) 1 (cellOf ns 0 % 4)) = V.int many from by rw [hmany]]
  have hmp : (0 : Int) < many := by omega
  have hmz : (many : Int) ≠ 0 := by omega
  refine ⟨_, rfl, a, ns, 1, rfl, hS, (by decide), _, rfl, fun l x y z H1 s1 hx hy hz hl => ?_⟩
  have hN : Nms H1 l := ⟨x, y, z, hx, hy, hz, hl⟩
  refine ⟨_, rfl, a, ns, 2, rfl, s1.seq hS, (by decide), _, rfl, _, rfl, _, 2, l, rfl, (by omega), hN, fun u tw H2 s2 hu htw => ?_⟩
  have s12 := s1.trans s2
  refine ⟨_, rfl, a, ns, 3, rfl, s12.seq hS, (by decide), _, rfl, _, rfl, _, 3, l, rfl, (by omega), hN.mono s2, fun v gw H3 s3 hv hgw => ?_⟩
  have s13 := s12.trans s3
  have h70 := Int.emod_nonneg (cellOf ns 4 / 7) (show (4 : Int) ≠ 0 by decide)
  have h71 := Int.emod_lt_of_pos (cellOf ns 4 / 7) (show (0 : Int) < 4 by decide)
  refine ⟨_, rfl, a, ns, 4, rfl, s13.seq hS, (by decide), _, _, rfl, rfl, ⟨by decide, by decide⟩, _, _, rfl, rfl, (by show (0 : Int) < 4; decide), cellOf ns 4 / 7 % 4, rfl, (by omega), (by omega), ?_⟩
  refine lc_range2 (lo := 0) (n := (cellOf ns 4 / 7 % 4).toNat) (LcR H3 fun k => cellOf ns (4 + (k : Int)) % many) lcr_0 (fun i L H4 hi hP => ?_) (fun L H4 hP => ?_)
  · exact ⟨_, rfl, _, rfl, _, _, rfl, rfl, a, ns, _, rfl, (s13.trans hP.2.1).seq hS, (by omega), _, rfl, _, _, rfl, rfl, hmp, lcr_s hP (by rw [Int.zero_add]) (by omega) (Same.refl _)⟩
  obtain ⟨_, s4, hL⟩ := hP
  have s14 := s13.trans s4
  have hS4 := s14.seq hS
  refine ⟨fun σ' H' => ∃ (u' v' : V) (tl : Addr) (t g : Wd) (th : List Int), σ' = [some (.ref a), some (.int many), some (.ref l), some u', some v', some (.ref tl), none, none, none, none, none, none] ∧ Same H1 H' ∧ Rw H' t u' ∧ TmW t ∧ dep t ≤ 12 ∧ Rw H' g v' ∧ FmW g ∧ dep g ≤ 12 ∧ H' tl = some (.lst (th.map V.int)) ∧ th.length ≤ 20 ∧ ∀ i ∈ th, 0 ≤ i ∧ i < (many : Int), ?_, fun σ' H' hP => ?_⟩
  · have hTm := TmW.of htw
    have hFm := FmW.of hgw
    have dt := htw.dep
    have dg := hgw.dep
    have kt := htw.knots2
    have kg := hgw.knots
    have s34 := s3.trans s4
    have s24 := s2.trans s34
    refine ⟨_, rfl, a, ns, 5, rfl, hS4, (by decide), _, _, rfl, rfl, ⟨by decide, by decide⟩, _, _, rfl, rfl, (by show (0 : Int) < 4; decide), rfl, _, rfl, ite2 (fun c => ?_) (fun c => ?_)⟩
    · have hf6 : ∀ k : Int, 0 ≤ k → 0 ≤ (k * 7 + cellOf ns 6 % 24) % 24 := fun k _ => Int.emod_nonneg _ (by decide)
      refine ⟨_, rfl, _, rfl, a, ns, 6, rfl, hS4, (by decide), _, _, rfl, rfl, (by show (0 : Int) < 24; decide), u, tw, _, rfl, hu.mono (tk_of s34), her_term htw, (by omega), (by omega), fun r5 H5 s5 hr5 => ?_⟩
      refine ⟨_, rfl, _, rfl, a, ns, 6, rfl, s5.seq hS4, (by decide), _, _, rfl, rfl, (by show (0 : Int) < 24; decide), v, gw, _, rfl, hv.mono (tk_of (s4.trans s5)), her_form hgw, (by omega), (by omega), fun r6 H6 s6 hr6 => ?_⟩
      have s46 := s5.trans s6
      have hS6 := s46.seq hS4
      have h160 := Int.emod_nonneg (cellOf ns 4) (show (16 : Int) ≠ 0 by decide)
      have h161 := Int.emod_lt_of_pos (cellOf ns 4) (show (0 : Int) < 16 by decide)
      refine ⟨_, rfl, a, ns, 4, rfl, hS6, (by decide), _, _, rfl, rfl, (by show (0 : Int) < 16; decide), _, _, rfl, rfl, 4 + cellOf ns 4 % 16, rfl, (by omega), (by omega), ?_⟩
      refine lc_range2 (lo := 0) (n := (4 + cellOf ns 4 % 16).toNat) (LcR H6 fun k => nxt (cellOf ns 6 + (k : Int)) / 8 % many) lcr_0 (fun i L7 H7 hi hP => ?_) (fun L7 H7 hP => ?_)
      · exact ⟨_, rfl, a, ns, 6, rfl, hP.2.1.seq hS6, (by decide), _, rfl, _, _, rfl, rfl, _, rfl, _, _, rfl, rfl, ⟨by decide, by decide⟩, _, rfl, _, _, rfl, rfl, hmp, lcr_s hP (by rw [Int.zero_add]) (by omega) (Same.refl _)⟩
      obtain ⟨_, s7, hL7⟩ := hP
      have e5 := chg_dep (h := fun k _ => (k * 7 + cellOf ns 6 % 24) % 24) tw 0
      have e6 := chg_dep (h := fun k _ => (k * 7 + cellOf ns 6 % 24) % 24) gw 0
      refine ⟨r5, r6, L7, _, _, _, rfl, s24.trans (s46.trans s7), hr5.mono (tk_of (s6.trans s7)), tmw_chg hf6 tw 0 hTm, (by rw [e5]; omega), hr6.mono (tk_of s7), fmw_chg hf6 gw 0 hFm, (by rw [e6]; omega), hL7, ?_, fun i hi => ?_⟩
      · rw [List.length_map, List.length_range]; omega
      · obtain ⟨k, _, rfl⟩ := List.mem_map.mp hi
        exact ⟨Int.emod_nonneg _ hmz, Int.emod_lt_of_pos _ hmp⟩
    · refine ⟨u, v, L, tw, gw, _, rfl, s24, hu.mono (tk_of s34), hTm, (by omega), hv.mono (tk_of s4), hFm, (by omega), hL, ?_, fun i hi => ?_⟩
      · rw [List.length_map, List.length_range]; omega
      · obtain ⟨k, _, rfl⟩ := List.mem_map.mp hi
        exact ⟨Int.emod_nonneg _ hmz, Int.emod_lt_of_pos _ hmp⟩
  · obtain ⟨u', v', tl, t, g, th, rfl, s5, hu5, ht5, dt5, hv5, hg5, dg5, htl, hth, hin⟩ := hP
    have hS5 := (s1.trans s5).seq hS
    refine ⟨_, rfl, fun wa dx nx ndx nex => ⟨wa, dx, many, rfl, upd_same, fun dm df H6 hdm hdf k6 W6 => ⟨rfl, ?_⟩⟩⟩
    have s6 := made nx ndx k6
    refine ⟨_, rfl, fun wb dy ny ndy ney => ⟨wb, dy, many, rfl, upd_same, fun dn dg H7 hdn hdg k7 W7 => ⟨rfl, ?_⟩⟩⟩
    have s7 := made ny ndy k7
    refine fun d hd => ?_
    have s8 := same_new hd (dN w d [])
    have W8 := (W6.same s7).same s8
    have V8 := W7.same s8
    have M8 : MAt w (upd H7 d (dN w d [])) d 0 (fun _ _ => 0) (fun _ _ => false) := ⟨fun _ => none, dmap_new, fun _ _ => rfl, fun _ _ => rfl⟩
    have s58 := s6.trans (s7.trans s8)
    have hS8 := s58.seq hS5
    obtain ⟨⟨φ1, e1⟩, ⟨φ2, e2⟩⟩ := W6.dicts
    obtain ⟨⟨φ3, e3⟩, ⟨φ4, e4⟩⟩ := W7.dicts
    have nd1 : d ≠ dm := (ne_of_none (s7.at e1) hd).symm
    have nd2 : d ≠ df := (ne_of_none (s7.at e2) hd).symm
    have up : ∀ b, upd (upd H6 dy (.own wb)) wb (.ins C dy []) b = none → H6 b = none := fun b hb => by
      by_cases z1 : b = wb
      · rw [z1]; exact ny
      by_cases z2 : b = dy
      · rw [z2]; exact ndy
      rw [upd_ne z1, upd_ne z2] at hb; exact hb
    have nn1 : dn ∉ [d, dm, df] := by
      simp only [List.mem_cons, List.not_mem_nil, or_false, not_or]
      exact ⟨ne_of_none e3 hd, (ne_of_none e1 (up dn hdn)).symm, (ne_of_none e2 (up dn hdn)).symm⟩
    have nn2 : dg ∉ [d, dm, df] := by
      simp only [List.mem_cons, List.not_mem_nil, or_false, not_or]
      exact ⟨ne_of_none e4 hd, (ne_of_none e1 (up dg hdg)).symm, (ne_of_none e2 (up dg hdg)).symm⟩
    refine ⟨_, rfl, 8, rfl, 32, rfl, a, _, rfl, hS8, fun p hp => ?_⟩
    have sp := same_new hp (.lst (cutV (ns.map V.int) (some 8) (some 32)))
    have hpp : upd (upd H7 d (dN w d [])) p (.lst (cutV (ns.map V.int) (some 8) (some 32))) p = some (.lst (cutV (ns.map V.int) (some 8) (some 32))) := upd_same
    have W9 := W8.same sp
    have V9 := V8.same sp
    have M9 := M8.same sp
    have s59 := s58.trans sp
    have hS9 := s59.seq hS5
    have hl9 := (s5.trans s59).at hl
    have hu9 := hu5.mono (tk_of s59)
    have hv9 := hv5.mono (tk_of s59)
    have htl9 := s59.at htl
    generalize upd (upd H7 d (dN w d [])) p (.lst (cutV (ns.map V.int) (some 8) (some 32))) = Hs at *
    have no := no3 W9 M9
    have hnm : ∀ i : Int, ∃ x' : Str, atI [V.str x, V.str y, V.str z] (i % 3) = some (.str x') := fun i => by
      obtain ⟨xs, x', e, h, _⟩ := hN.at i
      rw [hl] at e; cases e
      exact ⟨x', h⟩
    have hcl : (cutV (ns.map V.int) (some 8) (some 32)).length ≤ 63 := by
      have := len_cutV (xs := ns.map V.int) (lo := some 8) (hi := some 32)
      rw [List.length_map] at this
      omega
    have big : ∀ c : Int, 0 ≤ c % 1000003 := fun c => Int.emod_nonneg _ (by decide)
    refine ⟨p, rfl, ⟨_, SqL.of hpp⟩, for_list (xs := cutV (ns.map V.int) (some 8) (some 32)) (fun i σ' H9 => ∃ mI mB o, σ' = [some (.ref a), some (.int many), some (.ref l), some u', some v', some (.ref tl), some (.ref wa), some (.ref wb), some (.ref d), o, none, none] ∧ WAt w C H9 wa dm df many i mI mB ∧ MAt w H9 d i mI mB ∧ But3 Hs H9 [d, dm, df])
      ⟨_, _, none, rfl, W9, M9, But3.of (Same.refl _)⟩ (fun i σ' H9 _ hP => ?_) (fun i x' σ' H9 hi hP => ?_) (fun σ' H9 hP => ?_)⟩
    · obtain ⟨_, _, _, _, _, _, k⟩ := hP
      exact SqL.of (k.at no hpp (fun φ z => nomatch z))
    · obtain ⟨mI, mB, o, rfl, W, M, k⟩ := hP
      obtain ⟨c, _, rfl⟩ := List.mem_map.mp (mem_cutV (List.mem_of_getElem? hi))
      have hi' := (List.getElem?_eq_some_iff.mp hi).1
      exact ⟨_, rfl, _, rfl, _, rfl, _, _, rfl, rfl, (by show (0 : Int) < 1000003; decide), _, rfl, _, rfl, wa, dm, df, l, d, _, many, i, mI, mB, _, rfl, W, M, nd1, nd2, (by omega), k.at no hl9 (fun φ z => nomatch z), hnm, (by omega), (by omega), big c, fun H' mI' mB' k' W' M' => ⟨_, rfl, iteF ⟨mI', mB', _, rfl, W', M', k.trans k'⟩⟩⟩
    obtain ⟨mI, mB, o, rfl, W, M, k⟩ := hP
    have hthn : th.length + 12 ≤ 1000 := by omega
    refine ⟨_, rfl, _, rfl, _, rfl, _, rfl, _, rfl, _, rfl, wa, dm, df, tl, d, u', v', t, g, many, _, _, mI, mB, th, rfl, W, M, hu9.mono (k.tk no), ht5, dt5, hv9.mono (k.tk no), hg5, dg5, hthn, (by omega), k.at no htl9 (fun φ z => nomatch z), hin, fun H10 s10 => ⟨_, rfl, iteF ?_⟩⟩
    have k10 := k.trans (But3.of (ds := [d, dm, df]) s10)
    refine ⟨_, rfl, _, rfl, _, rfl, a, ns, 7, rfl, SqL.but3 hS9 k10 no, (by decide), _, _, rfl, rfl, (by show (0 : Int) < 1000003; decide), _, rfl, _, rfl, wa, dm, df, l, d, _, many, _, mI, mB, _, rfl, W.same s10, M.same s10, nd1, nd2, (by omega), k10.at no hl9 (fun φ z => nomatch z), hnm, (by omega), (by omega), big _, fun H11 mI1 mB1 k11' W11 M11 => ⟨_, rfl, iteF ?_⟩⟩
    have k11 := k10.trans k11'
    have hS11 := SqL.but3 hS9 k11 no
    have hu11 := hu9.mono (k11.tk no)
    have hv11 := hv9.mono (k11.tk no)
    have htl11 := k11.at no htl9 (fun φ z => nomatch z)
    have V11 := V9.but3 k11 no nn1 nn2
    refine ⟨_, rfl, a, ns, 0, rfl, hS11, (by decide), _, _, rfl, rfl, ⟨by decide, by decide⟩, _, _, rfl, rfl, (by show (0 : Int) < 6; decide), rfl, _, rfl, ite2 (fun c => ?_) (fun c => ?_)⟩
    · obtain ⟨bd, hbd, b1, b2, b3⟩ := bad_at (many := many) (by omega) (cellOf ns 6)
      have hlp : (0 : Int) < ((th.map V.int).length : Int) + 1 := by omega
      refine ⟨_, rfl, a, ns, 6, rfl, hS11, (by decide), _, _, rfl, rfl, ⟨by decide, by decide⟩, _, rfl, tl, _, rfl, .inl (SqL.of htl11), _, _, rfl, rfl, _, _, rfl, rfl, hlp, ?_⟩
      obtain ⟨at_, hat⟩ : ∃ i : Int, i = cellOf ns 6 / 3 % (((th.map V.int).length : Int) + 1) := ⟨_, rfl⟩
      rw [show ((fun i j : Int => V.int (i % j)) (cellOf ns 6 / 3) (((th.map V.int).length : Int) + 1)) = V.int at_ from by rw [hat]]
      refine ⟨_, rfl, _, rfl, _, rfl, _, _, rfl, rfl, (by show 3 ≤ sizeLine; decide), fun pl hpl => ?_⟩
      have s12 := same_new hpl (.lst [V.int many, V.int (-1), V.int (many + 7)])
      refine ⟨_, rfl, a, ns, 6, rfl, s12.seq hS11, (by decide), _, _, rfl, rfl, (by show (0 : Int) < 3; decide), pl, _, _, _, rfl, rfl, SqL.of upd_same, hbd, ?_⟩
      obtain ⟨c1, ec1, mc1, lc1⟩ := cut_ints (th := th) (lo := none) (hi := some at_)
      obtain ⟨c2, ec2, mc2, lc2⟩ := cut_ints (th := th) (lo := some at_) (hi := none)
      refine ⟨_, rfl, _, rfl, _, rfl, _, rfl, _, rfl, at_, rfl, tl, _, rfl, SqL.of (s12.at htl11), fun p1 hp1 => ?_⟩
      rw [ec1]
      have s13 := same_new hp1 (.lst (c1.map V.int))
      refine ⟨_, rfl, (by show 1 ≤ sizeLine; decide), fun p2 hp2 => ?_⟩
      have s14 := same_new hp2 (.lst [V.int bd])
      refine ⟨p1, p2, _, _, rfl, rfl, s14.at upd_same, upd_same, (by rw [sizeLine_eq, List.length_map]; simp only [List.length_cons, List.length_nil]; omega), fun p3 hp3 => ?_⟩
      have s15 := same_new hp3 (.lst (c1.map V.int ++ [V.int bd]))
      have s35 := s12.trans (s13.trans (s14.trans s15))
      refine ⟨_, rfl, _, rfl, at_, rfl, tl, _, rfl, SqL.of (s35.at htl11), fun p4 hp4 => ?_⟩
      rw [ec2]
      have s16 := same_new hp4 (.lst (c2.map V.int))
      refine ⟨p3, p4, _, _, rfl, rfl, s16.at upd_same, upd_same, (by rw [sizeLine_eq, List.length_append, List.length_map, List.length_map]; simp only [List.length_cons, List.length_nil]; omega), fun p5 hp5 => ?_⟩
      have s17 := same_new hp5 (.lst (c1.map V.int ++ [V.int bd] ++ c2.map V.int))
      have s37 := s35.trans (s16.trans s17)
      refine ⟨wa, dm, df, p5, u', v', t, g, many, _, mI1, mB1, c1 ++ [bd] ++ c2, rfl, W11.same s37, hu11.mono (tk_of s37), ht5, dt5, hv11.mono (tk_of s37), hg5, dg5, (by simp only [List.length_append, List.length_cons, List.length_nil]; omega), (by omega), (by rw [upd_same, List.map_append, List.map_append]; rfl), fun i hi => ?_, ⟨bd, (by simp), b3⟩, fun H18 s18 => q _⟩
      rcases List.mem_append.mp hi with hi | hi
      · rcases List.mem_append.mp hi with hi | hi
        · have := hin i (mc1 i hi); omega
        · rw [List.mem_singleton] at hi; subst hi; exact ⟨b1, b2⟩
      · have := hin i (mc2 i hi); omega
    · refine ⟨_, rfl, _, rfl, _, rfl, _, rfl, _, rfl, _, rfl, wa, dm, df, tl, d, u', v', t, g, many, _, _, mI1, mB1, th, rfl, W11, M11, hu11, ht5, dt5, hv11, hg5, dg5, hthn, (by omega), htl11, hin, fun H12 s12 => ⟨_, rfl, iteT ?_⟩⟩
      refine ⟨_, rfl, _, rfl, _, rfl, _, rfl, fun d2 hd2 => ?_⟩
      have s13 := s12.trans (same_new hd2 (dN w d2 []))
      exact ⟨_, rfl, wb, dn, dg, tl, d2, u', v', t, g, many, 0, 0, _, _, th, rfl, V11.same s13, ⟨fun _ => none, dmap_new, fun _ _ => rfl, fun _ _ => rfl⟩, hu11.mono (tk_of s13), ht5, dt5, hv11.mono (tk_of s13), hg5, dg5, hthn, (by omega), s13.at htl11, hin, fun H14 s14 => q _⟩
end
end Sh
namespace Sh
open PySem PySem.Spec PyProof.Rows L2
theorem all_mk {l : PySem.W.OpenLaw} {w : World} {K : PySem.W.Frag} {h : Heap} {mg : Str → Option Value} {fa : Addr} {q : Program} (X : K.In h) (G : h.Ns mainGlobals mg) (hfa : mg "law" = some (.ref fa))
    {C_HallError : Addr}
    {C_NoSeal : Addr}
    {C_Unfit : Addr}
    {C_TooLarge : Addr}
    {C_NoThing : Addr}
    {C_NoWord : Addr}
    {C_World : Addr}
    {f1 : Addr} {od1 an1 : Option Addr} {sl1 : Array (Option Value)} {oc1 kV1 dc1 pm1 ct1 cd1 : Value}
    {f2 : Addr} {od2 an2 : Option Addr} {sl2 : Array (Option Value)} {oc2 kV2 dc2 pm2 ct2 cd2 : Value}
    {f3 : Addr} {od3 an3 : Option Addr} {sl3 : Array (Option Value)} {oc3 kV3 dc3 pm3 ct3 cd3 : Value}
    {f4 : Addr} {od4 an4 : Option Addr} {sl4 : Array (Option Value)} {oc4 kV4 dc4 pm4 ct4 cd4 : Value} {dt4 : Addr} {ocd4 : Value} {odd4 : Option Addr} {nd4 : Nat} {sld4 : Array (Option Value)}
    {f5 : Addr} {od5 an5 : Option Addr} {sl5 : Array (Option Value)} {oc5 kV5 dc5 pm5 ct5 cd5 : Value}
    {f6 : Addr} {od6 an6 : Option Addr} {sl6 : Array (Option Value)} {oc6 kV6 dc6 pm6 ct6 cd6 : Value}
    {f7 : Addr} {od7 an7 : Option Addr} {sl7 : Array (Option Value)} {oc7 kV7 dc7 pm7 ct7 cd7 : Value}
    {f8 : Addr} {od8 an8 : Option Addr} {sl8 : Array (Option Value)} {oc8 kV8 dc8 pm8 ct8 cd8 : Value}
    {f9 : Addr} {od9 an9 : Option Addr} {sl9 : Array (Option Value)} {oc9 kV9 dc9 pm9 ct9 cd9 : Value}
    {f10 : Addr} {od10 an10 : Option Addr} {sl10 : Array (Option Value)} {oc10 kV10 dc10 pm10 ct10 cd10 : Value}
    {f11 : Addr} {od11 an11 : Option Addr} {sl11 : Array (Option Value)} {oc11 kV11 dc11 pm11 ct11 : Value} {cd11 : Value}
    {f12 : Addr} {od12 an12 : Option Addr} {sl12 : Array (Option Value)} {oc12 kV12 dc12 pm12 ct12 : Value} {cd12 : Value}
    {f13 : Addr} {od13 an13 : Option Addr} {sl13 : Array (Option Value)} {oc13 kV13 dc13 pm13 ct13 : Value} {cd13 : Value}
    {f14 : Addr} {od14 an14 : Option Addr} {sl14 : Array (Option Value)} {oc14 kV14 dc14 pm14 ct14 : Value} {cd14 : Value}
    {f15 : Addr} {od15 an15 : Option Addr} {sl15 : Array (Option Value)} {oc15 kV15 dc15 pm15 ct15 : Value} {cd15 : Value}
    {f16 : Addr} {od16 an16 : Option Addr} {sl16 : Array (Option Value)} {oc16 kV16 dc16 pm16 ct16 : Value} {cd16 : Value}
    {f17 : Addr} {od17 an17 : Option Addr} {sl17 : Array (Option Value)} {oc17 kV17 dc17 pm17 ct17 : Value} {cd17 : Value}
    {f18 : Addr} {od18 an18 : Option Addr} {sl18 : Array (Option Value)} {oc18 kV18 dc18 pm18 ct18 : Value} {cd18 : Value}
    {f19 : Addr} {od19 an19 : Option Addr} {sl19 : Array (Option Value)} {oc19 kV19 dc19 pm19 ct19 : Value} {cd19 : Value}
    {f20 : Addr} {od20 an20 : Option Addr} {sl20 : Array (Option Value)} {oc20 kV20 dc20 pm20 ct20 : Value} {cd20 : Value}
    {f21 : Addr} {od21 an21 : Option Addr} {sl21 : Array (Option Value)} {oc21 kV21 dc21 pm21 ct21 : Value} {cd21 : Value}
    {f22 : Addr} {od22 an22 : Option Addr} {sl22 : Array (Option Value)} {oc22 kV22 dc22 pm22 ct22 : Value} {cd22 : Value}
    {f23 : Addr} {od23 an23 : Option Addr} {sl23 : Array (Option Value)} {oc23 kV23 dc23 pm23 ct23 : Value} {cd23 : Value}
    {f24 : Addr} {od24 an24 : Option Addr} {sl24 : Array (Option Value)} {oc24 kV24 dc24 pm24 ct24 : Value} {cd24 : Value}
    {f25 : Addr} {od25 an25 : Option Addr} {sl25 : Array (Option Value)} {oc25 kV25 dc25 pm25 ct25 : Value} {cd25 : Value}
    {f26 : Addr} {od26 an26 : Option Addr} {sl26 : Array (Option Value)} {oc26 kV26 dc26 pm26 ct26 : Value} {cd26 : Value}
    {f27 : Addr} {od27 an27 : Option Addr} {sl27 : Array (Option Value)} {oc27 kV27 dc27 pm27 ct27 : Value} {cd27 : Value}
    {f28 : Addr} {od28 an28 : Option Addr} {sl28 : Array (Option Value)} {oc28 kV28 dc28 pm28 ct28 : Value} {cd28 : Value}
    (e_HallError : PySem.W.nsIn K mainGlobals "HallError" = some (some (.ref C_HallError))) (x_HallError : PySem.W.excIn K C_HallError veMro "ValueError.__new__" = true) (ga_HallError : PySem.W.findIn K (.ref C_HallError) "__getattribute__" = some (some (.builtin "BaseException.__getattribute__"))) (gn_HallError : PySem.W.findIn K (.ref C_HallError) "__getattr__" = some none) (ca_HallError : PySem.W.findIn K (.ref C_HallError) "__class__" = some (some (.builtin "object.__class__"))) (ob_HallError : PySem.W.mroIn K C_HallError (.type "object") = some true) (be_HallError : PySem.W.mroIn K C_HallError (.type "BaseException") = some true)
    (e_NoSeal : PySem.W.nsIn K mainGlobals "NoSeal" = some (some (.ref C_NoSeal))) (x_NoSeal : PySem.W.excIn K C_NoSeal veMro "ValueError.__new__" = true) (ga_NoSeal : PySem.W.findIn K (.ref C_NoSeal) "__getattribute__" = some (some (.builtin "BaseException.__getattribute__"))) (gn_NoSeal : PySem.W.findIn K (.ref C_NoSeal) "__getattr__" = some none) (ca_NoSeal : PySem.W.findIn K (.ref C_NoSeal) "__class__" = some (some (.builtin "object.__class__"))) (ob_NoSeal : PySem.W.mroIn K C_NoSeal (.type "object") = some true) (be_NoSeal : PySem.W.mroIn K C_NoSeal (.type "BaseException") = some true)
    (e_Unfit : PySem.W.nsIn K mainGlobals "Unfit" = some (some (.ref C_Unfit))) (x_Unfit : PySem.W.excIn K C_Unfit veMro "ValueError.__new__" = true) (ga_Unfit : PySem.W.findIn K (.ref C_Unfit) "__getattribute__" = some (some (.builtin "BaseException.__getattribute__"))) (gn_Unfit : PySem.W.findIn K (.ref C_Unfit) "__getattr__" = some none) (ca_Unfit : PySem.W.findIn K (.ref C_Unfit) "__class__" = some (some (.builtin "object.__class__"))) (ob_Unfit : PySem.W.mroIn K C_Unfit (.type "object") = some true) (be_Unfit : PySem.W.mroIn K C_Unfit (.type "BaseException") = some true)
    (e_TooLarge : PySem.W.nsIn K mainGlobals "TooLarge" = some (some (.ref C_TooLarge))) (x_TooLarge : PySem.W.excIn K C_TooLarge veMro "ValueError.__new__" = true) (ga_TooLarge : PySem.W.findIn K (.ref C_TooLarge) "__getattribute__" = some (some (.builtin "BaseException.__getattribute__"))) (gn_TooLarge : PySem.W.findIn K (.ref C_TooLarge) "__getattr__" = some none) (ca_TooLarge : PySem.W.findIn K (.ref C_TooLarge) "__class__" = some (some (.builtin "object.__class__"))) (ob_TooLarge : PySem.W.mroIn K C_TooLarge (.type "object") = some true) (be_TooLarge : PySem.W.mroIn K C_TooLarge (.type "BaseException") = some true)
    (e_NoThing : PySem.W.nsIn K mainGlobals "NoThing" = some (some (.ref C_NoThing))) (x_NoThing : PySem.W.excIn K C_NoThing veMro "ValueError.__new__" = true) (ga_NoThing : PySem.W.findIn K (.ref C_NoThing) "__getattribute__" = some (some (.builtin "BaseException.__getattribute__"))) (gn_NoThing : PySem.W.findIn K (.ref C_NoThing) "__getattr__" = some none) (ca_NoThing : PySem.W.findIn K (.ref C_NoThing) "__class__" = some (some (.builtin "object.__class__"))) (ob_NoThing : PySem.W.mroIn K C_NoThing (.type "object") = some true) (be_NoThing : PySem.W.mroIn K C_NoThing (.type "BaseException") = some true)
    (e_NoWord : PySem.W.nsIn K mainGlobals "NoWord" = some (some (.ref C_NoWord))) (x_NoWord : PySem.W.excIn K C_NoWord veMro "ValueError.__new__" = true) (ga_NoWord : PySem.W.findIn K (.ref C_NoWord) "__getattribute__" = some (some (.builtin "BaseException.__getattribute__"))) (gn_NoWord : PySem.W.findIn K (.ref C_NoWord) "__getattr__" = some none) (ca_NoWord : PySem.W.findIn K (.ref C_NoWord) "__class__" = some (some (.builtin "object.__class__"))) (ob_NoWord : PySem.W.mroIn K C_NoWord (.type "object") = some true) (be_NoWord : PySem.W.mroIn K C_NoWord (.type "BaseException") = some true)
    (kit_NoThing_NoSeal : PySem.W.kitOne K (.ref C_NoThing) (.ref C_NoSeal) = some false)
    (kit_NoThing_NoWord : PySem.W.kitOne K (.ref C_NoThing) (.ref C_NoWord) = some false)
    (kit_NoThing_TooLarge : PySem.W.kitOne K (.ref C_NoThing) (.ref C_TooLarge) = some false)
    (kit_NoThing_Unfit : PySem.W.kitOne K (.ref C_NoThing) (.ref C_Unfit) = some false)
    (kit_NoThing_NoThing : PySem.W.kitOne K (.ref C_NoThing) (.ref C_NoThing) = some true)
    (kit_NoThing_ValueError : PySem.W.kitOne K (.ref C_NoThing) (.type "ValueError") = some true)
    (exm_NoThing_HallError : PySem.W.exmOne K (.ref C_NoThing) (.ref C_HallError) = some true)
    (exm_NoThing_NoThing : PySem.W.exmOne K (.ref C_NoThing) (.ref C_NoThing) = some true)
    (ns_World : PySem.W.nsIn K mainGlobals "World" = some (some (.ref C_World))) (pg_World : PySem.W.plainGet K C_World Str.empty = true) (hd_World : PySem.W.hasDictIn K C_World = true) (po_World : PySem.W.plainOver K C_World = true) (sa_World : PySem.W.findIn K (.ref C_World) "__setattr__" = some (some (.builtin "object.__setattr__"))) (mk_World : PySem.W.makesIn K C_World = true) (kc_World : PySem.W.keepIn K (.ref C_World) = true) (na0_World : PySem.W.findIn K (.ref C_World) "size" = some none) (na1_World : PySem.W.findIn K (.ref C_World) "meanings" = some none) (na2_World : PySem.W.findIn K (.ref C_World) "facts" = some none)
    (a1 : PySem.W.findIn K (.ref C_World) "__init__" = some (some (.ref f1))) (i1 : PySem.W.isFn K (.ref f1) = true) (l1 : K.lookup f1 = some ⟨oc1, od1, .func (PySem.W.fnOf "__init__" "World.__init__" (defArgs s_World___init__) (defBody s_World___init__) (defScope s_World___init__) .none kV1 dc1 pm1 an1 cd1 ct1), sl1⟩) (c_1 : PySem.W.codeIn K cd1 "World.__init__" = true) (k1 : PySem.W.keepIn K (.ref f1) = true)
    (a2 : PySem.W.findIn K (.ref C_World) "refuse_strangers" = some (some (.ref f2))) (i2 : PySem.W.isFn K (.ref f2) = true) (l2 : K.lookup f2 = some ⟨oc2, od2, .func (PySem.W.fnOf "refuse_strangers" "World.refuse_strangers" (defArgs s_World_refuse_strangers) (defBody s_World_refuse_strangers) (defScope s_World_refuse_strangers) .none kV2 dc2 pm2 an2 cd2 ct2), sl2⟩) (c_2 : PySem.W.codeIn K cd2 "World.refuse_strangers" = true) (k2 : PySem.W.keepIn K (.ref f2) = true)
    (a3 : PySem.W.findIn K (.ref C_World) "means" = some (some (.ref f3))) (i3 : PySem.W.isFn K (.ref f3) = true) (l3 : K.lookup f3 = some ⟨oc3, od3, .func (PySem.W.fnOf "means" "World.means" (defArgs s_World_means) (defBody s_World_means) (defScope s_World_means) .none kV3 dc3 pm3 an3 cd3 ct3), sl3⟩) (c_3 : PySem.W.codeIn K cd3 "World.means" = true) (k3 : PySem.W.keepIn K (.ref f3) = true)
    (a4 : PySem.W.findIn K (.ref C_World) "so" = some (some (.ref f4))) (i4 : PySem.W.isFn K (.ref f4) = true) (l4 : K.lookup f4 = some ⟨oc4, od4, .func (PySem.W.fnOf "so" "World.so" (defArgs s_World_so) (defBody s_World_so) (defScope s_World_so) (.ref dt4) kV4 dc4 pm4 an4 cd4 ct4), sl4⟩) (c_4 : PySem.W.codeIn K cd4 "World.so" = true) (k4 : PySem.W.keepIn K (.ref f4) = true)
    (d4 : K.lookup dt4 = some ⟨ocd4, odd4, .seq #[.bool true] nd4, sld4⟩)
    (a5 : PySem.W.findIn K (.ref C_World) "value" = some (some (.ref f5))) (i5 : PySem.W.isFn K (.ref f5) = true) (l5 : K.lookup f5 = some ⟨oc5, od5, .func (PySem.W.fnOf "value" "World.value" (defArgs s_World_value) (defBody s_World_value) (defScope s_World_value) .none kV5 dc5 pm5 an5 cd5 ct5), sl5⟩) (c_5 : PySem.W.codeIn K cd5 "World.value" = true) (k5 : PySem.W.keepIn K (.ref f5) = true)
    (a6 : PySem.W.findIn K (.ref C_World) "holds" = some (some (.ref f6))) (i6 : PySem.W.isFn K (.ref f6) = true) (l6 : K.lookup f6 = some ⟨oc6, od6, .func (PySem.W.fnOf "holds" "World.holds" (defArgs s_World_holds) (defBody s_World_holds) (defScope s_World_holds) .none kV6 dc6 pm6 an6 cd6 ct6), sl6⟩) (c_6 : PySem.W.codeIn K cd6 "World.holds" = true) (k6 : PySem.W.keepIn K (.ref f6) = true)
    (a7 : PySem.W.findIn K (.ref C_World) "thing_of" = some (some (.ref f7))) (i7 : PySem.W.isFn K (.ref f7) = true) (l7 : K.lookup f7 = some ⟨oc7, od7, .func (PySem.W.fnOf "thing_of" "World.thing_of" (defArgs s_World_thing_of) (defBody s_World_thing_of) (defScope s_World_thing_of) .none kV7 dc7 pm7 an7 cd7 ct7), sl7⟩) (c_7 : PySem.W.codeIn K cd7 "World.thing_of" = true) (k7 : PySem.W.keepIn K (.ref f7) = true)
    (a8 : PySem.W.findIn K (.ref C_World) "row_of" = some (some (.ref f8))) (i8 : PySem.W.isFn K (.ref f8) = true) (l8 : K.lookup f8 = some ⟨oc8, od8, .func (PySem.W.fnOf "row_of" "World.row_of" (defArgs s_World_row_of) (defBody s_World_row_of) (defScope s_World_row_of) .none kV8 dc8 pm8 an8 cd8 ct8), sl8⟩) (c_8 : PySem.W.codeIn K cd8 "World.row_of" = true) (k8 : PySem.W.keepIn K (.ref f8) = true)
    (a9 : PySem.W.findIn K (.ref C_World) "holds_by" = some (some (.ref f9))) (i9 : PySem.W.isFn K (.ref f9) = true) (l9 : K.lookup f9 = some ⟨oc9, od9, .func (PySem.W.fnOf "holds_by" "World.holds_by" (defArgs s_World_holds_by) (defBody s_World_holds_by) (defScope s_World_holds_by) .none kV9 dc9 pm9 an9 cd9 ct9), sl9⟩) (c_9 : PySem.W.codeIn K cd9 "World.holds_by" = true) (k9 : PySem.W.keepIn K (.ref f9) = true)
    (a10 : PySem.W.findIn K (.ref C_World) "holds_of_each" = some (some (.ref f10))) (i10 : PySem.W.isFn K (.ref f10) = true) (l10 : K.lookup f10 = some ⟨oc10, od10, .func (PySem.W.fnOf "holds_of_each" "World.holds_of_each" (defArgs s_World_holds_of_each) (defBody s_World_holds_of_each) (defScope s_World_holds_of_each) .none kV10 dc10 pm10 an10 cd10 ct10), sl10⟩) (c_10 : PySem.W.codeIn K cd10 "World.holds_of_each" = true) (k10 : PySem.W.keepIn K (.ref f10) = true)
    (a11 : PySem.W.nsIn K mainGlobals "_law_cell_at" = some (some (.ref f11))) (l11 : K.lookup f11 = some ⟨oc11, od11, .func (PySem.W.fnOf "_law_cell_at" "_law_cell_at" (defArgs s_law_cell_at) (defBody s_law_cell_at) (defScope s_law_cell_at) .none kV11 dc11 pm11 an11 cd11 ct11), sl11⟩) (c_11 : PySem.W.codeIn K cd11 "_law_cell_at" = true) (k11 : PySem.W.keepIn K (.ref f11) = true)
    (a12 : PySem.W.nsIn K mainGlobals "_law_next" = some (some (.ref f12))) (l12 : K.lookup f12 = some ⟨oc12, od12, .func (PySem.W.fnOf "_law_next" "_law_next" (defArgs s_law_next) (defBody s_law_next) (defScope s_law_next) .none kV12 dc12 pm12 an12 cd12 ct12), sl12⟩) (c_12 : PySem.W.codeIn K cd12 "_law_next" = true) (k12 : PySem.W.keepIn K (.ref f12) = true)
    (a13 : PySem.W.nsIn K mainGlobals "_law_part" = some (some (.ref f13))) (l13 : K.lookup f13 = some ⟨oc13, od13, .func (PySem.W.fnOf "_law_part" "_law_part" (defArgs s_law_part) (defBody s_law_part) (defScope s_law_part) .none kV13 dc13 pm13 an13 cd13 ct13), sl13⟩) (c_13 : PySem.W.codeIn K cd13 "_law_part" = true) (k13 : PySem.W.keepIn K (.ref f13) = true)
    (a14 : PySem.W.nsIn K mainGlobals "_law_name_by" = some (some (.ref f14))) (l14 : K.lookup f14 = some ⟨oc14, od14, .func (PySem.W.fnOf "_law_name_by" "_law_name_by" (defArgs s_law_name_by) (defBody s_law_name_by) (defScope s_law_name_by) .none kV14 dc14 pm14 an14 cd14 ct14), sl14⟩) (c_14 : PySem.W.codeIn K cd14 "_law_name_by" = true) (k14 : PySem.W.keepIn K (.ref f14) = true)
    (a15 : PySem.W.nsIn K mainGlobals "_law_names_by" = some (some (.ref f15))) (l15 : K.lookup f15 = some ⟨oc15, od15, .func (PySem.W.fnOf "_law_names_by" "_law_names_by" (defArgs s_law_names_by) (defBody s_law_names_by) (defScope s_law_names_by) .none kV15 dc15 pm15 an15 cd15 ct15), sl15⟩) (c_15 : PySem.W.codeIn K cd15 "_law_names_by" = true) (k15 : PySem.W.keepIn K (.ref f15) = true)
    (a16 : PySem.W.nsIn K mainGlobals "_law_var_by" = some (some (.ref f16))) (l16 : K.lookup f16 = some ⟨oc16, od16, .func (PySem.W.fnOf "_law_var_by" "_law_var_by" (defArgs s_law_var_by) (defBody s_law_var_by) (defScope s_law_var_by) .none kV16 dc16 pm16 an16 cd16 ct16), sl16⟩) (c_16 : PySem.W.codeIn K cd16 "_law_var_by" = true) (k16 : PySem.W.keepIn K (.ref f16) = true)
    (a17 : PySem.W.nsIn K mainGlobals "_law_term_by" = some (some (.ref f17))) (l17 : K.lookup f17 = some ⟨oc17, od17, .func (PySem.W.fnOf "_law_term_by" "_law_term_by" (defArgs s_law_term_by) (defBody s_law_term_by) (defScope s_law_term_by) .none kV17 dc17 pm17 an17 cd17 ct17), sl17⟩) (c_17 : PySem.W.codeIn K cd17 "_law_term_by" = true) (k17 : PySem.W.keepIn K (.ref f17) = true)
    (a18 : PySem.W.nsIn K mainGlobals "_law_form_by" = some (some (.ref f18))) (l18 : K.lookup f18 = some ⟨oc18, od18, .func (PySem.W.fnOf "_law_form_by" "_law_form_by" (defArgs s_law_form_by) (defBody s_law_form_by) (defScope s_law_form_by) .none kV18 dc18 pm18 an18 cd18 ct18), sl18⟩) (c_18 : PySem.W.codeIn K cd18 "_law_form_by" = true) (k18 : PySem.W.keepIn K (.ref f18) = true)
    (a19 : PySem.W.nsIn K mainGlobals "_law_whole" = some (some (.ref f19))) (l19 : K.lookup f19 = some ⟨oc19, od19, .func (PySem.W.fnOf "_law_whole" "_law_whole" (defArgs s_law_whole) (defBody s_law_whole) (defScope s_law_whole) .none kV19 dc19 pm19 an19 cd19 ct19), sl19⟩) (c_19 : PySem.W.codeIn K cd19 "_law_whole" = true) (k19 : PySem.W.keepIn K (.ref f19) = true)
    (a20 : PySem.W.nsIn K mainGlobals "_law_value" = some (some (.ref f20))) (l20 : K.lookup f20 = some ⟨oc20, od20, .func (PySem.W.fnOf "_law_value" "_law_value" (defArgs s_law_value) (defBody s_law_value) (defScope s_law_value) .none kV20 dc20 pm20 an20 cd20 ct20), sl20⟩) (c_20 : PySem.W.codeIn K cd20 "_law_value" = true) (k20 : PySem.W.keepIn K (.ref f20) = true)
    (a21 : PySem.W.nsIn K mainGlobals "_law_true" = some (some (.ref f21))) (l21 : K.lookup f21 = some ⟨oc21, od21, .func (PySem.W.fnOf "_law_true" "_law_true" (defArgs s_law_true) (defBody s_law_true) (defScope s_law_true) .none kV21 dc21 pm21 an21 cd21 ct21), sl21⟩) (c_21 : PySem.W.codeIn K cd21 "_law_true" = true) (k21 : PySem.W.keepIn K (.ref f21) = true)
    (a22 : PySem.W.nsIn K mainGlobals "_law_is_no_thing" = some (some (.ref f22))) (l22 : K.lookup f22 = some ⟨oc22, od22, .func (PySem.W.fnOf "_law_is_no_thing" "_law_is_no_thing" (defArgs s_law_is_no_thing) (defBody s_law_is_no_thing) (defScope s_law_is_no_thing) .none kV22 dc22 pm22 an22 cd22 ct22), sl22⟩) (c_22 : PySem.W.codeIn K cd22 "_law_is_no_thing" = true) (k22 : PySem.W.keepIn K (.ref f22) = true)
    (a23 : PySem.W.nsIn K mainGlobals "_law_spread" = some (some (.ref f23))) (l23 : K.lookup f23 = some ⟨oc23, od23, .func (PySem.W.fnOf "_law_spread" "_law_spread" (defArgs s_law_spread) (defBody s_law_spread) (defScope s_law_spread) .none kV23 dc23 pm23 an23 cd23 ct23), sl23⟩) (c_23 : PySem.W.codeIn K cd23 "_law_spread" = true) (k23 : PySem.W.keepIn K (.ref f23) = true)
    (a24 : PySem.W.nsIn K mainGlobals "_law_refused" = some (some (.ref f24))) (l24 : K.lookup f24 = some ⟨oc24, od24, .func (PySem.W.fnOf "_law_refused" "_law_refused" (defArgs s_law_refused) (defBody s_law_refused) (defScope s_law_refused) .none kV24 dc24 pm24 an24 cd24 ct24), sl24⟩) (c_24 : PySem.W.codeIn K cd24 "_law_refused" = true) (k24 : PySem.W.keepIn K (.ref f24) = true)
    (a25 : PySem.W.nsIn K mainGlobals "_law_told" = some (some (.ref f25))) (l25 : K.lookup f25 = some ⟨oc25, od25, .func (PySem.W.fnOf "_law_told" "_law_told" (defArgs s_law_told) (defBody s_law_told) (defScope s_law_told) .none kV25 dc25 pm25 an25 cd25 ct25), sl25⟩) (c_25 : PySem.W.codeIn K cd25 "_law_told" = true) (k25 : PySem.W.keepIn K (.ref f25) = true)
    (a26 : PySem.W.nsIn K mainGlobals "_law_asked" = some (some (.ref f26))) (l26 : K.lookup f26 = some ⟨oc26, od26, .func (PySem.W.fnOf "_law_asked" "_law_asked" (defArgs s_law_asked) (defBody s_law_asked) (defScope s_law_asked) .none kV26 dc26 pm26 an26 cd26 ct26), sl26⟩) (c_26 : PySem.W.codeIn K cd26 "_law_asked" = true) (k26 : PySem.W.keepIn K (.ref f26) = true)
    (a27 : PySem.W.nsIn K mainGlobals "_law_list_refused" = some (some (.ref f27))) (l27 : K.lookup f27 = some ⟨oc27, od27, .func (PySem.W.fnOf "_law_list_refused" "_law_list_refused" (defArgs s_law_list_refused) (defBody s_law_list_refused) (defScope s_law_list_refused) .none kV27 dc27 pm27 an27 cd27 ct27), sl27⟩) (c_27 : PySem.W.codeIn K cd27 "_law_list_refused" = true) (k27 : PySem.W.keepIn K (.ref f27) = true)
    (a28 : PySem.W.nsIn K mainGlobals "law" = some (some (.ref f28))) (l28 : K.lookup f28 = some ⟨oc28, od28, .func (PySem.W.fnOf "law" "law" (defArgs s_law) (defBody s_law) (defScope s_law) .none kV28 dc28 pm28 an28 cd28 ct28), sl28⟩) (c_28 : PySem.W.codeIn K cd28 "law" = true) (k28 : PySem.W.keepIn K (.ref f28) = true)
    (z0 : PySem.W.nsIn K mainGlobals "len" = some none) (z1 : PySem.W.nsIn K mainGlobals "range" = some none) (z2 : PySem.W.nsIn K mainGlobals "int" = some none) (z3 : PySem.W.nsIn K mainGlobals "bool" = some none) (z4 : PySem.W.nsIn K mainGlobals "str" = some none) (z5 : PySem.W.nsIn K mainGlobals "tuple" = some none) (z6 : PySem.W.nsIn K mainGlobals "isinstance" = some none) (z7 : PySem.W.nsIn K mainGlobals "zip" = some none) (z8 : PySem.W.nsIn K mainGlobals "list" = some none) (z9 : PySem.W.nsIn K mainGlobals "sorted" = some none) (z10 : PySem.W.nsIn K mainGlobals "max" = some none) (z11 : PySem.W.nsIn K mainGlobals "min" = some none) (z12 : PySem.W.nsIn K mainGlobals "ord" = some none) (z13 : PySem.W.nsIn K mainGlobals "enumerate" = some none) (z14 : PySem.W.nsIn K mainGlobals "dict" = some none) (z15 : PySem.W.nsIn K mainGlobals "sum" = some none) (z16 : PySem.W.nsIn K mainGlobals "ValueError" = some none) :
    ∃ (fd : FuncData) (tabs : List (Addr × Addr)) (sp : Sp), (∀ (s : Shared) (v : Value), BindsTo s fd ⟨[v], []⟩ [("script", v)]) ∧ (∀ t ∈ tabs, ∃ y r, TabK K y t.1 t.2 ∧ (recsOf q).find? (fun e => e.name == y) = some r) ∧
      (∀ base : Heap, K.In base → base.Ns mainGlobals mg → (∀ t ∈ tabs, Tab base mg t.1 t.2) → FnOk l.prog w K mg base CX0 70 fa fd ["script"] sp) ∧
      ∀ (H : Hp) (a : Addr) (ns : List Int), ns.length ≤ 63 → SqL K H a (ns.map V.int) → (∀ t ∈ tabs, H t.2 = some (.tbl #[])) → sp [.ref a] H (fun v _ => v = .bl true) fun _ _ _ => False := by
  have e := hfa.symm.trans (PySem.W.mg_of X G a28)
  cases e
  have T_World : TC K C_World ["size", "meanings", "facts"] := ⟨⟨pg_World, hd_World, po_World, sa_World⟩, fun f hf => by
    simp only [List.mem_cons, List.not_mem_nil, or_false] at hf
    rcases hf with rfl | rfl | rfl
    · exact na0_World
    · exact na1_World
    · exact na2_World⟩
  have F_World___init__ := fun_mk (st := s_World___init__) l1 c_1 k1
  have b_World___init__ := F_World___init__.binds (ps := ["self", "things"]) fun _ _ _ _ _ _ us hl => match us, hl with | [_, _], _ => rfl
  have mk_World_ : Mk K C_World f1 := ⟨mk_World, a1, i1, kc_World⟩
  have F_World_refuse_strangers := fun_mk (st := s_World_refuse_strangers) l2 c_2 k2
  have b_World_refuse_strangers := F_World_refuse_strangers.binds (ps := ["self", "things"]) fun _ _ _ _ _ _ us hl => match us, hl with | [_, _], _ => rfl
  have D_World_refuse_strangers : MDef K C_World "refuse_strangers" "World.refuse_strangers" s_World_refuse_strangers ["self", "things"] [] := ⟨f2, _, _, _, _, _, _, _, _, _, _, [], l2, c_2, b_World_refuse_strangers, b_World_refuse_strangers, .nil, ⟨a2, i2, k2⟩⟩
  have F_World_means := fun_mk (st := s_World_means) l3 c_3 k3
  have b_World_means := F_World_means.binds (ps := ["self", "name", "parts", "thing"]) fun _ _ _ _ _ _ us hl => match us, hl with | [_, _, _, _], _ => rfl
  have D_World_means : MDef K C_World "means" "World.means" s_World_means ["self", "name", "parts", "thing"] [] := ⟨f3, _, _, _, _, _, _, _, _, _, _, [], l3, c_3, b_World_means, b_World_means, .nil, ⟨a3, i3, k3⟩⟩
  have b_World_so : Binds K (PySem.W.fnOf "so" "World.so" (defArgs s_World_so) (defBody s_World_so) (defScope s_World_so) (.ref dt4) kV4 dc4 pm4 an4 cd4 ct4) ["self", "name", "parts", "answer"] [] := fun s us X hl => match us, hl with | [_, _, _, _], _ => .of_defaults rfl (X _ _ d4) rfl rfl rfl
  have bd_World_so : Binds K (PySem.W.fnOf "so" "World.so" (defArgs s_World_so) (defBody s_World_so) (defScope s_World_so) (.ref dt4) kV4 dc4 pm4 an4 cd4 ct4) ["self", "name", "parts", "answer"] [.bool true] := fun s us X hl => by
    have hl' : us.length = 3 := by simpa using hl
    exact (match us, hl' with | [_, _, _], _ => .of_defaults rfl (X _ _ d4) rfl rfl rfl)
  have D_World_so : MDef K C_World "so" "World.so" s_World_so ["self", "name", "parts", "answer"] [.bl true] := ⟨f4, _, _, _, _, _, _, _, _, _, _, [.bool true], l4, c_4, b_World_so, bd_World_so, .cons rfl .nil, ⟨a4, i4, k4⟩⟩
  have F_World_value := fun_mk (st := s_World_value) l5 c_5 k5
  have b_World_value := F_World_value.binds (ps := ["self", "term", "things"]) fun _ _ _ _ _ _ us hl => match us, hl with | [_, _, _], _ => rfl
  have D_World_value : MDef K C_World "value" "World.value" s_World_value ["self", "term", "things"] [] := ⟨f5, _, _, _, _, _, _, _, _, _, _, [], l5, c_5, b_World_value, b_World_value, .nil, ⟨a5, i5, k5⟩⟩
  have F_World_holds := fun_mk (st := s_World_holds) l6 c_6 k6
  have b_World_holds := F_World_holds.binds (ps := ["self", "form", "things"]) fun _ _ _ _ _ _ us hl => match us, hl with | [_, _, _], _ => rfl
  have D_World_holds : MDef K C_World "holds" "World.holds" s_World_holds ["self", "form", "things"] [] := ⟨f6, _, _, _, _, _, _, _, _, _, _, [], l6, c_6, b_World_holds, b_World_holds, .nil, ⟨a6, i6, k6⟩⟩
  have F_World_thing_of := fun_mk (st := s_World_thing_of) l7 c_7 k7
  have b_World_thing_of := F_World_thing_of.binds (ps := ["self", "term", "things"]) fun _ _ _ _ _ _ us hl => match us, hl with | [_, _, _], _ => rfl
  have D_World_thing_of : MDef K C_World "thing_of" "World.thing_of" s_World_thing_of ["self", "term", "things"] [] := ⟨f7, _, _, _, _, _, _, _, _, _, _, [], l7, c_7, b_World_thing_of, b_World_thing_of, .nil, ⟨a7, i7, k7⟩⟩
  have F_World_row_of := fun_mk (st := s_World_row_of) l8 c_8 k8
  have b_World_row_of := F_World_row_of.binds (ps := ["self", "terms", "things"]) fun _ _ _ _ _ _ us hl => match us, hl with | [_, _, _], _ => rfl
  have D_World_row_of : MDef K C_World "row_of" "World.row_of" s_World_row_of ["self", "terms", "things"] [] := ⟨f8, _, _, _, _, _, _, _, _, _, _, [], l8, c_8, b_World_row_of, b_World_row_of, .nil, ⟨a8, i8, k8⟩⟩
  have F_World_holds_by := fun_mk (st := s_World_holds_by) l9 c_9 k9
  have b_World_holds_by := F_World_holds_by.binds (ps := ["self", "form", "things"]) fun _ _ _ _ _ _ us hl => match us, hl with | [_, _, _], _ => rfl
  have D_World_holds_by : MDef K C_World "holds_by" "World.holds_by" s_World_holds_by ["self", "form", "things"] [] := ⟨f9, _, _, _, _, _, _, _, _, _, _, [], l9, c_9, b_World_holds_by, b_World_holds_by, .nil, ⟨a9, i9, k9⟩⟩
  have F_World_holds_of_each := fun_mk (st := s_World_holds_of_each) l10 c_10 k10
  have b_World_holds_of_each := F_World_holds_of_each.binds (ps := ["self", "form", "things"]) fun _ _ _ _ _ _ us hl => match us, hl with | [_, _, _], _ => rfl
  have D_World_holds_of_each : MDef K C_World "holds_of_each" "World.holds_of_each" s_World_holds_of_each ["self", "form", "things"] [] := ⟨f10, _, _, _, _, _, _, _, _, _, _, [], l10, c_10, b_World_holds_of_each, b_World_holds_of_each, .nil, ⟨a10, i10, k10⟩⟩
  have F_law_cell_at := fun_mk (st := s_law_cell_at) l11 c_11 k11
  have b_law_cell_at := F_law_cell_at.binds (ps := ["script", "k"]) fun _ _ _ _ _ _ us hl => match us, hl with | [_, _], _ => rfl
  have D_law_cell_at : Def K mg "_law_cell_at" s_law_cell_at ["script", "k"] := ⟨_, _, F_law_cell_at, b_law_cell_at, PySem.W.mg_of X G a11⟩
  have F_law_next := fun_mk (st := s_law_next) l12 c_12 k12
  have b_law_next := F_law_next.binds (ps := ["seed"]) fun _ _ _ _ _ _ us hl => match us, hl with | [_], _ => rfl
  have D_law_next : Def K mg "_law_next" s_law_next ["seed"] := ⟨_, _, F_law_next, b_law_next, PySem.W.mg_of X G a12⟩
  have F_law_part := fun_mk (st := s_law_part) l13 c_13 k13
  have b_law_part := F_law_part.binds (ps := ["seed", "k"]) fun _ _ _ _ _ _ us hl => match us, hl with | [_, _], _ => rfl
  have D_law_part : Def K mg "_law_part" s_law_part ["seed", "k"] := ⟨_, _, F_law_part, b_law_part, PySem.W.mg_of X G a13⟩
  have F_law_name_by := fun_mk (st := s_law_name_by) l14 c_14 k14
  have b_law_name_by := F_law_name_by.binds (ps := ["cell"]) fun _ _ _ _ _ _ us hl => match us, hl with | [_], _ => rfl
  have D_law_name_by : Def K mg "_law_name_by" s_law_name_by ["cell"] := ⟨_, _, F_law_name_by, b_law_name_by, PySem.W.mg_of X G a14⟩
  have F_law_names_by := fun_mk (st := s_law_names_by) l15 c_15 k15
  have b_law_names_by := F_law_names_by.binds (ps := ["cell"]) fun _ _ _ _ _ _ us hl => match us, hl with | [_], _ => rfl
  have D_law_names_by : Def K mg "_law_names_by" s_law_names_by ["cell"] := ⟨_, _, F_law_names_by, b_law_names_by, PySem.W.mg_of X G a15⟩
  have F_law_var_by := fun_mk (st := s_law_var_by) l16 c_16 k16
  have b_law_var_by := F_law_var_by.binds (ps := ["seed"]) fun _ _ _ _ _ _ us hl => match us, hl with | [_], _ => rfl
  have D_law_var_by : Def K mg "_law_var_by" s_law_var_by ["seed"] := ⟨_, _, F_law_var_by, b_law_var_by, PySem.W.mg_of X G a16⟩
  have F_law_term_by := fun_mk (st := s_law_term_by) l17 c_17 k17
  have b_law_term_by := F_law_term_by.binds (ps := ["seed", "deep", "names"]) fun _ _ _ _ _ _ us hl => match us, hl with | [_, _, _], _ => rfl
  have D_law_term_by : Def K mg "_law_term_by" s_law_term_by ["seed", "deep", "names"] := ⟨_, _, F_law_term_by, b_law_term_by, PySem.W.mg_of X G a17⟩
  have F_law_form_by := fun_mk (st := s_law_form_by) l18 c_18 k18
  have b_law_form_by := F_law_form_by.binds (ps := ["seed", "deep", "names"]) fun _ _ _ _ _ _ us hl => match us, hl with | [_, _, _], _ => rfl
  have D_law_form_by : Def K mg "_law_form_by" s_law_form_by ["seed", "deep", "names"] := ⟨_, _, F_law_form_by, b_law_form_by, PySem.W.mg_of X G a18⟩
  have F_law_whole := fun_mk (st := s_law_whole) l19 c_19 k19
  have b_law_whole := F_law_whole.binds (ps := ["found", "due"]) fun _ _ _ _ _ _ us hl => match us, hl with | [_, _], _ => rfl
  have D_law_whole : Def K mg "_law_whole" s_law_whole ["found", "due"] := ⟨_, _, F_law_whole, b_law_whole, PySem.W.mg_of X G a19⟩
  have F_law_value := fun_mk (st := s_law_value) l20 c_20 k20
  have b_law_value := F_law_value.binds (ps := ["term", "things", "meant"]) fun _ _ _ _ _ _ us hl => match us, hl with | [_, _, _], _ => rfl
  have D_law_value : Def K mg "_law_value" s_law_value ["term", "things", "meant"] := ⟨_, _, F_law_value, b_law_value, PySem.W.mg_of X G a20⟩
  have F_law_true := fun_mk (st := s_law_true) l21 c_21 k21
  have b_law_true := F_law_true.binds (ps := ["form", "things", "meant", "many"]) fun _ _ _ _ _ _ us hl => match us, hl with | [_, _, _, _], _ => rfl
  have D_law_true : Def K mg "_law_true" s_law_true ["form", "things", "meant", "many"] := ⟨_, _, F_law_true, b_law_true, PySem.W.mg_of X G a21⟩
  have F_law_is_no_thing := fun_mk (st := s_law_is_no_thing) l22 c_22 k22
  have b_law_is_no_thing := F_law_is_no_thing.binds (ps := ["e"]) fun _ _ _ _ _ _ us hl => match us, hl with | [_], _ => rfl
  have D_law_is_no_thing : Def K mg "_law_is_no_thing" s_law_is_no_thing ["e"] := ⟨_, _, F_law_is_no_thing, b_law_is_no_thing, PySem.W.mg_of X G a22⟩
  have F_law_spread := fun_mk (st := s_law_spread) l23 c_23 k23
  have b_law_spread := F_law_spread.binds (ps := ["word", "by"]) fun _ _ _ _ _ _ us hl => match us, hl with | [_, _], _ => rfl
  have D_law_spread : Def K mg "_law_spread" s_law_spread ["word", "by"] := ⟨_, _, F_law_spread, b_law_spread, PySem.W.mg_of X G a23⟩
  have F_law_refused := fun_mk (st := s_law_refused) l24 c_24 k24
  have b_law_refused := F_law_refused.binds (ps := ["world", "name", "row", "thing", "seed"]) fun _ _ _ _ _ _ us hl => match us, hl with | [_, _, _, _, _], _ => rfl
  have D_law_refused : Def K mg "_law_refused" s_law_refused ["world", "name", "row", "thing", "seed"] := ⟨_, _, F_law_refused, b_law_refused, PySem.W.mg_of X G a24⟩
  have F_law_told := fun_mk (st := s_law_told) l25 c_25 k25
  have b_law_told := F_law_told.binds (ps := ["world", "meant", "cell", "names", "many"]) fun _ _ _ _ _ _ us hl => match us, hl with | [_, _, _, _, _], _ => rfl
  have D_law_told : Def K mg "_law_told" s_law_told ["world", "meant", "cell", "names", "many"] := ⟨_, _, F_law_told, b_law_told, PySem.W.mg_of X G a25⟩
  have F_law_asked := fun_mk (st := s_law_asked) l26 c_26 k26
  have b_law_asked := F_law_asked.binds (ps := ["world", "term", "form", "things", "meant", "many"]) fun _ _ _ _ _ _ us hl => match us, hl with | [_, _, _, _, _, _], _ => rfl
  have D_law_asked : Def K mg "_law_asked" s_law_asked ["world", "term", "form", "things", "meant", "many"] := ⟨_, _, F_law_asked, b_law_asked, PySem.W.mg_of X G a26⟩
  have F_law_list_refused := fun_mk (st := s_law_list_refused) l27 c_27 k27
  have b_law_list_refused := F_law_list_refused.binds (ps := ["world", "term", "form", "things"]) fun _ _ _ _ _ _ us hl => match us, hl with | [_, _, _, _], _ => rfl
  have D_law_list_refused : Def K mg "_law_list_refused" s_law_list_refused ["world", "term", "form", "things"] := ⟨_, _, F_law_list_refused, b_law_list_refused, PySem.W.mg_of X G a27⟩
  have F_law := fun_mk (st := s_law) l28 c_28 k28
  have b_law := F_law.binds (ps := ["script"]) fun _ _ _ _ _ _ us hl => match us, hl with | [_], _ => rfl
  have D_law : Def K mg "law" s_law ["script"] := ⟨_, _, F_law, b_law, PySem.W.mg_of X G a28⟩
  have B : Blt mg := ⟨PySem.W.mg_none_of X G z0, PySem.W.mg_none_of X G z1, PySem.W.mg_none_of X G z2, PySem.W.mg_none_of X G z3, PySem.W.mg_none_of X G z4, PySem.W.mg_none_of X G z5, PySem.W.mg_none_of X G z6, PySem.W.mg_none_of X G z7, PySem.W.mg_none_of X G z8, PySem.W.mg_none_of X G z9, PySem.W.mg_none_of X G z10, PySem.W.mg_none_of X G z11, PySem.W.mg_none_of X G z12, PySem.W.mg_none_of X G z13, PySem.W.mg_none_of X G z14, PySem.W.mg_none_of X G z15, PySem.W.mg_none_of X G z16⟩
  letI : Inn := ⟨tabAt []⟩

  refine ⟨PySem.W.fnOf "law" "law" (defArgs s_law) (defBody s_law) (defScope s_law) .none kV28 dc28 pm28 an28 cd28 ct28, [], spLawT K [], fun s v => .of_eq rfl, ?_, fun base KB _ htab => ?_, fun H a ns hl hS hT => ⟨a, ns, rfl, hS, hl, ?_, fun _ => rfl⟩⟩
  · intro t ht
    simp only [List.mem_cons, List.not_mem_nil, or_false] at ht
    all_goals cases ht
  · skip
    have E_HallError : ECls K mg base "HallError" C_HallError := ecls_mk KB (PySem.W.mg_of X G e_HallError) x_HallError ga_HallError gn_HallError ca_HallError ob_HallError be_HallError
    have E_NoSeal : ECls K mg base "NoSeal" C_NoSeal := ecls_mk KB (PySem.W.mg_of X G e_NoSeal) x_NoSeal ga_NoSeal gn_NoSeal ca_NoSeal ob_NoSeal be_NoSeal
    have E_Unfit : ECls K mg base "Unfit" C_Unfit := ecls_mk KB (PySem.W.mg_of X G e_Unfit) x_Unfit ga_Unfit gn_Unfit ca_Unfit ob_Unfit be_Unfit
    have E_TooLarge : ECls K mg base "TooLarge" C_TooLarge := ecls_mk KB (PySem.W.mg_of X G e_TooLarge) x_TooLarge ga_TooLarge gn_TooLarge ca_TooLarge ob_TooLarge be_TooLarge
    have E_NoThing : ECls K mg base "NoThing" C_NoThing := ecls_mk KB (PySem.W.mg_of X G e_NoThing) x_NoThing ga_NoThing gn_NoThing ca_NoThing ob_NoThing be_NoThing
    have E_NoWord : ECls K mg base "NoWord" C_NoWord := ecls_mk KB (PySem.W.mg_of X G e_NoWord) x_NoWord ga_NoWord gn_NoWord ca_NoWord ob_NoWord be_NoWord
    have G_refuse := ok_World_refuse_strangers (P := l.prog) (w := w) (base := base) D_World_refuse_strangers T_World E_NoThing
    have G_things := ok_World_things (P := l.prog) (w := w) (mg := mg) (base := base) D_World_thing_of D_World_row_of B T_World 12
    have G_forms := ok_World_forms D_World_holds_by D_World_holds_of_each B T_World G_things.1 G_things.2 12 (by decide)
    have G_value := (ok_World_value D_World_value T_World G_refuse G_things.1).mono (show 2 * 12 + 2 ≤ 59 by decide)
    have G_holds := (ok_World_holds (k := 50) D_World_holds T_World G_refuse G_forms).mono (show 50 + 2 ≤ 59 by decide)
    have G_means := ok_World_means D_World_means B T_World G_refuse
    have G_so := ok_World_so D_World_so B T_World G_refuse
    have G_init := ok_World___init__ (P := l.prog) (w := w) (mg := mg) (base := base) F_World___init__ T_World
    have G_World : MMk l.prog w K mg base "World" C_World ["self", "things"] 1 (spInit w C_World) := ⟨_, _, G_init, b_World___init__, mk_World_, PySem.W.mg_of X G ns_World⟩
    have G_nothing := ok_law_is_no_thing (P := l.prog) (w := w) (base := base) D_law_is_no_thing B E_Unfit E_NoSeal E_NoThing E_NoWord E_TooLarge kit_NoThing_NoSeal kit_NoThing_NoWord kit_NoThing_TooLarge kit_NoThing_Unfit kit_NoThing_NoThing kit_NoThing_ValueError
    have G_refused := ok_law_refused D_law_refused T_World E_HallError exm_NoThing_HallError G_means G_so G_nothing
    have G_next := ok_law_next (P := l.prog) (w := w) (base := base) D_law_next
    have G_told := ok_law_told D_law_told B T_World G_next G_refused G_means G_so
    have G_lv := ok_law_value (P := l.prog) (w := w) (base := base) D_law_value B 12
    have G_lt := ok_law_true D_law_true B G_lv 12 (Nat.le_refl _)
    have G_asked := ok_law_asked (k := 59) (by decide) D_law_asked B T_World (ok_law_whole D_law_whole B) G_value G_holds G_lv G_lt
    have G_lr := ok_law_list_refused (k := 59) D_law_list_refused B T_World E_NoThing exm_NoThing_NoThing G_value G_holds
    have G_part := ok_law_part (P := l.prog) (w := w) (base := base) D_law_part
    have G_term := ok_law_term_by D_law_term_by B G_part (ok_law_var_by D_law_var_by) 2
    exact fn_law (CN := C_NoThing) F_law B T_World (ok_law_names_by D_law_names_by (ok_law_name_by D_law_name_by B G_next)) (ok_law_cell_at D_law_cell_at B) G_next (ok_law_form_by D_law_form_by B G_part G_term 3) G_term (ok_law_spread D_law_spread B 12) G_World G_told G_asked G_lr
  · intro T hTm
    simp only [List.mem_cons, List.not_mem_nil, or_false] at hTm
    all_goals cases hTm
end Sh
open PySem PySem.W PyProof.Rows
set_option maxRecDepth 100000 in
set_option maxHeartbeats 0 in
theorem PySem.Challenge.cw_surehall_k07_worlds_holds : PySem.Challenge.rw_surehall_k07_worlds.Holds := by
  w_on; o_law; k_head; (case hw => w_witness2)
  k_fill
  refine Sh.walk_T (l := PySem.Challenge.rw_surehall_k07_worlds) (k := 70) (x := "script") rfl rfl ⟨rfl, by decide, by decide⟩ (fun w h Y => by first | exact PySem.W.km_in_of Y | exact PySem.W.kIn_of Y) ?hKt ?F
  case hKt =>
    intro w
    first | kernel_rfl | (show PySem.W.noTabs _ = true; rfl) | decide +kernel
  case F =>
    intro w mg fa h KX G hmg
    refine' Sh.all_mk KX G hmg ?e_HallError ?x_HallError ?ga_HallError ?gn_HallError ?ca_HallError ?ob_HallError ?be_HallError ?e_NoSeal ?x_NoSeal ?ga_NoSeal ?gn_NoSeal ?ca_NoSeal ?ob_NoSeal ?be_NoSeal ?e_Unfit ?x_Unfit ?ga_Unfit ?gn_Unfit ?ca_Unfit ?ob_Unfit ?be_Unfit ?e_TooLarge ?x_TooLarge ?ga_TooLarge ?gn_TooLarge ?ca_TooLarge ?ob_TooLarge ?be_TooLarge ?e_NoThing ?x_NoThing ?ga_NoThing ?gn_NoThing ?ca_NoThing ?ob_NoThing ?be_NoThing ?e_NoWord ?x_NoWord ?ga_NoWord ?gn_NoWord ?ca_NoWord ?ob_NoWord ?be_NoWord ?kit_NoThing_NoSeal ?kit_NoThing_NoWord ?kit_NoThing_TooLarge ?kit_NoThing_Unfit ?kit_NoThing_NoThing ?kit_NoThing_ValueError ?exm_NoThing_HallError ?exm_NoThing_NoThing ?ns_World ?pg_World ?hd_World ?po_World ?sa_World ?mk_World ?kc_World ?na0_World ?na1_World ?na2_World ?a1 ?i1 ?l1 ?c_1 ?k1 ?a2 ?i2 ?l2 ?c_2 ?k2 ?a3 ?i3 ?l3 ?c_3 ?k3 ?a4 ?i4 ?l4 ?c_4 ?k4 ?d4 ?a5 ?i5 ?l5 ?c_5 ?k5 ?a6 ?i6 ?l6 ?c_6 ?k6 ?a7 ?i7 ?l7 ?c_7 ?k7 ?a8 ?i8 ?l8 ?c_8 ?k8 ?a9 ?i9 ?l9 ?c_9 ?k9 ?a10 ?i10 ?l10 ?c_10 ?k10 ?a11 ?l11 ?c_11 ?k11 ?a12 ?l12 ?c_12 ?k12 ?a13 ?l13 ?c_13 ?k13 ?a14 ?l14 ?c_14 ?k14 ?a15 ?l15 ?c_15 ?k15 ?a16 ?l16 ?c_16 ?k16 ?a17 ?l17 ?c_17 ?k17 ?a18 ?l18 ?c_18 ?k18 ?a19 ?l19 ?c_19 ?k19 ?a20 ?l20 ?c_20 ?k20 ?a21 ?l21 ?c_21 ?k21 ?a22 ?l22 ?c_22 ?k22 ?a23 ?l23 ?c_23 ?k23 ?a24 ?l24 ?c_24 ?k24 ?a25 ?l25 ?c_25 ?k25 ?a26 ?l26 ?c_26 ?k26 ?a27 ?l27 ?c_27 ?k27 ?a28 ?l28 ?c_28 ?k28 ?z0 ?z1 ?z2 ?z3 ?z4 ?z5 ?z6 ?z7 ?z8 ?z9 ?z10 ?z11 ?z12 ?z13 ?z14 ?z15 ?z16
    (case e_HallError => k_is)
    (case x_HallError => k_exc)
    (case ga_HallError => k_is)
    (case gn_HallError => k_is)
    (case ca_HallError => k_is)
    (case ob_HallError => k_is)
    (case be_HallError => k_is)
    (case e_NoSeal => k_is)
    (case x_NoSeal => k_exc)
    (case ga_NoSeal => k_is)
    (case gn_NoSeal => k_is)
    (case ca_NoSeal => k_is)
    (case ob_NoSeal => k_is)
    (case be_NoSeal => k_is)
    (case e_Unfit => k_is)
    (case x_Unfit => k_exc)
    (case ga_Unfit => k_is)
    (case gn_Unfit => k_is)
    (case ca_Unfit => k_is)
    (case ob_Unfit => k_is)
    (case be_Unfit => k_is)
    (case e_TooLarge => k_is)
    (case x_TooLarge => k_exc)
    (case ga_TooLarge => k_is)
    (case gn_TooLarge => k_is)
    (case ca_TooLarge => k_is)
    (case ob_TooLarge => k_is)
    (case be_TooLarge => k_is)
    (case e_NoThing => k_is)
    (case x_NoThing => k_exc)
    (case ga_NoThing => k_is)
    (case gn_NoThing => k_is)
    (case ca_NoThing => k_is)
    (case ob_NoThing => k_is)
    (case be_NoThing => k_is)
    (case e_NoWord => k_is)
    (case x_NoWord => k_exc)
    (case ga_NoWord => k_is)
    (case gn_NoWord => k_is)
    (case ca_NoWord => k_is)
    (case ob_NoWord => k_is)
    (case be_NoWord => k_is)
    (case kit_NoThing_NoSeal => first | kernel_rfl | k_is)
    (case kit_NoThing_NoWord => first | kernel_rfl | k_is)
    (case kit_NoThing_TooLarge => first | kernel_rfl | k_is)
    (case kit_NoThing_Unfit => first | kernel_rfl | k_is)
    (case kit_NoThing_NoThing => first | kernel_rfl | k_is)
    (case kit_NoThing_ValueError => first | kernel_rfl | k_is)
    (case exm_NoThing_HallError => first | kernel_rfl | k_is)
    (case exm_NoThing_NoThing => first | kernel_rfl | k_is)
    (case ns_World => k_is)
    (case pg_World => k_is)
    (case hd_World => k_is)
    (case po_World => k_is)
    (case sa_World => k_is)
    (case mk_World => k_is)
    (case kc_World => k_is)
    (case na0_World => k_is)
    (case na1_World => k_is)
    (case na2_World => k_is)
    (case a1 => k_is)
    (case i1 => k_is)
    (case l1 => k_is)
    (case c_1 => k_is)
    (case k1 => k_is)
    (case a2 => k_is)
    (case i2 => k_is)
    (case l2 => k_is)
    (case c_2 => k_is)
    (case k2 => k_is)
    (case a3 => k_is)
    (case i3 => k_is)
    (case l3 => k_is)
    (case c_3 => k_is)
    (case k3 => k_is)
    (case a4 => k_is)
    (case i4 => k_is)
    (case l4 => k_is)
    (case c_4 => k_is)
    (case k4 => k_is)
    (case d4 => k_is)
    (case a5 => k_is)
    (case i5 => k_is)
    (case l5 => k_is)
    (case c_5 => k_is)
    (case k5 => k_is)
    (case a6 => k_is)
    (case i6 => k_is)
    (case l6 => k_is)
    (case c_6 => k_is)
    (case k6 => k_is)
    (case a7 => k_is)
    (case i7 => k_is)
    (case l7 => k_is)
    (case c_7 => k_is)
    (case k7 => k_is)
    (case a8 => k_is)
    (case i8 => k_is)
    (case l8 => k_is)
    (case c_8 => k_is)
    (case k8 => k_is)
    (case a9 => k_is)
    (case i9 => k_is)
    (case l9 => k_is)
    (case c_9 => k_is)
    (case k9 => k_is)
    (case a10 => k_is)
    (case i10 => k_is)
    (case l10 => k_is)
    (case c_10 => k_is)
    (case k10 => k_is)
    (case a11 => k_is)
    (case l11 => k_is)
    (case c_11 => k_is)
    (case k11 => k_is)
    (case a12 => k_is)
    (case l12 => k_is)
    (case c_12 => k_is)
    (case k12 => k_is)
    (case a13 => k_is)
    (case l13 => k_is)
    (case c_13 => k_is)
    (case k13 => k_is)
    (case a14 => k_is)
    (case l14 => k_is)
    (case c_14 => k_is)
    (case k14 => k_is)
    (case a15 => k_is)
    (case l15 => k_is)
    (case c_15 => k_is)
    (case k15 => k_is)
    (case a16 => k_is)
    (case l16 => k_is)
    (case c_16 => k_is)
    (case k16 => k_is)
    (case a17 => k_is)
    (case l17 => k_is)
    (case c_17 => k_is)
    (case k17 => k_is)
    (case a18 => k_is)
    (case l18 => k_is)
    (case c_18 => k_is)
    (case k18 => k_is)
    (case a19 => k_is)
    (case l19 => k_is)
    (case c_19 => k_is)
    (case k19 => k_is)
    (case a20 => k_is)
    (case l20 => k_is)
    (case c_20 => k_is)
    (case k20 => k_is)
    (case a21 => k_is)
    (case l21 => k_is)
    (case c_21 => k_is)
    (case k21 => k_is)
    (case a22 => k_is)
    (case l22 => k_is)
    (case c_22 => k_is)
    (case k22 => k_is)
    (case a23 => k_is)
    (case l23 => k_is)
    (case c_23 => k_is)
    (case k23 => k_is)
    (case a24 => k_is)
    (case l24 => k_is)
    (case c_24 => k_is)
    (case k24 => k_is)
    (case a25 => k_is)
    (case l25 => k_is)
    (case c_25 => k_is)
    (case k25 => k_is)
    (case a26 => k_is)
    (case l26 => k_is)
    (case c_26 => k_is)
    (case k26 => k_is)
    (case a27 => k_is)
    (case l27 => k_is)
    (case c_27 => k_is)
    (case k27 => k_is)
    (case a28 => k_is)
    (case l28 => k_is)
    (case c_28 => k_is)
    (case k28 => k_is)
    (case z0 => k_is); (case z1 => k_is); (case z2 => k_is); (case z3 => k_is); (case z4 => k_is); (case z5 => k_is); (case z6 => k_is); (case z7 => k_is); (case z8 => k_is); (case z9 => k_is); (case z10 => k_is); (case z11 => k_is); (case z12 => k_is); (case z13 => k_is); (case z14 => k_is); (case z15 => k_is); (case z16 => k_is)
#print axioms PySem.Challenge.cw_surehall_k07_worlds_holds

