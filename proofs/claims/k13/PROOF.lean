import PyProof.Rows.All
import Wide.All
import OpenK.AllK
import Wide.FinOn
import Lean
import PyProof.EqAt
import PyProof.EqKinds
import PyProof.TupleCall
import PyProof.StrWalks
import KE.KDictList
import KE.KDictOf
import KE.KIntText
import PyProof.Rows.SetFrom
import KE.KDictSum
import PyProof.Rows.SortWalk
import PyProof.FactsAll.set_1
import PyProof.FactsAll.set_2
import PyProof.StrLawsRepr
import PySem.Challenge.RW_surehall_k13_read
set_option genSizeOfSpec false
set_option genSizeOf false
set_option Elab.async false
set_option linter.all false
set_option maxRecDepth 100000
/-! THE HAND LAYER, for ints, bools, texts, own classes, LISTS and tuples (index, slices, in, append, pop ..), calls, loops. Paste it whole ahead of your own text; what your proof does not reach may be deleted. -/
namespace L2
open PySem PySem.Spec PyProof.Rows

/-- a key: an int or a str -/
abbrev Key := Sum Int Str
def keyIs : Key → Value → Bool
  | .inl k, v => Value.isInt k v
  | .inr x, v => Value.isStrOf x v
def keyH (w : World) : Key → Int
  | .inl k => hashInt k
  | .inr x => hashStr w x
theorem keyIs_shape : ∀ {k : Key} {v : Value}, keyIs k v = true → (∃ i t, k = Sum.inl i ∧ v = Value.int i t) ∨ (∃ x t, k = Sum.inr x ∧ v = Value.str x t)
  | .inl i, v, h => by
    obtain ⟨t, e⟩ := Value.isInt_shape (k := i) (v := v) h
    exact .inl ⟨i, t, rfl, e⟩
  | .inr x, v, h => by
    obtain ⟨t, e⟩ := Value.isStrOf_shape (x := x) (v := v) h
    exact .inr ⟨x, t, rfl, e⟩
theorem key_ll (a b : Int) : decide ((Sum.inl a : Key) = Sum.inl b) = (a == b) := by
  by_cases e : a = b
  · subst e; simp
  · have h : ¬ (Sum.inl a : Key) = Sum.inl b := fun q => e (Sum.inl.inj q)
    rw [decide_eq_false h]
    exact (beq_eq_false_iff_ne.mpr e).symm
theorem key_rr (a b : Str) : decide ((Sum.inr a : Key) = Sum.inr b) = decide (a = b) := by
  by_cases e : a = b
  · subst e; simp
  · have h : ¬ (Sum.inr a : Key) = Sum.inr b := fun q => e (Sum.inr.inj q)
    rw [decide_eq_false h, decide_eq_false e]
theorem key_lr (a : Int) (b : Str) : decide ((Sum.inl a : Key) = Sum.inr b) = false := decide_eq_false (fun q => nomatch q)
theorem key_rl (a : Str) (b : Int) : decide ((Sum.inr a : Key) = Sum.inl b) = false := decide_eq_false (fun q => nomatch q)

def mixKind (prog : Program) (w : World) : PySem.KeyKind prog w Key where
  is := keyIs
  hash := keyH w
  inj := fun v a b ha hb => by
    rcases keyIs_shape ha with ⟨i, t, rfl, rfl⟩ | ⟨x, t, rfl, rfl⟩
    · rcases keyIs_shape hb with ⟨j, u, rfl, e⟩ | ⟨y, u, rfl, e⟩
      · injection e with e1 _; rw [e1]
      · exact nomatch e
    · rcases keyIs_shape hb with ⟨j, u, rfl, e⟩ | ⟨y, u, rfl, e⟩
      · exact nomatch e
      · injection e with e1 _; rw [e1]
  byValue := fun k v h => by
    rcases keyIs_shape h with ⟨i, t, rfl, rfl⟩ | ⟨x, t, rfl, rfl⟩ <;> rfl
  pyHash := fun hv h => by
    rcases keyIs_shape hv with ⟨i, t, rfl, rfl⟩ | ⟨x, t, rfl, rfl⟩
    · exact wpAny_pyHash_int h
    · exact wpAny_pyHash_str h
  eqBool := fun hu hv h => by
    rcases keyIs_shape hu with ⟨i, t, rfl, rfl⟩ | ⟨x, t, rfl, rfl⟩
    · rcases keyIs_shape hv with ⟨j, u, rfl, rfl⟩ | ⟨y, u, rfl, rfl⟩
      · rw [key_ll] at h; exact wpAny_eqBool_int h
      · rw [key_lr] at h; exact SeqAt.EqAt.int_str i t y u _ _ _ _ h
    · rcases keyIs_shape hv with ⟨j, u, rfl, rfl⟩ | ⟨y, u, rfl, rfl⟩
      · rw [key_rl] at h; exact SeqAt.EqAt.str_int x t j u _ _ _ _ h
      · rw [key_rr] at h; exact wpAny_eqBool_str h
  «strs» := fun k x t v h => by
    rcases keyIs_shape h with ⟨i, u, rfl, e⟩ | ⟨y, u, rfl, e⟩
    · exact nomatch e
    · injection e with e1 _
      subst e1
      cases v <;> rfl

end L2

namespace L2
open PySem PySem.Spec PyProof.Rows

/-- a value, without the heap -/
inductive V where
  | non | bl (b : Bool) | int (i : Int) | str (x : Str) | byt (b : Array UInt8) | flt (b : UInt64) | ref (a : Addr) | ty (n : String)
  deriving DecidableEq

def RelV : V → Value → Prop
  | .non, u => u = Value.none
  | .bl b, u => u = Value.bool b
  | .int i, u => ∃ t, u = Value.int i t
  | .str x, u => ∃ t, u = Value.str x t
  | .byt b, u => ∃ t, u = Value.bytes b t
  | .flt b, u => ∃ t, u = Value.float b t
  | .ref a, u => u = Value.ref a
  | .ty n, u => u = Value.type n

abbrev Vals : List V → List Value → Prop := Paired RelV
theorem Vals.length {xs : List V} {us : List Value} (r : Vals xs us) : xs.length = us.length := Paired.length r
theorem Vals.get : ∀ {xs : List V} {us : List Value} {i : Nat} {x : V}, Vals xs us → xs[i]? = some x → ∃ u, us[i]? = some u ∧ RelV x u
  | _, _, _, _, .nil, e => by simp at e
  | _, _, 0, _, .cons r _, e => by simp at e; subst e; exact ⟨_, rfl, r⟩
  | _, _, i + 1, x, .cons _ t, e => by
    obtain ⟨u, h1, h2⟩ := Vals.get (i := i) (x := x) t (by simpa using e)
    exact ⟨u, by simpa using h1, h2⟩
theorem Vals.append : ∀ {xs ys : List V} {us ws : List Value}, Vals xs us → Vals ys ws → Vals (xs ++ ys) (us ++ ws)
  | _, _, _, _, .nil, s => s
  | _, _, _, _, .cons r t, s => .cons r (Vals.append t s)
def RelO : Option V → Option Value → Prop
  | some v, some u => RelV v u
  | none, none => True
  | _, _ => False
def KV {κ : Type} : List (κ × V) → List (κ × Value) → Prop := Paired fun (p : κ × V) (q : κ × Value) => p.1 = q.1 ∧ RelV p.2 q.2

/-- a key of a dict (00_mix): an int or a text -/
def kV : Key → V
  | .inl i => .int i
  | .inr x => .str x

/-- what stands at a tracked address -/
inductive HO where
  /-- a list -/
  | lst (xs : List V)
  /-- a tuple (never changes) -/
  | tup (xs : List V)
  /-- a dict whose keys are ints and texts; one whose keys are tuples of ints and texts (the empty one is both) -/
  | dK (kvs : List (Key × V)) | dT (kvs : List (List Key × V))
  /-- a set of ints: its members, its size -/
  | set (S : Int → Bool) (n : Nat)
  /-- an instance of the class at C, its dict at dx, its attributes -/
  | ins (C dx : Addr) (fs : List (Str × V))
  /-- the dict of the instance at x -/
  | own (x : Addr)
  /-- the dict of an exception -/
  | xd (fs : List (Str × V))
  /-- a bound method, f of x -/
  | met (f x : Addr)
  /-- a range object lo, lo + 1, .. below hi -/
  | rng (lo hi : Int)
  /-- a thing that is known to the object (the script; a dict while a loop walks it): read, never written while it is so -/
  | frz (o : Obj) (u : HO)
  /-- a code object's table -/
  | tbl (ps : Array Value)
  /-- any other thing, by what is true of its one object (a def of one's own: SetO a S n := HO.ext fun h => ..) -/
  | ext (φ : Heap → Prop)

abbrev Hp := Addr → Option HO
def upd (H : Hp) (a : Addr) (o : HO) : Hp := fun b => if b = a then some o else H b
theorem upd_same {H : Hp} {a : Addr} {o : HO} : upd H a o a = some o := by unfold upd; rw [if_pos rfl]
theorem upd_ne {H : Hp} {a b : Addr} {o : HO} (h : b ≠ a) : upd H a o b = H b := by unfold upd; rw [if_neg h]
/-- two objects of different content stand apart -/
theorem ne_of {H : Hp} {a b : Addr} {o u : HO} (h : H a = some o) (h' : H b = some u) (d : o ≠ u) : a ≠ b := by
  intro e; subst e; rw [h] at h'; exact d (Option.some.inj h')
theorem ne_of_none {H : Hp} {a b : Addr} {o : HO} (h : H a = some o) (h' : H b = none) : a ≠ b := by
  intro e; subst e; rw [h] at h'; cases h'

section
variable (P : Program) (w : World)
def ObjOk (H : Hp) (h : Heap) (a : Addr) : HO → Prop
  | .lst xs => xs.length ≤ sizeLine ∧ ∃ (its : List Value) (n : Nat), Vals xs its ∧ h.get? a = some { cls := .type "list", data := .seq its.toArray n }
  | .tup xs => xs.length ≤ sizeLine ∧ ∃ its : List Value, Vals xs its ∧ IsTup h a its.toArray
  | .dK kvs => kvs.length ≤ sizeLine ∧ (a == sysModules) = false ∧ ∃ vs, KV kvs vs ∧ h.DictOf (mixKind P w) a vs
  | .dT kvs => kvs.length ≤ sizeLine ∧ (a == sysModules) = false ∧ ∃ xs : List (List Key × Addr × Value),
      Paired (fun (p : List Key × V) (q : List Key × Addr × Value) => p.1 = q.1 ∧ H q.2.1 = some (.tup (p.1.map kV)) ∧ RelV p.2 q.2.2) kvs xs ∧
      ∃ o es ep, h.get? a = some o ∧ o.ExactDict ∧ o.data = .dict es ep ∧ es.toList = xs.map (entryOfKey (tupleKind (mixKind P w))) ∧ (xs.map (·.1)).Nodup
  | .set S n => h.SetOf (intKind P w) a S n
  | .ins C dx fs => H dx = some (.own a) ∧ fs.length ≤ 1000 ∧ dx ≠ a ∧ h.get? a = some (PySem.W.instObj C dx) ∧
      ∃ mA, h.Ns1 dx mA ∧ (∀ f, RelO (fs.lookup f) (mA f)) ∧ PySem.Within mA (fs.map (·.1))
  | .own _ => ∃ o, h.get? a = some o
  | .xd fs => ∃ mA, h.Ns1 a mA ∧ ∀ f, RelO (fs.lookup f) (mA f)
  | .rng lo hi => ∃ t u v, h.get? a = some { cls := .type "range", data := .fields #[.int lo t, .int hi u, .int 1 v] }
  | .frz o u => h.get? a = some o ∧ ObjOk H h a u
  | .tbl ps => h.get? a = some { cls := .none, data := .fields ps }
  | .met f x => h.get? a = some (PySem.W.methodObj (.ref f) (.ref x))
  | .ext φ => φ h ∧ (∃ o, h.get? a = some o) ∧ ∀ h1 h2 : Heap, φ h1 → (∀ o, h1.get? a = some o → h2.get? a = some o) → φ h2
/-- the abstract heap is held -/
def HOk (H : Hp) (h : Heap) : Prop := ∀ a o, H a = some o → ObjOk P w H h a o
end

section
variable {P : Program} {w : World} {H H' : Hp} {h h' : Heap} {a : Addr} {o : HO}
theorem ObjOk.lt (x : ObjOk P w H h a o) : a < h.objs.size := by
  cases o with
  | lst xs => obtain ⟨_, _, _, _, e⟩ := x; exact Heap.lt_size e
  | tup xs => obtain ⟨_, _, _, p⟩ := x; exact p.lt
  | dK kvs => obtain ⟨_, _, _, _, o, _, _, e, _⟩ := x; exact Heap.lt_size e
  | dT kvs => obtain ⟨_, _, _, _, o, _, _, e, _⟩ := x; exact Heap.lt_size e
  | set S n => obtain ⟨o, _, _, _, e, _⟩ := x; exact Heap.lt_size e
  | ins C dx fs => obtain ⟨_, _, _, e, _⟩ := x; exact Heap.lt_size e
  | own y => obtain ⟨_, e⟩ := x; exact Heap.lt_size e
  | xd fs => obtain ⟨_, ⟨_, _, _, e, _⟩, _⟩ := x; exact Heap.lt_size e
  | rng lo hi => obtain ⟨_, _, _, e⟩ := x; exact Heap.lt_size e
  | frz ob u => obtain ⟨e, _⟩ := x; exact Heap.lt_size e
  | tbl ps => exact Heap.lt_size (show h.get? a = some _ from x)
  | met f y => exact Heap.lt_size (show h.get? a = some _ from x)
  | ext φ => obtain ⟨_, ⟨_, e⟩, _⟩ := x; exact Heap.lt_size e
theorem Paired.mapP {α β : Type} {F G : α → β → Prop} : ∀ {l₁ : List α} {l₂ : List β}, Paired F l₁ l₂ → (∀ a b, F a b → G a b) → Paired G l₁ l₂
  | _, _, .nil, _ => .nil
  | _, _, .cons r t, f => .cons (f _ _ r) (Paired.mapP t f)
/-- what an object's description leans on: its own object, its own dict, the tuples -/
theorem ObjOk.stay (x : ObjOk P w H h a o) (k : ∀ b u, (b = a ∨ H b = some (.own a)) → h.get? b = some u → h'.get? b = some u)
    (ho : ∀ b, H b = some (.own a) → H' b = some (.own a)) (ht : ∀ b xs, H b = some (.tup xs) → H' b = some (.tup xs)) : ObjOk P w H' h' a o := by
  induction o with
  | lst xs => obtain ⟨z, its, n, r, e⟩ := x; exact ⟨z, its, n, r, k _ _ (.inl rfl) e⟩
  | tup xs => obtain ⟨z, its, r, ob, e, c⟩ := x; exact ⟨z, its, r, ob, k _ _ (.inl rfl) e, c⟩
  | dK kvs => obtain ⟨z, y, vs, r, ob, es, ep, e, c⟩ := x; exact ⟨z, y, vs, r, ob, es, ep, k _ _ (.inl rfl) e, c⟩
  | dT kvs =>
    obtain ⟨z, y, xs, r, ob, es, ep, e, c⟩ := x
    exact ⟨z, y, xs, Paired.mapP r fun p q z => ⟨z.1, ht _ _ z.2.1, z.2.2⟩, ob, es, ep, k _ _ (.inl rfl) e, c⟩
  | set S n => obtain ⟨ob, es, ep, t, e, c⟩ := x; exact ⟨ob, es, ep, t, k _ _ (.inl rfl) e, c⟩
  | ins C dx fs =>
    obtain ⟨d, z, ne, e, mA, ⟨od, es, ep, e2, c⟩, r⟩ := x
    exact ⟨ho _ d, z, ne, k _ _ (.inl rfl) e, mA, ⟨od, es, ep, k _ _ (.inr d) e2, c⟩, r⟩
  | own y => obtain ⟨ob, e⟩ := x; exact ⟨ob, k _ _ (.inl rfl) e⟩
  | xd fs => obtain ⟨mA, ⟨od, es, ep, e, c⟩, r⟩ := x; exact ⟨mA, ⟨od, es, ep, k _ _ (.inl rfl) e, c⟩, r⟩
  | rng lo hi => obtain ⟨t, u, v, e⟩ := x; exact ⟨t, u, v, k _ _ (.inl rfl) e⟩
  | frz ob u ih => obtain ⟨e, q⟩ := x; exact ⟨k _ _ (.inl rfl) e, ih q⟩
  | tbl ps =>
    have e : h.get? a = some { cls := .none, data := .fields ps } := x
    show h'.get? a = some { cls := .none, data := .fields ps }
    exact k a _ (.inl rfl) e
  | met f y =>
    have e : h.get? a = some (PySem.W.methodObj (.ref f) (.ref y)) := x
    show h'.get? a = some (PySem.W.methodObj (.ref f) (.ref y))
    exact k a _ (.inl rfl) e
  | ext φ => obtain ⟨p, ⟨o, e⟩, st⟩ := x; exact ⟨st _ _ p fun o q => k _ _ (.inl rfl) q, ⟨o, k _ _ (.inl rfl) e⟩, st⟩
theorem HOk.lt (x : HOk P w H h) (e : H a = some o) : a < h.objs.size := (x a o e).lt
theorem HOk.fresh (x : HOk P w H h) (e : h.objs.size ≤ a) : H a = none := by
  cases q : H a with
  | none => rfl
  | some u => exact absurd (Nat.lt_of_lt_of_le (x.lt q) e) (Nat.lt_irrefl _)
/-- every object of the heap is kept -/
theorem HOk.kept (x : HOk P w H h) (k : ∀ b u, h.get? b = some u → h'.get? b = some u) : HOk P w H h' := fun a o e =>
  (x a o e).stay (fun b u _ q => k b u q) (fun _ q => q) fun _ _ q => q
/-- a new object is laid and tracked -/
theorem HOk.laid (x : HOk P w H h) (k : ∀ b u, h.get? b = some u → h'.get? b = some u) (hp : h.objs.size ≤ a) (new : ObjOk P w (upd H a o) h' a o) : HOk P w (upd H a o) h' := fun b u e => by
  have hn := x.fresh hp
  by_cases hb : b = a
  · subst hb; rw [upd_same] at e; cases e; exact new
  · rw [upd_ne hb] at e
    exact (x b u e).stay (fun c v _ q => k c v q) (fun c q => by rw [upd_ne (ne_of_none q hn)]; exact q) fun c xs q => by rw [upd_ne (ne_of_none q hn)]; exact q
end

/-- what may be read as u: it is u, or a known u -/
def Rd (H : Hp) (a : Addr) (u : HO) : Prop := H a = some u ∨ ∃ o, H a = some (.frz o u)
theorem Rd.ok {P : Program} {w : World} {H : Hp} {h : Heap} {a : Addr} {u : HO} (r : Rd H a u) (x : HOk P w H h) : ObjOk P w H h a u := by
  rcases r with r | ⟨o, r⟩
  · exact x a u r
  · obtain ⟨_, q⟩ := x a _ r
    exact q
/-- what may be written -/
def Mut : Option HO → Prop
  | some (.lst _) => True
  | some (.dK _) => True
  | some (.dT _) => True
  | some (.set _ _) => True
  | some (.ins _ _ _) => True
  | some (.ext _) => True
  | _ => False
section
variable {P : Program} {w : World} {H : Hp} {h h' : Heap} {x e : Addr} {o' : HO}
/-- the object at e is changed: x itself, or the dict of the instance x -/
theorem HOk.write (ok : HOk P w H h) (mu : Mut (H x)) (he : e = x ∨ H e = some (.own x)) (k : ∀ b u, b ≠ e → h.get? b = some u → h'.get? b = some u) (heo : ∃ u, h'.get? e = some u)
    (new : ObjOk P w (upd H x o') h' x o') : HOk P w (upd H x o') h' := fun b u q => by
  have nown : ∀ c y, H c = some (.own y) → c ≠ x := fun c y r z => by subst z; rw [r] at mu; exact mu
  have ntup : ∀ c xs, H c = some (.tup xs) → c ≠ x := fun c xs r z => by subst z; rw [r] at mu; exact mu
  by_cases hb : b = x
  · subst hb; rw [upd_same] at q; cases q; exact new
  · rw [upd_ne hb] at q
    by_cases hbe : b = e
    · have q' : H b = some (.own x) := by
        rcases he with z | z
        · exact absurd (hbe.trans z) hb
        · rw [hbe]; exact z
      rw [q] at q'; cases q'
      obtain ⟨v, hv⟩ := heo
      exact ⟨v, by rw [hbe]; exact hv⟩
    · refine (ok b u q).stay (fun c v hc r => k c v ?_ r) (fun c r => by rw [upd_ne (nown c b r)]; exact r) fun c xs r => by rw [upd_ne (ntup c xs r)]; exact r
      rcases hc with rfl | hc
      · exact hbe
      · rintro rfl
        rcases he with z | z
        · exact nown c b hc z
        · rw [hc] at z; cases z; exact hb rfl
end

/-! ### kept unless tracked; of the frames at fs (the callers') the slots may change (an exception that passes writes there); of the records at ex (iterators) nothing is said -/
structure Un (fs ex : List Addr) (H H' : Hp) (h h' : Heap) : Prop where
  keep : ∀ b o, h.get? b = some o → H b = none → b ∉ fs → b ∉ ex → h'.get? b = some o
  slot : ∀ b o, h.get? b = some o → H b = none → b ∈ fs → b ∉ ex → ∃ sl, h'.get? b = some { o with slots := sl }
  free : ∀ b o, h.get? b = some o → H b = none → b ∉ ex → H' b = none
  there : ∀ b o, h.get? b = some o → b ∉ ex → ∃ o', h'.get? b = some o'
  tups : ∀ b xs, H b = some (.tup xs) → H' b = some (.tup xs)
  frzs : ∀ b o u, H b = some (.frz o u) → H' b = some (.frz o u)
  tbls : ∀ b ps, H b = some (.tbl ps) → ∃ more, H' b = some (.tbl (ps ++ more))
section
variable {fs fs' ex ex' : List Addr} {H H1 H2 : Hp} {h h1 h2 h' : Heap} {a x e : Addr} {o : HO}
theorem Un.any (u : Un fs ex H H1 h h1) {b : Addr} {ob : Obj} (q : h.get? b = some ob) (n : H b = none) (hx : b ∉ ex) : ∃ sl, h1.get? b = some { ob with slots := sl } := by
  by_cases hb : b ∈ fs
  · exact u.slot b ob q n hb hx
  · exact ⟨ob.slots, u.keep b ob q n hb hx⟩
theorem Un.kept (k : ∀ b u, h.get? b = some u → h'.get? b = some u) : Un fs ex H H h h' :=
  ⟨fun b ob q _ _ _ => k b ob q, fun b ob q _ _ _ => ⟨ob.slots, k b ob q⟩, fun _ _ _ n _ => n, fun b ob q _ => ⟨ob, k b ob q⟩, fun _ _ q => q, fun _ _ _ q => q, fun _ ps q => ⟨#[], by rw [q]; simp⟩⟩
theorem Un.refl : Un fs ex H H h h := Un.kept fun _ _ q => q
theorem Un.laid (k : ∀ b u, h.get? b = some u → h'.get? b = some u) (hp : h.objs.size ≤ a) (hn : H a = none) : Un fs ex H (upd H a o) h h' where
  keep := fun b u q _ _ _ => k b u q
  slot := fun b u q _ _ _ => ⟨u.slots, k b u q⟩
  free := fun b u q n _ => by rw [upd_ne (Nat.ne_of_lt (Nat.lt_of_lt_of_le (Heap.lt_size q) hp))]; exact n
  there := fun b u q _ => ⟨u, k b u q⟩
  tups := fun b xs q => by rw [upd_ne (ne_of_none q hn)]; exact q
  frzs := fun b u xs q => by rw [upd_ne (ne_of_none q hn)]; exact q
  tbls := fun b ps q => ⟨#[], by rw [upd_ne (ne_of_none q hn), q]; simp⟩
theorem Un.write (mu : Mut (H x)) (he : e = x ∨ H e = some (.own x)) (k : ∀ b u, b ≠ e → h.get? b = some u → h'.get? b = some u) (heo : ∃ u, h'.get? e = some u) : Un fs ex H (upd H x o) h h' := by
  have hx : ∀ b, H b = none → b ≠ x := fun b n z => by subst z; rw [n] at mu; exact mu
  have hb : ∀ b, H b = none → b ≠ e := fun b n z => by
    subst z
    rcases he with r | r
    · exact hx b n r
    · rw [n] at r; cases r
  have hm : ∀ b u, H b = some u → ¬ Mut (some u) → b ≠ x := fun b u q nm z => by subst z; rw [q] at mu; exact nm mu
  refine ⟨fun b u q n _ _ => k b u (hb b n) q, fun b u q n _ _ => ⟨u.slots, k b u (hb b n) q⟩, fun b u q n _ => by rw [upd_ne (hx b n)]; exact n, fun b u q _ => ?_,
    fun b xs q => by rw [upd_ne (hm b _ q fun z => z)]; exact q, fun b u xs q => by rw [upd_ne (hm b _ q fun z => z)]; exact q, fun b ps q => ⟨#[], by rw [upd_ne (hm b _ q fun z => z), q]; simp⟩⟩
  by_cases hbe : b = e
  · subst hbe; exact heo
  · exact ⟨u, k b u hbe q⟩
end

/-! ### the heap without what is tracked -/
def trk (h : Heap) (H : Hp) : List Addr := (List.range h.objs.size).filter fun a => (H a).isSome
def hidT (h : Heap) (H : Hp) : Heap := PySem.W.hideAll h (trk h H)
theorem hidT_size (h : Heap) (H : Hp) : (hidT h H).objs.size = h.objs.size := PySem.W.hideAll_size _ _
theorem hidT_get {h : Heap} {H : Hp} {b : Addr} {o : Obj} (e : h.get? b = some o) (n : H b = none) : (hidT h H).get? b = some o :=
  PySem.W.hideAll_get _ e fun hm => by
    have q : (H b).isSome = true := (List.mem_filter.mp hm).2
    rw [n] at q; simp at q
theorem of_hidT {h : Heap} {H : Hp} {b : Addr} {o : Obj} (e : (hidT h H).get? b = some o) : h.get? b = some o ∧ H b = none := by
  have e' : h.get? b = some o := PySem.W.of_hideAll (trk h H) e
  refine ⟨e', ?_⟩
  cases q : H b with
  | none => rfl
  | some x =>
    have hm : b ∈ trk h H := List.mem_filter.mpr ⟨List.mem_range.mpr (Heap.lt_size e'), by simp [q]⟩
    have z : (hidT h H).get? b = none := PySem.W.hideAll_none (trk h H) hm
    rw [z] at e; cases e

/-! ### OpenK's ledger, filled with every new object but one -/
def allNews (g h : Heap) (L : Addr) : List (Addr × Obj) := (List.range h.objs.size).filterMap fun a => if a = L ∨ (g.get? a).isSome = true then none else (h.get? a).map fun o => (a, o)
def rest (g h : Heap) (L d : Addr) : List (Addr × Obj) := (allNews g h L).filter fun p => decide (p.1 ≠ d)
end L2

namespace L2
open PySem PySem.Spec PyProof.Rows

/-- the module's facts, over the base: the heap at the law's entry without what is tracked there -/
structure Mod (K : PySem.W.Frag) (mg : Str → Option Value) (base : Heap) : Prop where
  kin : K.In base
  glob : base.Ns mainGlobals mg
  blt : ∃ mb, base.Ns builtinsNs mb ∧ ∀ x : Str, x ≠ "__name__" → mb x = bootBuiltins x
  nolimit : base.NoLimit

/-- the context: a def's body (or a comprehension's block) running. base: fixed through the whole law; s₀, H₀: the entry; outer: the frames whose slots others may change (a def's callers); stack: all frames that run;
   ex: iterators that were made ahead of the entry and are walked here (a comprehension's); fn: the names whose cells were made at the entry (a def: all; a comprehension's block: its own); calm: not within an except suite; pn: pins that every state bears; xe: what is wanted of an exception that leaves the code -/
structure Cx where
  prog : Program
  w : World
  K : PySem.W.Frag
  mg : Str → Option Value
  base : Heap
  A : Around
  N : List Str
  s₀ : Shared
  H₀ : Hp
  env : Env
  outer : List Env
  stack : List Env
  ex : List Addr
  fn : Str → Bool
  calm : Bool
  pn : List (Addr × Obj)
  xe : Value → Shared → Prop
/-- the callers' frames -/
def frs (l : List Env) : List Addr := l.filterMap (·.frame)
abbrev Cx.fs (X : Cx) : List Addr := frs X.outer

def Vis (sc : Scope) (x : Str) : Prop := sc.names.lookup x = some .local ∨ sc.names.lookup x = some .cell ∨ sc.names.lookup x = some .free
def Loc (sc : Scope) (x : Str) : Prop := sc.names.lookup x = some .local ∨ sc.names.lookup x = some .cell
def Look (env : Env) (h : Heap) (m : Str → Option Value) (x : Str) (u : Value) : Prop :=
  (env.kindOf x = some .local ∧ m x = some u) ∨ ((env.kindOf x = some .cell ∨ env.kindOf x = some .free) ∧ ∃ c, env.cells.lookup x = some c ∧ h.IsCell c (some u))

structure Cx.Ok (X : Cx) : Prop where
  mod : Mod X.K X.mg X.base
  kind : X.env.scope.kind = .function
  glob : X.env.globals = mainGlobals
  blt : X.env.builtins = builtinsNs
  above : X.s₀.heap.objs.size ≤ X.env.locals
  inj : ∀ x y c, X.env.cells.lookup x = some c → X.env.cells.lookup y = some c → x = y
  has : ∀ x, (X.env.kindOf x = some .cell ∨ X.env.kindOf x = some .free) → ∃ c, X.env.cells.lookup x = some c
  cab : ∀ x c, X.fn x = true → X.env.cells.lookup x = some c → X.s₀.heap.objs.size ≤ c
  hd : X.calm = true → X.A.handled = none
  frames : X.A.frames = some X.stack
  stk : X.stack = X.outer ∨ (X.stack = X.env :: X.outer ∧ X.env.frame = some X.env.locals)
  exf : ∀ b ∈ X.ex, b ≠ X.env.locals ∧ ∀ x c, X.env.cells.lookup x = some c → c ≠ b
  bs : ∀ b o, X.base.get? b = some o → X.s₀.heap.get? b = some o ∧ X.H₀ b = none
  bsz : X.base.objs.size ≤ X.s₀.heap.objs.size
  noex : ∀ b o, X.base.get? b = some o → b ∉ X.ex
  exfs : ∀ b ∈ X.ex, b ∉ X.fs
  funs : X.s₀.heap.FunFrames X.base X.outer
  frf : ∀ b ∈ X.fs, X.H₀ b = none

structure Inv (X : Cx) (pins : List (Addr × Obj)) (σ : List (Option V)) (H : Hp) (s : Shared) : Prop where
  ok : X.Ok
  os : s.os = X.s₀.os
  bare : AllBare s.gens
  base : Un X.fs X.ex X.H₀ H X.s₀.heap s.heap
  loc : ∃ m, s.heap.Ns X.env.locals m ∧ ∀ (i : Nat) (x : Str) (v : V), X.N[i]? = some x → σ[i]? = some (some v) → Vis X.env.scope x → ∃ u, RelV v u ∧ Look X.env s.heap m x u
  cell : ∀ x c, X.env.cells.lookup x = some c → ∃ v, s.heap.IsCell c v
  free : H X.env.locals = none
  freeC : ∀ x c, X.env.cells.lookup x = some c → H c = none
  pin : ∀ p ∈ X.pn ++ pins, s.heap.get? p.1 = some p.2 ∧ H p.1 = none ∧ p.1 ≠ X.env.locals ∧ p.1 ∉ X.fs ∧ ∀ v, p.2.data ≠ .cell v
  hok : HOk X.prog X.w H s.heap
  len : σ.length = X.N.length

section
variable {X : Cx} {pins : List (Addr × Obj)} {σ : List (Option V)} {H H' : Hp} {s : Shared} {h' : Heap}

theorem Cx.Ok.nofr (ok : X.Ok) {b : Addr} {o : Obj} (e : X.base.get? b = some o) : b ∉ X.fs := fun hb => by
  have := (ok.funs.mem hb).1
  rw [e] at this; cases this
theorem Inv.bs (I : Inv X pins σ H s) : ∀ b o, X.base.get? b = some o → s.heap.get? b = some o ∧ H b = none := fun b o e =>
  ⟨I.base.keep b o (I.ok.bs b o e).1 (I.ok.bs b o e).2 (I.ok.nofr e) (I.ok.noex b o e), I.base.free b o (I.ok.bs b o e).1 (I.ok.bs b o e).2 (I.ok.noex b o e)⟩
theorem Inv.bk (I : Inv X pins σ H s) : ∀ b o, X.base.get? b = some o → s.heap.get? b = some o := fun b o e => (I.bs b o e).1
theorem Inv.mod (I : Inv X pins σ H s) : Mod X.K X.mg X.base := I.ok.mod
theorem Inv.kIn (I : Inv X pins σ H s) : X.K.In s.heap := I.ok.mod.kin.keeps I.bk
theorem Inv.lt (I : Inv X pins σ H s) : X.env.locals < s.heap.objs.size := let ⟨_, hn, _⟩ := I.loc; hn.lt
theorem Inv.sz (I : Inv X pins σ H s) : X.s₀.heap.objs.size ≤ s.heap.objs.size := Nat.le_trans I.ok.above (Nat.le_of_lt I.lt)
theorem Inv.nofs (I : Inv X pins σ H s) {a : Addr} (h : s.heap.objs.size ≤ a) : a ∉ X.fs := fun hb => by
  obtain ⟨_, o, ho, _⟩ := I.ok.funs.mem hb
  exact absurd (Nat.lt_of_lt_of_le (Heap.lt_size ho) (Nat.le_trans I.sz h)) (Nat.lt_irrefl _)
theorem Inv.cne (I : Inv X pins σ H s) : ∀ x c, X.env.cells.lookup x = some c → c ≠ X.env.locals := fun x c e z => by
  obtain ⟨v, o, ho, hd⟩ := I.cell x c e
  obtain ⟨m, ⟨o', es, ep, ho', hd', _⟩, _⟩ := I.loc
  rw [z, ho'] at ho; cases ho; rw [hd'] at hd; cases hd
theorem Inv.funs (I : Inv X pins σ H s) : s.heap.FunFrames X.base X.outer := by
  have all : ∀ (l : List Env), (∀ b ∈ frs l, b ∈ X.fs) → X.s₀.heap.FunFrames X.base l → s.heap.FunFrames X.base l := by
    intro l
    induction l with
    | nil => intro _ _; trivial
    | cons env r ih =>
      intro hs hl
      obtain ⟨hk, ⟨L, o, hf, hn, ho, hd⟩, hr⟩ := hl
      have hL : L ∈ X.fs := hs L (by unfold frs; rw [List.filterMap_cons, hf]; exact List.mem_cons_self)
      obtain ⟨sl, e⟩ := I.base.slot L o ho (I.ok.frf L hL) hL fun z => I.ok.exfs L z hL
      exact ⟨hk, ⟨L, _, hf, hn, e, hd⟩, ih (fun b hb => hs b (by unfold frs; rw [List.filterMap_cons, hf]; exact List.mem_cons_of_mem _ hb)) hr⟩
  exact all X.outer (fun _ hb => hb) I.ok.funs

/-- the frames that run, for a call -/
theorem Inv.stack (I : Inv X pins σ H s) : s.heap.FunFrames X.base X.stack := by
  rcases I.ok.stk with e | ⟨e, hf⟩
  · rw [e]; exact I.funs
  · rw [e]
    obtain ⟨m, hn, _⟩ := I.loc
    refine .cons (by rw [I.ok.kind]; decide) hf hn ?_ I.funs
    exact Heap.get?_none_of_le (Nat.le_trans I.ok.bsz I.ok.above)
theorem Inv.stkSub (I : Inv X pins σ H s) : ∀ b ∈ frs X.stack, b ∈ X.env.locals :: X.fs := fun b hb => by
  rcases I.ok.stk with e | ⟨e, hf⟩
  · rw [e] at hb; exact List.mem_cons_of_mem _ hb
  · rw [e] at hb
    unfold frs at hb
    rw [List.filterMap_cons, hf] at hb
    exact hb
theorem Inv.stkFree (I : Inv X pins σ H s) : ∀ b ∈ frs X.stack, H b = none := fun b hb => by
  rcases List.mem_cons.mp (I.stkSub b hb) with e | hb
  · rw [e]; exact I.free
  · obtain ⟨_, o, ho, _⟩ := I.ok.funs.mem hb
    exact I.base.free b o ho (I.ok.frf b hb) fun z => I.ok.exfs b z hb

/-- THE STEP: the untracked objects but the frame and the records at ch are kept (the callers' frames up to slots), the frame's map is kept, the new abstract heap is held -/
theorem Inv.step {g' : Array GenState} {t' : Nat} {d' : Drawn} {ch : List Addr} (I : Inv X pins σ H s)
    (hch : ∀ b ∈ ch, (b ∈ X.ex ∨ X.s₀.heap.objs.size ≤ b) ∧ b ≠ X.env.locals ∧ (∀ x c, X.env.cells.lookup x = some c → c ≠ b) ∧ ∀ p ∈ X.pn ++ pins, p.1 ≠ b)
    (keep : ∀ b o, b ≠ X.env.locals → b ∉ X.fs → b ∉ ch → s.heap.get? b = some o → H b = none → h'.get? b = some o)
    (slot : ∀ b o, b ≠ X.env.locals → b ∈ X.fs → b ∉ ch → s.heap.get? b = some o → H b = none → ∃ sl, h'.get? b = some { o with slots := sl }) (free : ∀ b o, b ∉ ch → s.heap.get? b = some o → H b = none → H' b = none)
    (there : ∀ b o, b ∉ ch → s.heap.get? b = some o → ∃ o', h'.get? b = some o')
    (tups : ∀ b xs, H b = some (.tup xs) → H' b = some (.tup xs)) (frzs : ∀ b o u, H b = some (.frz o u) → H' b = some (.frz o u)) (tbls : ∀ b ps, H b = some (.tbl ps) → ∃ more, H' b = some (.tbl (ps ++ more)))
    (ns : ∀ m, s.heap.Ns X.env.locals m → h'.Ns X.env.locals m) (hok : HOk X.prog X.w H' h') (hg : AllBare g') :
    Inv X pins σ H' { s with heap := h', gens := g', drawn := d', toks := t' } := by
  have neL : ∀ b o, X.s₀.heap.get? b = some o → b ≠ X.env.locals := fun b o e => Nat.ne_of_lt (Nat.lt_of_lt_of_le (Heap.lt_size e) I.ok.above)
  have neC : ∀ b o, X.s₀.heap.get? b = some o → b ∉ X.ex → b ∉ ch := fun b o e hx hb => by
    rcases (hch b hb).1 with z | z
    · exact hx z
    · exact absurd (Nat.lt_of_lt_of_le (Heap.lt_size e) z) (Nat.lt_irrefl _)
  have cellK : ∀ x c, X.env.cells.lookup x = some c → ∀ v, s.heap.IsCell c v → h'.IsCell c v := fun x c e v ⟨o, ho, hd⟩ => by
    have nch : c ∉ ch := fun z => (hch c z).2.2.1 x c e rfl
    by_cases hc : c ∈ X.fs
    · obtain ⟨sl, q⟩ := slot c o (I.cne x c e) hc nch ho (I.freeC x c e)
      exact ⟨_, q, hd⟩
    · exact ⟨o, keep c o (I.cne x c e) hc nch ho (I.freeC x c e), hd⟩
  refine ⟨I.ok, I.os, hg, ⟨fun b o e n hb hx => ?_, fun b o e n hb hx => ?_, fun b o e n hx => ?_, fun b o e hx => ?_, fun b xs e => tups b xs (I.base.tups b xs e), fun b o xs e => frzs b o xs (I.base.frzs b o xs e), fun b ps e => ?_⟩, ?_, fun x c e => ?_, ?_, fun x c e => ?_, fun p hp => ?_, hok, I.len⟩
  · exact keep b o (neL b o e) hb (neC b o e hx) (I.base.keep b o e n hb hx) (I.base.free b o e n hx)
  · obtain ⟨sl, e1⟩ := I.base.slot b o e n hb hx
    obtain ⟨sl', e2⟩ := slot b _ (neL b o e) hb (neC b o e hx) e1 (I.base.free b o e n hx)
    exact ⟨sl', e2⟩
  · obtain ⟨o', e1⟩ := I.base.there b o e hx
    exact free b o' (neC b o e hx) e1 (I.base.free b o e n hx)
  · obtain ⟨o', e1⟩ := I.base.there b o e hx
    exact there b o' (neC b o e hx) e1
  · obtain ⟨m1, e1⟩ := I.base.tbls b ps e
    obtain ⟨m2, e2⟩ := tbls b _ e1
    exact ⟨m1 ++ m2, by rw [e2, Array.append_assoc]⟩
  · obtain ⟨m, hn, hl⟩ := I.loc
    refine ⟨m, ns m hn, fun i x v e1 e2 e3 => ?_⟩
    obtain ⟨u, r, l⟩ := hl i x v e1 e2 e3
    refine ⟨u, r, ?_⟩
    rcases l with l | ⟨k, c, e, z⟩
    · exact .inl l
    · exact .inr ⟨k, c, e, cellK x c e _ z⟩
  · obtain ⟨v, z⟩ := I.cell x c e
    exact ⟨v, cellK x c e v z⟩
  · obtain ⟨m, ⟨o, _, _, ho, _⟩, _⟩ := I.loc
    exact free _ o (fun z => (hch _ z).2.1 rfl) ho I.free
  · obtain ⟨v, o, ho, hd⟩ := I.cell x c e
    exact free c o (fun z => (hch c z).2.2.1 x c e rfl) ho (I.freeC x c e)
  · obtain ⟨e, n, ne, nf, d⟩ := I.pin p hp
    have nch : p.1 ∉ ch := fun z => (hch p.1 z).2.2.2 p hp rfl
    exact ⟨keep p.1 p.2 ne nf nch e n, free p.1 p.2 nch e n, ne, nf, d⟩
/-- .. where the frame's own object is kept too -/
theorem Inv.un {t' : Nat} (I : Inv X pins σ H s) (u : Un X.fs [] H H' s.heap h') (hok : HOk X.prog X.w H' h') : Inv X pins σ H' { s with heap := h', toks := t' } := by
  obtain ⟨m, ⟨o, es, ep, ho, r⟩, _⟩ := id I.loc
  obtain ⟨sl, hL⟩ := u.any ho I.free (by simp)
  exact I.step (g' := s.gens) (d' := s.drawn) (ch := []) (fun _ z => nomatch z) (fun b o _ hb _ e n => u.keep b o e n hb (by simp)) (fun b o _ hb _ e n => u.slot b o e n hb (by simp)) (fun b o _ e n => u.free b o e n (by simp)) (fun b o _ e => u.there b o e (by simp)) u.tups u.frzs u.tbls (fun m' hm => by
    obtain ⟨o', es', ep', ho', r'⟩ := hm
    rw [ho] at ho'; cases ho'
    exact ⟨_, es', ep', hL, r'⟩) hok I.bare
/-- behind a call (or a comprehension's block): the slots of this frame may have changed too, the records at ch may have turned -/
theorem Inv.call {g' : Array GenState} {t' : Nat} {d' : Drawn} {ch : List Addr} (I : Inv X pins σ H s) (u : Un (frs X.stack) ch H H' s.heap h') (hok : HOk X.prog X.w H' h') (hg : AllBare g')
    (hch : ∀ b ∈ ch, (b ∈ X.ex ∨ X.s₀.heap.objs.size ≤ b) ∧ b ≠ X.env.locals ∧ (∀ x c, X.env.cells.lookup x = some c → c ≠ b) ∧ ∀ p ∈ X.pn ++ pins, p.1 ≠ b) :
    Inv X pins σ H' { s with heap := h', gens := g', drawn := d', toks := t' } := by
  obtain ⟨m, ⟨o, es, ep, ho, r⟩, _⟩ := id I.loc
  obtain ⟨sl, hL⟩ := u.any ho I.free fun z => (hch _ z).2.1 rfl
  exact I.step (ch := ch) hch (fun b o hL hb hc e n => u.keep b o e n (fun z => (List.mem_cons.mp (I.stkSub b z)).elim hL hb) hc) (fun b o _ _ hc e n => u.any e n hc) (fun b o hc e n => u.free b o e n hc) (fun b o hc e => u.there b o e hc) u.tups u.frzs u.tbls (fun m' hm => by
    obtain ⟨o', es', ep', ho', r'⟩ := hm
    rw [ho] at ho'; cases ho'
    exact ⟨_, es', ep', hL, r'⟩) hok hg
/-- an untracked record of ours (an iterator) has turned -/
theorem Inv.turned {t' : Nat} {it : Addr} (I : Inv X pins σ H s) (k : ∀ b o, b ≠ it → s.heap.get? b = some o → h'.get? b = some o) (hn : H it = none) (hL : it ≠ X.env.locals)
    (h1 : it ∈ X.ex ∨ X.s₀.heap.objs.size ≤ it) (h2 : ∀ x c, X.env.cells.lookup x = some c → c ≠ it) (h3 : ∀ p ∈ X.pn ++ pins, p.1 ≠ it) : Inv X pins σ H { s with heap := h', toks := t' } := by
  have nit : ∀ b u, H b = some u → b ≠ it := fun b u e z => by rw [z, hn] at e; cases e
  refine I.step (g' := s.gens) (d' := s.drawn) (ch := [it]) (fun b hb => ?_) (fun b o _ _ hc e _ => k b o (fun z => hc (by simp [z])) e) (fun b o _ _ hc e _ => ⟨o.slots, k b o (fun z => hc (by simp [z])) e⟩) (fun _ _ _ _ n => n)
    (fun b o hc e => ⟨o, k b o (fun z => hc (by simp [z])) e⟩) (fun _ _ e => e) (fun _ _ _ e => e) (fun b ps e => ⟨#[], by rw [e]; simp⟩) (fun m hm => ?_) (fun b u e => ?_) I.bare
  · have e : b = it := by simpa using hb
    subst e
    exact ⟨h1, hL, h2, h3⟩
  · obtain ⟨o, es, ep, ho, r⟩ := hm
    exact ⟨o, es, ep, k _ o (Ne.symm hL) ho, r⟩
  · refine (I.hok b u e).stay (fun c v hc q => k c v ?_ q) (fun _ q => q) fun _ _ q => q
    rcases hc with z | z
    · rw [z]; exact nit b u e
    · exact nit c _ z
theorem Inv.tok (I : Inv X pins σ H s) (t : Nat) : Inv X pins σ H { s with toks := t } := I.un (h' := s.heap) (t' := t) Un.refl I.hok
/-- all objects kept -/
theorem Inv.kept {t' : Nat} (I : Inv X pins σ H s) (k : ∀ b u, s.heap.get? b = some u → h'.get? b = some u) : Inv X pins σ H { s with heap := h', toks := t' } := I.un (Un.kept k) (I.hok.kept k)
/-- a new object laid and tracked -/
theorem Inv.laid {a : Addr} {o : HO} {t' : Nat} (I : Inv X pins σ H s) (k : ∀ b u, s.heap.get? b = some u → h'.get? b = some u) (hp : s.heap.objs.size ≤ a) (new : ObjOk X.prog X.w (upd H a o) h' a o) :
    Inv X pins σ (upd H a o) { s with heap := h', toks := t' } := I.un (Un.laid k hp (I.hok.fresh hp)) (I.hok.laid k hp new)
/-- an object written -/
theorem Inv.write {x e : Addr} {o : HO} {t' : Nat} (I : Inv X pins σ H s) (mu : Mut (H x)) (he : e = x ∨ H e = some (.own x)) (k : ∀ b u, b ≠ e → s.heap.get? b = some u → h'.get? b = some u) (heo : ∃ u, h'.get? e = some u)
    (new : ObjOk X.prog X.w (upd H x o) h' x o) : Inv X pins σ (upd H x o) { s with heap := h', toks := t' } := I.un (Un.write mu he k heo) (I.hok.write mu he k heo new)
theorem Inv.pins_of {pins' : List (Addr × Obj)} (I : Inv X pins σ H s) (h : ∀ p ∈ pins', s.heap.get? p.1 = some p.2 ∧ H p.1 = none ∧ p.1 ≠ X.env.locals ∧ p.1 ∉ X.fs ∧ ∀ v, p.2.data ≠ .cell v) : Inv X pins' σ H s :=
  ⟨I.ok, I.os, I.bare, I.base, I.loc, I.cell, I.free, I.freeC, fun p hp => (List.mem_append.mp hp).elim (fun z => I.pin p (List.mem_append_left _ z)) (h p), I.hok, I.len⟩

theorem nodup_ix {N : List Str} (hN : N.Nodup) {i j : Nat} {x : Str} (a : N[i]? = some x) (b : N[j]? = some x) : i = j := by
  obtain ⟨h1, e1⟩ := List.getElem?_eq_some_iff.mp a
  obtain ⟨h2, e2⟩ := List.getElem?_eq_some_iff.mp b
  exact (List.getElem_inj hN).mp (e1.trans e2.symm)

/-- a name is stored; what changed -/
theorem store_ok2 {M : Model} {A : Around} {E : Value → Shared → Prop} {i : Nat} {x : Str} {v : V} {u : Value} {Q : Unit → Shared → Prop} (I : Inv X pins σ H s) (hN : X.N.Nodup) (hi : X.N[i]? = some x) (hx : Loc X.env.scope x) (r : RelV v u)
    (h : ∀ s', Inv X pins (σ.set i (some v)) H s' → (∃ a, Heap.SameBut a s.heap s'.heap ∧ (a = X.env.locals ∨ X.env.cells.lookup x = some a)) → Q () s') (hf : X.fn x = true ∨ X.env.scope.names.lookup x = some .local := by first | exact .inl rfl | exact .inr rfl | assumption) : wpAny M A (storeName X.env x u) Q E s := by
  obtain ⟨m, hn, hl⟩ := id I.loc
  have hcls : (X.env.scope.kind == .class || (X.env.scope.kind == .module && X.env.locals != X.env.globals)) = false := by rw [I.ok.kind]; rfl
  have hiσ : i < σ.length := by rw [I.len]; exact (List.getElem?_eq_some_iff.mp hi).1
  have cne := I.cne
  have tracked : ∀ {a : Addr} {h' : Heap}, (∃ o, s.heap.get? a = some o ∧ H a = none) → Heap.SameBut a s.heap h' → HOk X.prog X.w H h' := fun {a h'} ha hs b ob e => by
    obtain ⟨_, _, hfree⟩ := ha
    refine (I.hok b ob e).stay (fun c w' hc q => (hs.2 c ?_).trans q) (fun _ q => q) fun _ _ q => q
    rintro rfl
    rcases hc with rfl | hc
    · rw [hfree] at e; cases e
    · rw [hfree] at hc; cases hc
  rcases hx with hk | hk
  · refine wpAny_storeName_local hk hn (fun h' hn' hs => ?_) hcls
    obtain ⟨oL, _, _, hoL, _⟩ := id hn
    refine h _ ⟨I.ok, I.os, I.bare, ⟨fun b o e n hb hx => ?_, fun b o e n hb hx => ?_, I.base.free, fun b o e hx => ?_, I.base.tups, I.base.frzs, I.base.tbls⟩, ⟨_, hn', fun j y v' e1 e2 e3 => ?_⟩, fun y c e => ?_, I.free, I.freeC, fun p hp => ?_, tracked ⟨oL, hoL, I.free⟩ hs, by simpa using I.len⟩ ⟨_, hs, .inl rfl⟩
    · exact (hs.2 b (Nat.ne_of_lt (Nat.lt_of_lt_of_le (Heap.lt_size e) I.ok.above))).trans (I.base.keep b o e n hb hx)
    · obtain ⟨sl, e1⟩ := I.base.slot b o e n hb hx
      exact ⟨sl, (hs.2 b (Nat.ne_of_lt (Nat.lt_of_lt_of_le (Heap.lt_size e) I.ok.above))).trans e1⟩
    · obtain ⟨o', e1⟩ := I.base.there b o e hx
      exact ⟨o', (hs.2 b (Nat.ne_of_lt (Nat.lt_of_lt_of_le (Heap.lt_size e) I.ok.above))).trans e1⟩
    · by_cases hj : j = i
      · subst hj
        rw [hi] at e1; cases e1
        rw [List.getElem?_set_self hiσ] at e2
        cases e2
        exact ⟨u, r, .inl ⟨hk, by simp⟩⟩
      · rw [List.getElem?_set_ne (Ne.symm hj)] at e2
        obtain ⟨u', r', q⟩ := hl j y v' e1 e2 e3
        refine ⟨u', r', ?_⟩
        rcases q with ⟨k, e⟩ | ⟨k, c, e, z⟩
        · refine .inl ⟨k, ?_⟩
          have : y ≠ x := fun e => hj (nodup_ix hN e1 (e ▸ hi))
          simp [this, e]
        · exact .inr ⟨k, c, e, z.sameBut hs (cne y c e)⟩
    · obtain ⟨w', z⟩ := I.cell y c e
      exact ⟨w', z.sameBut hs (cne y c e)⟩
    · obtain ⟨e, n, ne, nf, d⟩ := I.pin p hp
      exact ⟨(hs.2 p.1 ne).trans e, n, ne, nf, d⟩
  · have hfn : X.fn x = true := by
      rcases hf with z | z
      · exact z
      · rw [z] at hk; cases hk
    obtain ⟨c, hc⟩ := I.ok.has x (.inl hk)
    obtain ⟨w', z⟩ := I.cell x c hc
    refine wpAny_storeName_cell I.ok.kind hk hc z (fun h' hc' hs => ?_)
    obtain ⟨oc, hoc, hocd⟩ := id z
    refine h { s with heap := h' } ⟨I.ok, I.os, I.bare, ⟨fun b o e n hb hx => ?_, fun b o e n hb hx => ?_, I.base.free, fun b o e hx => ?_, I.base.tups, I.base.frzs, I.base.tbls⟩, ⟨m, hn.sameBut hs (Ne.symm (cne x c hc)), fun j y v' e1 e2 e3 => ?_⟩, fun y c' e => ?_, I.free, I.freeC, fun p hp => ?_, tracked ⟨oc, hoc, I.freeC x c hc⟩ hs, by simpa using I.len⟩ ⟨c, hs, .inr hc⟩
    · exact (hs.2 b (Nat.ne_of_lt (Nat.lt_of_lt_of_le (Heap.lt_size e) (I.ok.cab x c hfn hc)))).trans (I.base.keep b o e n hb hx)
    · obtain ⟨sl, e1⟩ := I.base.slot b o e n hb hx
      exact ⟨sl, (hs.2 b (Nat.ne_of_lt (Nat.lt_of_lt_of_le (Heap.lt_size e) (I.ok.cab x c hfn hc)))).trans e1⟩
    · obtain ⟨o', e1⟩ := I.base.there b o e hx
      exact ⟨o', (hs.2 b (Nat.ne_of_lt (Nat.lt_of_lt_of_le (Heap.lt_size e) (I.ok.cab x c hfn hc)))).trans e1⟩
    · by_cases hj : j = i
      · subst hj
        rw [hi] at e1; cases e1
        rw [List.getElem?_set_self hiσ] at e2
        cases e2
        exact ⟨u, r, .inr ⟨.inl hk, c, hc, hc'⟩⟩
      · rw [List.getElem?_set_ne (Ne.symm hj)] at e2
        obtain ⟨u', r', q⟩ := hl j y v' e1 e2 e3
        refine ⟨u', r', ?_⟩
        rcases q with q | ⟨k, c', e, z'⟩
        · exact .inl q
        · refine .inr ⟨k, c', e, z'.sameBut hs ?_⟩
          rintro rfl
          exact hj (nodup_ix hN e1 (I.ok.inj _ _ _ e hc ▸ hi))
    · by_cases hcc : c' = c
      · subst hcc; exact ⟨_, hc'⟩
      · obtain ⟨w2, z2⟩ := I.cell y c' e
        exact ⟨w2, z2.sameBut hs hcc⟩
    · obtain ⟨e, n, ne, nf, d⟩ := I.pin p hp
      refine ⟨(hs.2 p.1 ?_).trans e, n, ne, nf, d⟩
      intro q
      rw [q, hoc] at e
      have q' : oc = p.2 := Option.some.inj e
      exact d w' (by rw [← q']; exact hocd)
theorem store_ok {M : Model} {A : Around} {E : Value → Shared → Prop} {i : Nat} {x : Str} {v : V} {u : Value} {Q : Unit → Shared → Prop} (I : Inv X pins σ H s) (hN : X.N.Nodup) (hi : X.N[i]? = some x) (hx : Loc X.env.scope x) (r : RelV v u)
    (h : ∀ s', Inv X pins (σ.set i (some v)) H s' → Q () s') (hf : X.fn x = true ∨ X.env.scope.names.lookup x = some .local := by first | exact .inl rfl | exact .inr rfl | assumption) : wpAny M A (storeName X.env x u) Q E s :=
  store_ok2 I hN hi hx r (fun s' I' _ => h s' I') hf
/-- behind a call or a block, the state as it is -/
theorem Inv.call' {s' : Shared} {ch : List Addr} (I : Inv X pins σ H s) (ho : s'.os = s.os) (u : Un (frs X.stack) ch H H' s.heap s'.heap) (hok : HOk X.prog X.w H' s'.heap) (hg : AllBare s'.gens)
    (hch : ∀ b ∈ ch, (b ∈ X.ex ∨ X.s₀.heap.objs.size ≤ b) ∧ b ≠ X.env.locals ∧ (∀ x c, X.env.cells.lookup x = some c → c ≠ b) ∧ ∀ p ∈ X.pn ++ pins, p.1 ≠ b) : Inv X pins σ H' s' := by
  obtain ⟨h', g', d', t', o'⟩ := s'
  have e : o' = s.os := ho
  subst e
  exact I.call (g' := g') (t' := t') (d' := d') u hok hg hch
end

/-! ### the judgements -/
/-- an exception: its class, its own dict's address (where it has one), the abstract heap behind it -/
abbrev XK := Value → Option Addr → Hp → Prop
abbrev St := List (Option V)
abbrev VK := V → Hp → Prop
/-- an expression's reading; a test's; an argument list's -/
abbrev TE := St → Hp → VK → Prop
abbrev TT := St → Hp → (Bool → Hp → Prop) → Prop
abbrev TA := St → Hp → (List V → Hp → Prop) → Prop
/-- what is wanted behind a statement -/
structure Ends where
  nx : St → Hp → Prop
  rt : VK
  bk : St → Hp → Prop := fun _ _ => False
  ct : St → Hp → Prop := fun _ _ => False
abbrev TS := Ends → St → Hp → Prop

def EP (X : Cx) (pins : List (Addr × Obj)) (σ : St) (Q : VK) (u : Value) (s' : Shared) : Prop := ∃ v H', Inv X pins σ H' s' ∧ RelV v u ∧ Q v H'
def TP (X : Cx) (pins : List (Addr × Obj)) (σ : St) (Q : Bool → Hp → Prop) (b : Bool) (s' : Shared) : Prop := ∃ H', Inv X pins σ H' s' ∧ Q b H'
def AP (X : Cx) (pins : List (Addr × Obj)) (σ : St) (Q : List V → Hp → Prop) (us : List Value) (s' : Shared) : Prop := ∃ vs H', Inv X pins σ H' s' ∧ Vals vs us ∧ Q vs H'
def SP (X : Cx) (pins : List (Addr × Obj)) (D : Ends) (f : Flow) (s' : Shared) : Prop :=
  match f with
  | .next => ∃ σ' H', Inv X pins σ' H' s' ∧ D.nx σ' H'
  | .brk => ∃ σ' H', Inv X pins σ' H' s' ∧ D.bk σ' H'
  | .cont => ∃ σ' H', Inv X pins σ' H' s' ∧ D.ct σ' H'
  | .ret u => ∃ v σ' H', Inv X pins σ' H' s' ∧ RelV v u ∧ D.rt v H'

def PE (X : Cx) (e : Expr) (t : TE) : Prop :=
  ∀ (pins : List (Addr × Obj)) (s : Shared) (σ : St) (H : Hp) (Q : VK), Inv X pins σ H s → t σ H Q → wpAny (model X.prog X.w) X.A (eval e X.env) (EP X pins σ Q) X.xe s
def PT (X : Cx) (e : Expr) (t : TT) : Prop :=
  ∀ (pins : List (Addr × Obj)) (s : Shared) (σ : St) (H : Hp) (Q : Bool → Hp → Prop), Inv X pins σ H s → t σ H Q → wpAny (model X.prog X.w) X.A (isTrue e X.env (eval e X.env)) (TP X pins σ Q) X.xe s
/-- a test whatever its 'whole' is (and, or) -/
def PW (X : Cx) (e : Expr) (t : TT) : Prop :=
  ∀ (whole : Sem Value) (pins : List (Addr × Obj)) (s : Shared) (σ : St) (H : Hp) (Q : Bool → Hp → Prop), Inv X pins σ H s → t σ H Q → wpAny (model X.prog X.w) X.A (isTrue e X.env whole) (TP X pins σ Q) X.xe s
theorem PW.pt {X : Cx} {e : Expr} {t : TT} (h : PW X e t) : PT X e t := h _
/-- an argument list (no star), from the left -/
def PA (X : Cx) (es : List Expr) (t : TA) : Prop :=
  ∀ (pos : Pos) (pins : List (Addr × Obj)) (s : Shared) (σ : St) (H : Hp) (Q : List V → Hp → Prop), Inv X pins σ H s → t σ H Q → wpAny (model X.prog X.w) X.A (spliced (backTo pos (starEach es X.env))) (AP X pins σ Q) X.xe s
def PS (X : Cx) (st : Stmt) (t : TS) : Prop :=
  ∀ (pins : List (Addr × Obj)) (s : Shared) (σ : St) (H : Hp) (D : Ends), Inv X pins σ H s → t D σ H → wpAny (model X.prog X.w) X.A (exec st X.env) (SP X pins D) X.xe s
def PSs (X : Cx) (st : List Stmt) (t : TS) : Prop :=
  ∀ (pins : List (Addr × Obj)) (s : Shared) (σ : St) (H : Hp) (D : Ends), Inv X pins σ H s → t D σ H → wpAny (model X.prog X.w) X.A (execs st X.env) (SP X pins D) X.xe s
/-- weaken the end -/
theorem thn {α : Type} {t : Sem α} {Q Q' : α → Shared → Prop} {M : Model} {A : Around} {E : Value → Shared → Prop} {s : Shared} (h : wpAny M A t Q E s) (hQ : ∀ a s, Q a s → Q' a s) : wpAny M A t Q' E s := wpAny_mono h hQ fun _ _ x => x
end L2

namespace L2
open PySem PySem.Spec PyProof.Rows
section
variable {X : Cx}

/-! ### names and constants -/
def tVar (i : Nat) : TE := fun σ H Q => ∃ v, σ[i]? = some (some v) ∧ Q v H
def tC (v : V) : TE := fun _ H Q => Q v H
theorem pe_var {i : Nat} {x : Str} {pos : Pos} (hN : X.N[i]? = some x) (hv : Vis X.env.scope x) (hd : (x == ("__debug__" : Str)) = false := by decide) (hcd : (x == ("__classdict__" : Str)) = false := by decide) : PE X (.Name x pos) (tVar i) := by
  intro pins s σ H Q I h
  obtain ⟨v, e, h⟩ := h
  obtain ⟨m, hn, hl⟩ := I.loc
  obtain ⟨u, r, l⟩ := hl i x v hN e hv
  have fin : EP X pins σ Q u s := ⟨v, H, I, r, h⟩
  rcases l with ⟨hk, hm⟩ | ⟨hk, c, hc, hcell⟩
  · exact wpAny_Name (wpAny_loadName_local I.ok.kind hk hn hm fin) hd
  · rcases hk with hk | hk
    · exact wpAny_Name (wpAny_loadName_cell I.ok.kind hk hc hcell fin) hd
    · exact wpAny_Name (wpAny_loadName_free I.ok.kind hk hc hcell fin hcd) hd
theorem pe_int {i j pos} : PE X (.Constant (.int i) j pos) (tC (.int i)) := fun _ _ _ H _ I h => wpAny_Constant_int ⟨.int i, H, I.tok _, ⟨_, rfl⟩, h⟩
theorem pe_bl {b j pos} : PE X (.Constant (.bool b) j pos) (tC (.bl b)) := fun _ _ _ H _ I h => Constant_bool ⟨.bl b, H, I, rfl, h⟩
theorem pe_non {j pos} : PE X (.Constant .none j pos) (tC .non) := fun _ _ _ H _ I h => Constant_none ⟨.non, H, I, rfl, h⟩
theorem pe_str {x j pos} : PE X (.Constant (.str x) j pos) (tC (.str x)) := fun _ _ _ H _ I h => Calls.Constant_str ⟨.str x, H, I.tok _, ⟨_, rfl⟩, h⟩

/-- a global name of the def -/
def Gl (X : Cx) (x : Str) : Prop := X.env.kindOf x = some .globalImplicit
theorem ld_glob {E : Value → Shared → Prop} {pins : List (Addr × Obj)} {s : Shared} {σ : St} {H : Hp} {x : Str} {u : Value} {pos : Pos} {Q : Value → Shared → Prop} (I : Inv X pins σ H s) (hg : Gl X x) (hm : X.mg x = some u) (h : Q u s)
    (hd : (x == ("__debug__" : Str)) = false := by decide) : wpAny (model X.prog X.w) X.A (eval (.Name x pos) X.env) Q E s :=
  Calls.Name_function_global I.ok.kind hg (Calls.loadGlobal_global (by rw [I.ok.glob]; exact I.mod.glob.keeps I.bk) hm h) hd
theorem ld_blt {E : Value → Shared → Prop} {pins : List (Addr × Obj)} {s : Shared} {σ : St} {H : Hp} {x : Str} {u : Value} {pos : Pos} {Q : Value → Shared → Prop} (I : Inv X pins σ H s) (hg : Gl X x) (hm : X.mg x = none) (hv : bootBuiltins x = some u) (h : Q u s)
    (hn : x ≠ "__name__" := by decide) (hd : (x == ("__debug__" : Str)) = false := by decide) : wpAny (model X.prog X.w) X.A (eval (.Name x pos) X.env) Q E s := by
  obtain ⟨mb, h1, h2⟩ := I.mod.blt
  exact Calls.Name_function_global I.ok.kind hg (Calls.loadGlobal_builtin (by rw [I.ok.glob]; exact I.mod.glob.keeps I.bk) hm (by rw [I.ok.blt]; exact h1.keeps I.bk) ((h2 x hn).trans hv) h) hd
/-- a module's constant, a class, a function, as a value -/
theorem pe_glob {x : Str} {v : V} {u : Value} {pos : Pos} (hg : Gl X x) (hm : X.mg x = some u) (r : RelV v u) (hd : (x == ("__debug__" : Str)) = false := by decide) : PE X (.Name x pos) (tC v) :=
  fun _ _ _ H _ I h => ld_glob I hg hm ⟨v, H, I, r, h⟩ hd
theorem pe_bltn {x : Str} {v : V} {u : Value} {pos : Pos} (hg : Gl X x) (hm : X.mg x = none) (hv : bootBuiltins x = some u) (r : RelV v u) (hn : x ≠ "__name__" := by decide) (hd : (x == ("__debug__" : Str)) = false := by decide) : PE X (.Name x pos) (tC v) :=
  fun _ _ _ H _ I h => ld_blt I hg hm hv ⟨v, H, I, r, h⟩ hn hd

/-! ### arithmetic -/
variable {a b : Expr} {ta tb : TE} {pos : Pos}
/-! ### comparisons -/
/-- a comparison as a value, as a test -/
def tB (t : TE) : TT := fun σ H Q => t σ H fun x H1 => ∃ c, x = .bl c ∧ Q c H1
/-- an expression whose value is a bool, as a test -/
theorem pt_val {e : Expr} {t : TE} (h : PE X e t) (he : ∀ whole, isTrue e X.env whole = (do let v ← whole; standAt e.pos; holding [v] (truthy v)) := by intro _; rfl) : PT X e (tB t) := by
  intro pins s σ H Q I hw
  refine isTrue_plain (thn (h pins s σ H _ I hw) fun v s1 ⟨x, H1, I1, r1, q1⟩ => ?_) (he _)
  obtain ⟨d, rfl, q⟩ := q1
  cases r1
  exact wpAny_truthy_bool ⟨H1, I1, q⟩

/-! ### and, or, not -/
variable {tA tB' : TT} {rest : List Expr}
def tAnd (t u : TT) : TT := fun σ H Q => t σ H fun c H1 => if c = true then u σ H1 Q else Q false H1
def tOr (t u : TT) : TT := fun σ H Q => t σ H fun c H1 => if c = true then Q true H1 else u σ H1 Q
def tNot (t : TT) : TT := fun σ H Q => t σ H fun c H1 => Q (!c) H1
theorem pw_and1 (ha : PT X a tA) : PW X (.BoolOp .And [a] pos) tA := by
  intro wh pins s σ H Q I h
  refine isTrue_and (thn (ha pins s σ H Q I h) fun c s1 e => ?_)
  cases c with
  | true => exact isTrue_and_nil e
  | false => exact e
theorem pw_or1 (ha : PT X a tA) : PW X (.BoolOp .Or [a] pos) tA := by
  intro wh pins s σ H Q I h
  refine isTrue_or (thn (ha pins s σ H Q I h) fun c s1 e => ?_)
  cases c with
  | false => exact isTrue_or_nil e
  | true => exact e
theorem pw_and (ha : PT X a tA) (hb : PW X (.BoolOp .And (b :: rest) pos) tB') : PW X (.BoolOp .And (a :: b :: rest) pos) (tAnd tA tB') := by
  intro wh pins s σ H Q I h
  refine isTrue_and (thn (ha pins s σ H _ I h) fun c s1 ⟨H1, I1, q1⟩ => ?_)
  cases c with
  | true => exact hb wh pins s1 σ H1 Q I1 q1
  | false => exact ⟨H1, I1, q1⟩
theorem pw_or (ha : PT X a tA) (hb : PW X (.BoolOp .Or (b :: rest) pos) tB') : PW X (.BoolOp .Or (a :: b :: rest) pos) (tOr tA tB') := by
  intro wh pins s σ H Q I h
  refine isTrue_or (thn (ha pins s σ H _ I h) fun c s1 ⟨H1, I1, q1⟩ => ?_)
  cases c with
  | true => exact ⟨H1, I1, q1⟩
  | false => exact hb wh pins s1 σ H1 Q I1 q1
theorem pt_not (ha : PT X a tA) : PT X (.UnaryOp .Not a pos) (tNot tA) := by
  intro pins s σ H Q I h
  exact isTrue_not (ha pins s σ H (fun c H1 => Q (!c) H1) I h)
/-- .. as values (bools) -/
def tAndV (ta tb : TE) : TE := fun σ H Q => ta σ H fun x H1 => ∃ c, x = .bl c ∧ if c = true then tb σ H1 Q else Q (.bl false) H1
def tOrV (ta tb : TE) : TE := fun σ H Q => ta σ H fun x H1 => ∃ c, x = .bl c ∧ if c = true then Q (.bl true) H1 else tb σ H1 Q
def tNotV (ta : TE) : TE := fun σ H Q => ta σ H fun x H1 => ∃ c, x = .bl c ∧ Q (.bl (!c)) H1
theorem pe_one {op} {t : TE} (h : PE X a t) : PE X (.BoolOp op [a] pos) t := fun pins s σ H Q I hw => BoolOp_one (h pins s σ H Q I hw)
theorem pe_and (ha : PE X a ta) (hb : PE X (.BoolOp .And (b :: rest) pos) tb) : PE X (.BoolOp .And (a :: b :: rest) pos) (tAndV ta tb) := by
  intro pins s σ H Q I h
  refine BoolOp_and (thn (ha pins s σ H _ I h) fun v s1 ⟨x, H1, I1, r1, q1⟩ => ?_)
  obtain ⟨c, rfl, q1⟩ := q1
  cases r1
  refine wpAny_truthy_bool ?_
  cases c with
  | true => exact hb pins s1 σ H1 Q I1 q1
  | false => exact ⟨.bl false, H1, I1, rfl, q1⟩
theorem pe_or (ha : PE X a ta) (hb : PE X (.BoolOp .Or (b :: rest) pos) tb) : PE X (.BoolOp .Or (a :: b :: rest) pos) (tOrV ta tb) := by
  intro pins s σ H Q I h
  refine BoolOp_or (thn (ha pins s σ H _ I h) fun v s1 ⟨x, H1, I1, r1, q1⟩ => ?_)
  obtain ⟨c, rfl, q1⟩ := q1
  cases r1
  refine wpAny_truthy_bool ?_
  cases c with
  | false => exact hb pins s1 σ H1 Q I1 q1
  | true => exact ⟨.bl true, H1, I1, rfl, q1⟩
theorem pe_not (ha : PE X a ta) : PE X (.UnaryOp .Not a pos) (tNotV ta) := by
  intro pins s σ H Q I h
  refine UnaryOp_ (thn (ha pins s σ H _ I h) fun v s1 ⟨x, H1, I1, r1, q1⟩ => ?_)
  obtain ⟨c, rfl, q1⟩ := q1
  cases r1
  exact not_of (wpAny_truthy_bool ⟨.bl (!c), H1, I1, rfl, q1⟩)
/-- a if t else b -/
def tIf (t : TT) (ta tb : TE) : TE := fun σ H Q => t σ H fun c H1 => if c = true then ta σ H1 Q else tb σ H1 Q
theorem pe_ifExp {c : Expr} (hc : PT X c tA) (ha : PE X a ta) (hb : PE X b tb) : PE X (.IfExp c a b pos) (tIf tA ta tb) := by
  intro pins s σ H Q I h
  refine wpAny_IfExp (thn (hc pins s σ H _ I h) fun d s1 ⟨H1, I1, q1⟩ => ?_)
  cases d with
  | true => exact ha pins s1 σ H1 Q I1 q1
  | false => exact hb pins s1 σ H1 Q I1 q1
end
end L2

namespace L2
open PySem PySem.Spec PyProof.Rows

/-! ### a list, a tuple that is read: tracked, frozen, or an object of the module -/
def SqL (K : PySem.W.Frag) (H : Hp) (a : Addr) (xs : List V) : Prop :=
  Rd H a (.lst xs) ∨
    ∃ (o : Obj) (its : Array Value) (n : Nat), K.lookup a = some o ∧ o.cls = .type "list" ∧ o.dict = none ∧ o.data = .seq its n ∧ its.size ≤ sizeLine ∧ Vals xs its.toList
def SqT (K : PySem.W.Frag) (H : Hp) (a : Addr) (xs : List V) : Prop :=
  Rd H a (.tup xs) ∨
    ∃ (o : Obj) (its : Array Value) (n : Nat), K.lookup a = some o ∧ o.cls = .type "tuple" ∧ o.data = .seq its n ∧ its.size ≤ sizeLine ∧ Vals xs its.toList
def absV : Value → Option V
  | .none => some .non
  | .bool b => some (.bl b)
  | .int i _ => some (.int i)
  | .str x _ => some (.str x)
  | .bytes b _ => some (.byt b)
  | .float b _ => some (.flt b)
  | .ref a => some (.ref a)
  | .type n => some (.ty n)
  | _ => none
theorem RelV.abs {x : V} {u : Value} (r : RelV x u) : absV u = some x := by
  cases x with
  | non => cases r; rfl
  | bl _ => cases r; rfl
  | int _ => obtain ⟨t, rfl⟩ := r; rfl
  | str _ => obtain ⟨t, rfl⟩ := r; rfl
  | byt _ => obtain ⟨t, rfl⟩ := r; rfl
  | flt _ => obtain ⟨t, rfl⟩ := r; rfl
  | ref _ => cases r; rfl
  | ty _ => cases r; rfl
theorem RelV.inj {x y : V} {u : Value} (r : RelV x u) (q : RelV y u) : x = y := Option.some.inj (r.abs.symm.trans q.abs)
theorem Vals.inj : ∀ {xs ys : List V} {us : List Value}, Vals xs us → Vals ys us → xs = ys
  | _, _, _, .nil, .nil => rfl
  | _, _, _, .cons r t, .cons r' t' => by rw [r.inj r', Vals.inj t t']
section
variable {X : Cx} {pins : List (Addr × Obj)} {σ : St} {H : Hp} {s : Shared} {a : Addr} {xs ys : List V}
theorem SqL.of {K : PySem.W.Frag} (h : H a = some (.lst xs)) : SqL K H a xs := .inl (.inl h)
theorem SqT.of {K : PySem.W.Frag} (h : H a = some (.tup xs)) : SqT K H a xs := .inl (.inl h)
theorem Inv.list (I : Inv X pins σ H s) (h : SqL X.K H a xs) : ∃ its : List Value, Vals xs its ∧ PlainL s.heap a its.toArray ∧ xs.length ≤ sizeLine := by
  rcases h with h | ⟨o, its, n, hk, hc, hd, hs, hz, r⟩
  · obtain ⟨z, its, n, r, e⟩ := h.ok I.hok
    exact ⟨its, r, ⟨_, n, e, rfl, rfl, rfl⟩, z⟩
  · refine ⟨its.toList, r, ⟨o, n, I.kIn a o hk, hc, hd, by simpa using hs⟩, ?_⟩
    have e := r.length
    simp only [Array.length_toList] at e
    omega
theorem Inv.tuple (I : Inv X pins σ H s) (h : SqT X.K H a xs) : ∃ its : List Value, Vals xs its ∧ IsTup s.heap a its.toArray ∧ xs.length ≤ sizeLine := by
  rcases h with h | ⟨o, its, n, hk, hc, hs, hz, r⟩
  · obtain ⟨z, its, r, p⟩ := h.ok I.hok
    exact ⟨its, r, p, z⟩
  · refine ⟨its.toList, r, ⟨o, I.kIn a o hk, hc, n, by simpa using hs⟩, ?_⟩
    have e := r.length
    simp only [Array.length_toList] at e
    omega
theorem Inv.list_inj (I : Inv X pins σ H s) (h : SqL X.K H a xs) (h' : SqL X.K H a ys) : xs = ys := by
  obtain ⟨its, r, ⟨o, n, e, _, _, d⟩, _⟩ := I.list h
  obtain ⟨its', r', ⟨o', n', e', _, _, d'⟩, _⟩ := I.list h'
  rw [e] at e'; cases e'
  rw [d] at d'
  injection d' with d1 _
  have : its = its' := by simpa using congrArg Array.toList d1
  subst this
  exact r.inj r'
theorem Inv.tuple_inj (I : Inv X pins σ H s) (h : SqT X.K H a xs) (h' : SqT X.K H a ys) : xs = ys := by
  obtain ⟨its, r, ⟨o, e, _, n, d⟩, _⟩ := I.tuple h
  obtain ⟨its', r', ⟨o', e', _, n', d'⟩, _⟩ := I.tuple h'
  rw [e] at e'; cases e'
  rw [d] at d'
  injection d' with d1 _
  have : its = its' := by simpa using congrArg Array.toList d1
  subst this
  exact r.inj r'
end

/-! ### another wish about exceptions -/
abbrev Cx.wish (X : Cx) (E : Value → Shared → Prop) : Cx := { X with xe := E }
/-- no exception leaves -/
abbrev Cx.nox (X : Cx) : Cx := X.wish fun _ _ => False
theorem Cx.Ok.wish {X : Cx} (ok : X.Ok) (E : Value → Shared → Prop) : (X.wish E).Ok :=
  ⟨ok.mod, ok.kind, ok.glob, ok.blt, ok.above, ok.inj, ok.has, ok.cab, ok.hd, ok.frames, ok.stk, ok.exf, ok.bs, ok.bsz, ok.noex, ok.exfs, ok.funs, ok.frf⟩
theorem Cx.Ok.unwish {X : Cx} {E : Value → Shared → Prop} (ok : (X.wish E).Ok) : X.Ok :=
  ⟨ok.mod, ok.kind, ok.glob, ok.blt, ok.above, ok.inj, ok.has, ok.cab, ok.hd, ok.frames, ok.stk, ok.exf, ok.bs, ok.bsz, ok.noex, ok.exfs, ok.funs, ok.frf⟩
section
variable {X : Cx} {pins : List (Addr × Obj)} {σ : St} {H : Hp} {s : Shared} {E : Value → Shared → Prop}
theorem Inv.wish (I : Inv X pins σ H s) (E : Value → Shared → Prop) : Inv (X.wish E) pins σ H s := ⟨I.ok.wish E, I.os, I.bare, I.base, I.loc, I.cell, I.free, I.freeC, I.pin, I.hok, I.len⟩
theorem Inv.unwish (I : Inv (X.wish E) pins σ H s) : Inv X pins σ H s := ⟨I.ok.unwish, I.os, I.bare, I.base, I.loc, I.cell, I.free, I.freeC, I.pin, I.hok, I.len⟩
theorem SP.unwish {D : Ends} {f : Flow} {s' : Shared} (h : SP (X.wish E) pins D f s') : SP X pins D f s' := by
  cases f with
  | next => obtain ⟨σ', H', I, q⟩ := h; exact ⟨σ', H', I.unwish, q⟩
  | brk => obtain ⟨σ', H', I, q⟩ := h; exact ⟨σ', H', I.unwish, q⟩
  | cont => obtain ⟨σ', H', I, q⟩ := h; exact ⟨σ', H', I.unwish, q⟩
  | ret u => obtain ⟨v, σ', H', I, r, q⟩ := h; exact ⟨v, σ', H', I.unwish, r, q⟩
theorem PSs.nox {st : List Stmt} {t : TS} (h : PSs X.nox st t) : PSs X st t := fun pins s σ H D I hw =>
  wpAny_mono (h pins s σ H D (I.wish _) hw) (fun _ _ q => q.unwish) fun _ _ z => False.elim z
end

/-! ### blocks and small statements -/
section
variable {X : Cx} {st : Stmt} {rest : List Stmt} {t u : TS} {e : Expr} {te : TE} {pos : Pos}
def tNext : TS := fun D σ H => D.nx σ H
def tSeq (t u : TS) : TS := fun D σ H => t { D with nx := u D } σ H
theorem pss_nil : PSs X [] tNext := fun _ _ σ H _ I h => wpAny_execs_nil ⟨σ, H, I, h⟩
theorem pss_cons (h1 : PS X st t) (h2 : PSs X rest u) : PSs X (st :: rest) (tSeq t u) := by
  intro pins s σ H D I h
  refine wpAny_execs_cons (thn (h1 pins s σ H { D with nx := u D } I h) fun f s1 q => ?_)
  cases f with
  | next =>
    obtain ⟨σ', H', I', q⟩ := q
    exact h2 pins s1 σ' H' D I' q
  | ret v => exact q
  | brk => exact q
  | cont => exact q
theorem pss_one (h1 : PS X st t) : PSs X [st] t := by
  intro pins s σ H D I h
  refine wpAny_execs_cons (thn (h1 pins s σ H D I h) fun f s1 q => ?_)
  cases f with
  | next => exact wpAny_execs_nil q
  | ret v => exact q
  | brk => exact q
  | cont => exact q
/-- in a def's body nothing is shown -/
theorem Inv.quiet {pins : List (Addr × Obj)} {σ : St} {H : Hp} {s : Shared} (I : Inv X pins σ H s) : interactive X.env = false := by simp [interactive, I.ok.kind]
/-- an expression whose value is dropped -/
def tDrop (te : TE) : TS := fun D σ H => te σ H fun _ H1 => D.nx σ H1
theorem ps_expr (he : PE X e te) (hs : swapsWith e none pos.line X.env = pure false := by rfl) : PS X (.Expr e pos) (tDrop te) := by
  intro pins s σ H D I h
  exact wpAny_Expr_any (thn (he pins s σ H _ I h) fun v s1 ⟨x, H1, I1, r1, q1⟩ => ⟨σ, H1, I1, q1⟩) I.quiet hs
def tRet (te : TE) : TS := fun D σ H => te σ H D.rt
theorem ps_ret (he : PE X e te) : PS X (.Return (some e) pos) (tRet te) := by
  intro pins s σ H D I h
  exact wpAny_Return_some (thn (he pins s σ H _ I h) fun v s1 ⟨x, H1, I1, r1, q1⟩ => ⟨x, σ, H1, I1, r1, q1⟩)
def tIfS (c : TT) (t u : TS) : TS := fun D σ H => c σ H fun b H1 => if b = true then t D σ H1 else u D σ H1
theorem ps_if {c : Expr} {a b : List Stmt} {tc : TT} (hc : PT X c tc) (ha : PSs X a t) (hb : PSs X b u) : PS X (.If c a b pos) (tIfS tc t u) := by
  intro pins s σ H D I h
  refine wpAny_If (thn (hc pins s σ H _ I h) fun d s1 ⟨H1, I1, q1⟩ => ?_)
  cases d with
  | true => exact ha pins s1 σ H1 D I1 q1
  | false => exact hb pins s1 σ H1 D I1 q1
end

/-! ### targets -/
abbrev TG := V → St → Hp → (St → Hp → Prop) → Prop
abbrev TGs := List V → St → Hp → (St → Hp → Prop) → Prop
def PG (X : Cx) (target : Expr) (t : TG) : Prop :=
  ∀ (pins : List (Addr × Obj)) (s : Shared) (σ : St) (H : Hp) (v : V) (u : Value) (Q : St → Hp → Prop), Inv X pins σ H s → RelV v u → t v σ H Q →
    wpAny (model X.prog X.w) X.A (assign target X.env u) (fun _ s' => ∃ σ' H', Inv X pins σ' H' s' ∧ Q σ' H') X.xe s
/-- several targets, one after another -/
def PGs (X : Cx) (ts : List Expr) (t : TGs) : Prop :=
  ∀ (pins : List (Addr × Obj)) (s : Shared) (σ : St) (H : Hp) (vs : List V) (us : List Value) (Q : St → Hp → Prop), Inv X pins σ H s → Vals vs us → t vs σ H Q →
    wpAny (model X.prog X.w) X.A (assignInOrder ((assignEach ts X.env).map (·.2)) us) (fun _ s' => ∃ σ' H', Inv X pins σ' H' s' ∧ Q σ' H') X.xe s
/-- a op= b, by values -/
abbrev TIp := V → V → Hp → VK → Prop
def PIp (X : Cx) (op : Operator) (t : TIp) : Prop :=
  ∀ (pins : List (Addr × Obj)) (s : Shared) (σ : St) (H : Hp) (x y : V) (v u : Value) (Q : VK), Inv X pins σ H s → RelV x v → RelV y u → t x y H Q →
    wpAny (model X.prog X.w) X.A (inplaceOp op v u) (EP X pins σ Q) X.xe s
section
variable {X : Cx} {pos : Pos}
def gName (i : Nat) : TG := fun v σ H Q => Q (σ.set i (some v)) H
theorem pg_name {i : Nat} {x : Str} (hN : X.N.Nodup) (hi : X.N[i]? = some x) (hx : Loc X.env.scope x) (hf : X.fn x = true ∨ X.env.scope.names.lookup x = some .local := by first | exact .inl rfl | exact .inr rfl | assumption) : PG X (.Name x pos) (gName i) := by
  intro pins s σ H v u Q I r h
  exact wpAny_assign_Name (store_ok I hN hi hx r (fun s' I' => ⟨_, H, I', h⟩) hf)
def gNil : TGs := fun vs σ H Q => vs = [] ∧ Q σ H
def gCons (t : TG) (u : TGs) : TGs := fun vs σ H Q => ∃ v r, vs = v :: r ∧ t v σ H fun σ' H' => u r σ' H' Q
theorem pgs_nil : PGs X [] gNil := by
  intro pins s σ H vs us Q I r h
  obtain ⟨e, h⟩ := h
  subst e
  cases r
  exact assignInOrder_nil ⟨σ, H, I, h⟩
theorem pgs_cons {e : Expr} {es : List Expr} {t : TG} {u : TGs} (h1 : PG X e t) (h2 : PGs X es u)
    (hs : (assignEach (e :: es) X.env).map (·.2) = assign e X.env :: (assignEach es X.env).map (·.2) := by rfl) : PGs X (e :: es) (gCons t u) := by
  intro pins s σ H vs us Q I r h
  obtain ⟨v, vr, e1, h⟩ := h
  subst e1
  cases r with
  | cons r rr =>
    rw [hs]
    refine assignInOrder_cons (thn (h1 pins s σ H _ _ _ I r h) fun _ s1 ⟨σ1, H1, I1, q1⟩ => ?_)
    exact h2 pins s1 σ1 H1 _ _ Q I1 rr q1
/-- (a, b, ..) = a tuple of that length -/
def gTup (K : PySem.W.Frag) (n : Nat) (t : TGs) : TG := fun v σ H Q => ∃ a xs, v = .ref a ∧ SqT K H a xs ∧ xs.length = n ∧ t xs σ H Q
theorem pg_tup {es : List Expr} {k : Nat} {t : TGs} {n : Nat} (hc : X.calm = true) (h : PGs X es t)
    (hn : (assignEach es X.env).length = n := by rfl) (hst : (assignEach es X.env).findIdx? (·.1) = none := by rfl) : PG X (.Tuple es k pos) (gTup X.K n t) := by
  intro pins s σ H v u Q I r hw
  obtain ⟨a, xs, e1, hq, hl, hw⟩ := hw
  subst e1
  cases r
  obtain ⟨its, rv, ht, hz⟩ := I.tuple hq
  refine assign_Tuple_tuple (I.ok.hd hc) ht (by simp [hn, ← hl, rv.length]) hst fun h' hx => ?_
  have I1 : Inv X pins σ H { s with heap := h' } := I.kept (t' := s.toks) fun b o e => hx b o (Nat.ne_of_lt (Heap.lt_size e)) e
  exact h pins _ σ H xs _ Q I1 (by simpa using rv) hw
/-- target = value -/
def tAsg (te : TE) (g : TG) : TS := fun D σ H => te σ H fun x H1 => g x σ H1 D.nx
/-- name = value -/
theorem ps_set {i : Nat} {x : Str} {e : Expr} {te : TE} {pos' : Pos} (hN : X.N.Nodup) (hi : X.N[i]? = some x) (hx : Loc X.env.scope x) (he : PE X e te) (hs : swapsWith e (some (.Name x pos')) pos.line X.env = pure false := by rfl) (hf : X.fn x = true ∨ X.env.scope.names.lookup x = some .local := by first | exact .inl rfl | exact .inr rfl | assumption) :
    PS X (.Assign [.Name x pos'] e pos) (tAsg te (gName i)) := by
  intro pins s σ H D I h
  refine wpAny_Assign_Name (thn (he pins s σ H _ I h) fun v s1 ⟨y, H1, I1, r1, q1⟩ => ?_) hs
  exact store_ok I1 hN hi hx r1 (fun s2 I2 => ⟨_, H1, I2, q1⟩) hf
/-- name op= e -/
def tAug (i : Nat) (te : TE) (ti : TIp) : TS := fun D σ H => ∃ x, σ[i]? = some (some x) ∧ te σ H fun y H1 => ti x y H1 fun z H2 => D.nx (σ.set i (some z)) H2
theorem ps_aug {i : Nat} {x : Str} {e : Expr} {te : TE} {op : Operator} {ti : TIp} {pos' : Pos} (hN : X.N.Nodup) (hi : X.N[i]? = some x) (hx : Loc X.env.scope x) (he : PE X e te) (ho : PIp X op ti) (hf : X.fn x = true ∨ X.env.scope.names.lookup x = some .local := by first | exact .inl rfl | exact .inr rfl | assumption) :
    PS X (.AugAssign (.Name x pos') op e pos) (tAug i te ti) := by
  intro pins s σ H D I h
  obtain ⟨v, e1, h⟩ := h
  obtain ⟨m, hn, hl⟩ := I.loc
  have vis : Vis X.env.scope x := by rcases hx with k | k; exact .inl k; exact .inr (.inl k)
  obtain ⟨u, r, l⟩ := hl i x v hi e1 vis
  refine wpAny_AugAssign_Name ?_
  have go : wpAny (model X.prog X.w) X.A (eval e X.env) (fun w s₂ => wpAny (model X.prog X.w) X.A (inplaceOp op u w) (fun r s₃ => wpAny (model X.prog X.w) X.A (storeName X.env x r) (fun _ => SP X pins D .next) X.xe s₃) X.xe s₂) X.xe s := by
    refine thn (he pins s σ H _ I h) fun w s1 ⟨y, H1, I1, r1, q1⟩ => ?_
    refine thn (ho pins s1 σ H1 v y u w _ I1 r r1 q1) fun z s2 ⟨zv, H2, I2, r2, q2⟩ => ?_
    exact store_ok I2 hN hi hx r2 (fun s3 I3 => ⟨_, H2, I3, q2⟩) hf
  rcases l with ⟨hk, hm⟩ | ⟨hk, c, hc, hcell⟩
  · exact wpAny_loadName_local I.ok.kind hk hn hm go
  · rcases hk with hk | hk
    · exact wpAny_loadName_cell I.ok.kind hk hc hcell go
    · rcases hx with k | k
      · have : X.env.scope.names.lookup x = some .free := hk
        rw [k] at this; cases this
      · have : X.env.scope.names.lookup x = some .free := hk
        rw [k] at this; cases this
/-- ints -/
def ipI (f : Int → Int → Int) : TIp := fun x y H Q => ∃ i j, x = .int i ∧ y = .int j ∧ Q (.int (f i j)) H
theorem ip_add : PIp X .Add (ipI fun i j => i + j) := by
  intro pins s σ H x y v u Q I r1 r2 h
  obtain ⟨i, j, e1, e2, q⟩ := h
  subst e1; subst e2
  obtain ⟨t, rfl⟩ := r1
  obtain ⟨t', rfl⟩ := r2
  exact iadd_int ⟨.int _, H, I.tok _, ⟨_, rfl⟩, q⟩
end

/-! ### while -/
section
variable {X : Cx} {pos : Pos}
/-- the invariant W with its measure -/
def tWhile (c : TT) (tb : TS) : TS := fun D σ H => ∃ W : Nat → St → Hp → Prop, (∃ m, W m σ H) ∧ ∀ m σ H, W m σ H →
  c σ H fun b H1 => if b = true then ∃ N : St → Hp → Prop, (∀ σ' H', N σ' H' → ∃ m', m' < m ∧ W m' σ' H') ∧ tb { D with nx := N, ct := N, bk := D.nx } σ H1 else D.nx σ H1
theorem ps_while {c : Expr} {body : List Stmt} {tc : TT} {tb : TS} (hp : PassesOwn (model X.prog X.w) X.A X.env X.xe) (hc : PT X c tc) (hb : PSs X body tb) : PS X (.While c body [] pos) (tWhile tc tb) := by
  intro pins s σ H D I h
  obtain ⟨W, ⟨m0, w0⟩, turn⟩ := h
  refine wpAny_While (codeAny_whileLoop (fun n s' => ∃ σ' H', Inv X pins σ' H' s' ∧ W n σ' H') ?_ m0 ⟨σ, H, I, w0⟩)
  rintro n s1 ⟨σ1, H1, I1, w1⟩
  refine wpAny_passesOwn hp (thn (hc pins s1 σ1 H1 _ I1 (turn n σ1 H1 w1)) fun b s2 ⟨H2, I2, q2⟩ => ?_)
  cases b with
  | true =>
    obtain ⟨N, hN, q2⟩ := q2
    rw [if_pos rfl]
    refine wpAny_passesOwn hp (thn (hb pins s2 σ1 H2 _ I2 q2) fun f s3 q3 => ?_)
    cases f with
    | next =>
      obtain ⟨σ3, H3, I3, n3⟩ := q3
      obtain ⟨m', hm, w3⟩ := hN σ3 H3 n3
      exact ⟨m', hm, σ3, H3, I3, w3⟩
    | cont =>
      obtain ⟨σ3, H3, I3, n3⟩ := q3
      obtain ⟨m', hm, w3⟩ := hN σ3 H3 n3
      exact ⟨m', hm, σ3, H3, I3, w3⟩
    | brk => exact q3
    | ret v => exact q3
  | false =>
    rw [if_neg Bool.false_ne_true]
    exact wpAny_execs_nil ⟨σ1, H2, I2, q2⟩
end

/-! ### what a loop or a comprehension walks -/
/-- at turn i: it yields x (the heap may grow), or it stops -/
structure It where
  go : Nat → Hp → Prop
  yld : Nat → Hp → V → Hp → Prop
  stop : Nat → Hp → Prop
/-- the iterator's own objects may turn: they are not the frame's, not pinned, younger than the entry (or a comprehension's own) -/
def FpOk (X : Cx) (pins : List (Addr × Obj)) (H : Hp) (b : Addr) : Prop :=
  H b = none ∧ b ≠ X.env.locals ∧ b ∉ X.fs ∧ (b ∈ X.ex ∨ X.s₀.heap.objs.size ≤ b) ∧ (∀ x c, X.env.cells.lookup x = some c → c ≠ b) ∧ ∀ p ∈ X.pn ++ pins, p.1 ≠ b
theorem Inv.fpOk {X : Cx} {pins : List (Addr × Obj)} {σ : St} {H H' : Hp} {s : Shared} {b : Addr} (I : Inv X pins σ H s) (hb : s.heap.objs.size ≤ b) (hn : H' b = none) : FpOk X pins H' b := by
  refine ⟨hn, Nat.ne_of_gt (Nat.lt_of_lt_of_le I.lt hb), I.nofs hb, .inr (Nat.le_trans I.sz hb), fun x c e z => ?_, fun p hp z => ?_⟩
  · obtain ⟨v, q⟩ := I.cell x c e
    exact absurd (Nat.lt_of_lt_of_le q.lt (by rw [z]; exact hb)) (Nat.lt_irrefl _)
  · exact absurd (Nat.lt_of_lt_of_le (Heap.lt_size (I.pin p hp).1) (by rw [z]; exact hb)) (Nat.lt_irrefl _)
structure Turn (P : Program) (w : World) (K : PySem.W.Frag) (tg : Expr) (J : It) (fp : List Addr) (it : Addr) (tn : Nat → Heap → Prop) : Prop where
  mem : it ∈ fp
  obj : ∀ i h, tn i h → ∀ b ∈ fp, ∃ o, h.get? b = some o ∧ ∀ v, o.data ≠ .cell v
  keep : ∀ i h h', tn i h → (∀ b ∈ fp, ∀ o, h.get? b = some o → h'.get? b = some o) → tn i h'
  item : ∀ (X : Cx), X.prog = P → X.w = w → X.K = K → X.calm = true → ∀ (i : Nat) (pins : List (Addr × Obj)) (s : Shared) (σ : St) (H : Hp) (E : Value → Shared → Prop), Inv X pins σ H s → (∀ b ∈ fp, FpOk X pins H b) → tn i s.heap → J.go i H →
    wpAny (model P w) X.A (pyNext (.ref it)) (fun r s1 => ∃ u, r = some u ∧
      wpAny (model P w) X.A (letOwnedTupleGo tg (.ref it) u) (fun _ s2 => ∃ x H', Inv X pins σ H' s2 ∧ RelV x u ∧ J.yld i H x H' ∧ tn (i + 1) s2.heap ∧ ∀ b ∈ fp, H' b = none) E s1) E s
  done : ∀ (X : Cx), X.prog = P → X.w = w → X.K = K → X.calm = true → ∀ (i : Nat) (pins : List (Addr × Obj)) (s : Shared) (σ : St) (H : Hp) (E : Value → Shared → Prop), Inv X pins σ H s → (∀ b ∈ fp, FpOk X pins H b) → tn i s.heap → J.stop i H →
    wpAny (model P w) X.A (pyNext (.ref it)) (fun r s1 => r = none ∧ Inv X pins σ H s1) E s
  self : ∀ (A : Around) (i : Nat) (s : Shared) (Q : Value → Shared → Prop) (E : Value → Shared → Prop), tn i s.heap → Q (.ref it) s → wpAny (model P w) A (pyIter (.ref it)) Q E s
abbrev TI := St → Hp → (It → Hp → Prop) → Prop
/-- an iterator has come -/
def PIE (X : Cx) (pins : List (Addr × Obj)) (σ : St) (tg : Expr) (R : It → Hp → Prop) (itv : Value) (s2 : Shared) : Prop :=
  ∃ (it : Addr) (fp : List Addr) (tn : Nat → Heap → Prop) (J : It) (H' : Hp), itv = .ref it ∧ Inv X pins σ H' s2 ∧ Turn X.prog X.w X.K tg J fp it tn ∧ tn 0 s2.heap ∧ (∀ b ∈ fp, FpOk X pins H' b) ∧ R J H'
def PI (X : Cx) (tg iter : Expr) (wi : TI) : Prop :=
  ∀ (pins : List (Addr × Obj)) (s : Shared) (σ : St) (H : Hp) (R : It → Hp → Prop), Inv X pins σ H s → wi σ H R →
    wpAny (model X.prog X.w) X.A (eval iter X.env) (fun v s1 => wpAny (model X.prog X.w) X.A (pyIter v) (PIE X pins σ tg R) X.xe s1) X.xe s

/-- the step ahead of the store is nothing for an iterator that keeps no tuple -/
theorem go_of {M : Model} {A : Around} {E : Value → Shared → Prop} {s : Shared} {tg : Expr} {it : Addr} {u : Value} {o : Obj} {n : String} {vs : Array Value} {Q : Unit → Shared → Prop} (ho : s.heap.get? it = some o) (hc : o.cls = .type n) (hd : o.data = .fields vs)
    (hn : ["enumerate", "zip", "dict_itemiterator", "dict_reverseitemiterator", "odict_iterator", "itertools.zip_longest", "itertools.pairwise"].contains n = false) (hQ : Q () s) : wpAny M A (letOwnedTupleGo tg (.ref it) u) Q E s := by
  unfold letOwnedTupleGo
  cases tg <;> first
    | exact wpAny_pure hQ
    | (cases u <;> first
        | exact wpAny_pure hQ
        | (refine wpAny_bind (wpAny_load ho ?_)
           rw [hc, hd]
           show wpAny M A (if (["enumerate", "zip", "dict_itemiterator", "dict_reverseitemiterator", "odict_iterator", "itertools.zip_longest", "itertools.pairwise"].contains n && vs[0]? == some (rawInt _)) = true then _ else _) Q E s
           rw [if_neg (by intro h; rw [hn, Bool.false_and] at h; cases h)]
           exact wpAny_pure hQ))

/-- the list at a, as it stands at each turn (a loop may append to it) -/
def Itl (K : PySem.W.Frag) (a : Addr) : It :=
  ⟨fun i H => ∃ xs x, SqL K H a xs ∧ xs[i]? = some x, fun i H x H' => H' = H ∧ ∀ xs, SqL K H a xs → xs[i]? = some x, fun i H => ∃ xs, SqL K H a xs ∧ xs.length ≤ i⟩
def Itt (K : PySem.W.Frag) (a : Addr) : It :=
  ⟨fun i H => ∃ xs x, SqT K H a xs ∧ xs[i]? = some x, fun i H x H' => H' = H ∧ ∀ xs, SqT K H a xs → xs[i]? = some x, fun i H => ∃ xs, SqT K H a xs ∧ xs.length ≤ i⟩
/-- lo, lo + 1, .. (n of them) -/
def Itr (lo : Int) (n : Nat) : It := ⟨fun i _ => i < n, fun i H x H' => H' = H ∧ x = .int (lo + i), fun i _ => n ≤ i⟩
theorem turn_list {P : Program} {w : World} {K : PySem.W.Frag} {tg : Expr} (a it : Addr) : Turn P w K tg (Itl K a) [it] it (fun i h => h.IsListIter it a i) where
  mem := by simp
  obj := fun i h st b hb => by
    have e : b = it := by simpa using hb
    subst e
    obtain ⟨o, e, c, d⟩ := st
    exact ⟨o, e, fun v z => by rw [d] at z; cases z⟩
  keep := fun i h h' st k => st.at fun o e => k it (by simp) o e
  item := by
    intro X hP hw hK hc i pins s σ H E I hf st hg
    subst hP hw hK
    obtain ⟨xs, x, hq, hx⟩ := hg
    obtain ⟨its, rv, p, hz⟩ := I.list hq
    obtain ⟨u, hu, ru⟩ := rv.get hx
    obtain ⟨f0, f1, f2, f3, f4, f5⟩ := hf it (by simp)
    refine wpAny_pyNext_list_item st p.isList (x := u) (by simpa using hu) fun h' st' sb => ?_
    have I1 : Inv X pins σ H { s with heap := h' } := I.turned (t' := s.toks) (fun b o hb e => (sb.2 b hb).trans e) f0 f1 f3 f4 f5
    obtain ⟨o, e, c, d⟩ := id st'
    exact ⟨u, rfl, go_of (s := { s with heap := h' }) e c d (by decide) ⟨x, H, I1, ru, ⟨rfl, fun ys hy => by rw [I.list_inj hy hq]; exact hx⟩, st', fun b hb => (hf b hb).1⟩⟩
  done := by
    intro X hP hw hK hc i pins s σ H E I hf st hg
    subst hP hw hK
    obtain ⟨xs, hq, hx⟩ := hg
    obtain ⟨its, rv, p, hz⟩ := I.list hq
    obtain ⟨f0, f1, f2, f3, f4, f5⟩ := hf it (by simp)
    have hl := rv.length
    exact wpAny_pyNext_list_end (I.ok.hd hc) st p.isList (by simp; omega) fun h' eb => ⟨rfl, I.turned (t' := s.toks) (fun b o hb e => eb b o hb e) f0 f1 f3 f4 f5⟩
  self := fun _ _ _ _ _ st h => wpAny_pyIter_listiter st h
theorem turn_tuple {P : Program} {w : World} {K : PySem.W.Frag} {tg : Expr} (a it : Addr) : Turn P w K tg (Itt K a) [it] it (fun i h => h.IsTupleIter it a i) where
  mem := by simp
  obj := fun i h st b hb => by
    have e : b = it := by simpa using hb
    subst e
    obtain ⟨o, e, c, d⟩ := st
    exact ⟨o, e, fun v z => by rw [d] at z; cases z⟩
  keep := fun i h h' st k => st.at fun o e => k it (by simp) o e
  item := by
    intro X hP hw hK hc i pins s σ H E I hf st hg
    subst hP hw hK
    obtain ⟨xs, x, hq, hx⟩ := hg
    obtain ⟨its, rv, p, hz⟩ := I.tuple hq
    obtain ⟨u, hu, ru⟩ := rv.get hx
    obtain ⟨f0, f1, f2, f3, f4, f5⟩ := hf it (by simp)
    refine wpAny_pyNext_tuple_item st (show s.heap.IsTuple a its.toArray from p) (x := u) (by simpa using hu) fun h' st' sb => ?_
    have I1 : Inv X pins σ H { s with heap := h' } := I.turned (t' := s.toks) (fun b o hb e => (sb.2 b hb).trans e) f0 f1 f3 f4 f5
    obtain ⟨o, e, c, d⟩ := id st'
    exact ⟨u, rfl, go_of (s := { s with heap := h' }) e c d (by decide) ⟨x, H, I1, ru, ⟨rfl, fun ys hy => by rw [I.tuple_inj hy hq]; exact hx⟩, st', fun b hb => (hf b hb).1⟩⟩
  done := by
    intro X hP hw hK hc i pins s σ H E I hf st hg
    subst hP hw hK
    obtain ⟨xs, hq, hx⟩ := hg
    obtain ⟨its, rv, p, hz⟩ := I.tuple hq
    obtain ⟨f0, f1, f2, f3, f4, f5⟩ := hf it (by simp)
    have hl := rv.length
    exact wpAny_pyNext_tuple_end (I.ok.hd hc) st (show s.heap.IsTuple a its.toArray from p) (by simp; omega) fun h' eb => ⟨rfl, I.turned (t' := s.toks) (fun b o hb e => eb b o hb e) f0 f1 f3 f4 f5⟩
  self := fun _ _ _ _ _ st h => wpAny_pyIter_tupleiter st h
theorem turn_range {P : Program} {w : World} {K : PySem.W.Frag} {tg : Expr} (it : Addr) (lo : Int) (n : Nat) : Turn P w K tg (Itr lo n) [it] it (fun i h => IsRangeIter h it (lo + (i : Nat) * 1) ((n : Int) - (i : Nat)) 1) where
  mem := by simp
  obj := fun i h st b hb => by
    have e : b = it := by simpa using hb
    subst e
    exact ⟨_, st, fun v z => by
      have z' : Data.fields _ = Data.cell v := z
      cases z'⟩
  keep := fun i h h' st k => k it (by simp) _ st
  item := by
    intro X hP hw hK hc i pins s σ H E I hf st hg
    subst hP hw hK
    obtain ⟨f0, f1, f2, f3, f4, f5⟩ := hf it (by simp)
    have W := Walks.range (prog := X.prog) (w := X.w) (I.ok.hd hc) it lo 1 n
    refine W.item i s _ _ hg st fun v h' tk hv st' kk => ?_
    obtain ⟨t, rfl⟩ := hv
    have I1 : Inv X pins σ H { s with heap := h', toks := tk } := I.turned (fun b o hb e => kk b o (by simpa using hb) e) f0 f1 f3 f4 f5
    refine ⟨_, rfl, go_of (s := { s with heap := h', toks := tk }) (n := "range_iterator") st' rfl rfl (by decide) ⟨.int (lo + i), H, I1, ⟨t, ?_⟩, ⟨rfl, rfl⟩, st', fun b hb => (hf b hb).1⟩⟩
    rw [Int.mul_one]
  done := by
    intro X hP hw hK hc i pins s σ H E I hf st hg
    subst hP hw hK
    obtain ⟨f0, f1, f2, f3, f4, f5⟩ := hf it (by simp)
    exact wpAny_pyNext_range_end (I.ok.hd hc) st (by have : n ≤ i := hg; omega) fun h' eb => ⟨rfl, I.turned (t' := s.toks) (fun b o hb e => eb b o hb e) f0 f1 f3 f4 f5⟩
  self := fun _ _ _ _ _ st h => wpAny_pyIter_rangeiter st h
end L2

namespace L2
open PySem PySem.Spec PyProof.Rows
section
variable {X : Cx} {tg : Expr}
def iList (K : PySem.W.Frag) (tl : TE) : TI := fun σ H R => tl σ H fun x H1 => ∃ a, x = .ref a ∧ (∃ xs, SqL K H1 a xs) ∧ R (Itl K a) H1
def iTup (K : PySem.W.Frag) (tl : TE) : TI := fun σ H R => tl σ H fun x H1 => ∃ a, x = .ref a ∧ (∃ xs, SqT K H1 a xs) ∧ R (Itt K a) H1
theorem pi_list {l : Expr} {tl : TE} (hl : PE X l tl) : PI X tg l (iList X.K tl) := by
  intro pins s σ H R I h
  refine thn (hl pins s σ H _ I h) fun v s1 ⟨x, H1, I1, r1, q1⟩ => ?_
  obtain ⟨a, e, ⟨xs, hq⟩, q⟩ := q1
  subst e
  cases r1
  obtain ⟨its, rv, p, hz⟩ := I1.list hq
  refine wpAny_pyIter_list p.isList ?_
  refine ⟨s1.heap.objs.size, [s1.heap.objs.size], _, _, H1, rfl, I1.kept (t' := s1.toks) fun b o e => Heap.get?_push_of_some _ e, turn_list a _, ⟨_, Heap.get?_push_size _ rfl, rfl, rfl⟩, fun b hb => ?_, q⟩
  have e : b = s1.heap.objs.size := by simpa using hb
  subst e
  exact I1.fpOk (Nat.le_refl _) (I1.hok.fresh (Nat.le_refl _))
theorem pi_tup {l : Expr} {tl : TE} (hl : PE X l tl) : PI X tg l (iTup X.K tl) := by
  intro pins s σ H R I h
  refine thn (hl pins s σ H _ I h) fun v s1 ⟨x, H1, I1, r1, q1⟩ => ?_
  obtain ⟨a, e, ⟨xs, hq⟩, q⟩ := q1
  subst e
  cases r1
  obtain ⟨its, rv, p, hz⟩ := I1.tuple hq
  refine wpAny_pyIter_tuple (show s1.heap.IsTuple a its.toArray from p) ?_
  refine ⟨s1.heap.objs.size, [s1.heap.objs.size], _, _, H1, rfl, I1.kept (t' := s1.toks) fun b o e => Heap.get?_push_of_some _ e, turn_tuple a _, ⟨_, Heap.get?_push_size _ rfl, rfl, rfl⟩, fun b hb => ?_, q⟩
  have e : b = s1.heap.objs.size := by simpa using hb
  subst e
  exact I1.fpOk (Nat.le_refl _) (I1.hok.fresh (Nat.le_refl _))
/-- a range object just made, walked -/
theorem range_it {pins : List (Addr × Obj)} {σ : St} {H : Hp} {s : Shared} {R : It → Hp → Prop} {E : Value → Shared → Prop} {lo hi : Int} {t u v : Tok} {tk : Nat} (I : Inv X pins σ H s) (h1 : -(2 ^ 62) ≤ lo) (h2 : lo < 2 ^ 62) (h3 : -(2 ^ 62) ≤ hi) (h4 : hi < 2 ^ 62)
    (q : R (Itr lo (hi - lo).toNat) H) : wpAny (model X.prog X.w) X.A (pyIter (.ref s.heap.objs.size)) (PIE X pins σ tg R) E { s with heap := s.heap.push { cls := .type "range", data := .fields #[.int lo t, .int hi u, .int 1 v] }, toks := tk } := by
  refine wpAny_pyIter_range (IsRange.new ..) (small_one h1 h2 h3 h4) ?_
  have I1 : Inv X pins σ H { s with heap := s.heap.push { cls := .type "range", data := .fields #[.int lo t, .int hi u, .int 1 v] }, toks := tk } := I.kept fun b o e => Heap.get?_push_of_some _ e
  refine ⟨(s.heap.push { cls := .type "range", data := .fields #[.int lo t, .int hi u, .int 1 v] }).objs.size, [(s.heap.push { cls := .type "range", data := .fields #[.int lo t, .int hi u, .int 1 v] }).objs.size], _, _, H, rfl,
    I1.kept (t' := tk) fun b o e => Heap.get?_push_of_some _ e, turn_range _ lo (hi - lo).toNat, ?_, fun b hb => ?_, q⟩
  · have e1 : lo + ((0 : Nat) : Int) * 1 = lo := by simp
    have e2 : (((hi - lo).toNat : Nat) : Int) - ((0 : Nat) : Int) = Builtin.Range.rangeSize lo hi 1 := by rw [rangeSize_one]; split <;> omega
    show IsRangeIter _ _ (lo + ((0 : Nat) : Int) * 1) ((((hi - lo).toNat : Nat) : Int) - ((0 : Nat) : Int)) 1
    rw [e1, e2]
    exact Heap.get?_push_size _ rfl
  · have e : b = (s.heap.push { cls := .type "range", data := .fields #[.int lo t, .int hi u, .int 1 v] }).objs.size := by simpa using hb
    subst e
    exact I1.fpOk (Nat.le_refl _) (I1.hok.fresh (Nat.le_refl _))
def iRng1 (ta : TA) : TI := fun σ H R => ta σ H fun vs H1 => ∃ j : Int, vs = [.int j] ∧ -(2 ^ 62) ≤ j ∧ j < 2 ^ 62 ∧ R (Itr 0 j.toNat) H1
theorem pi_range1 {a : Expr} {ta : TA} {p pos : Pos} (hg : Gl X "range") (hm : X.mg "range" = none) (ha : PA X [a] ta) (hs : starEach [a] X.env = [(false, eval a X.env)] := by rfl) : PI X tg (.Call (.Name "range" p) [a] [] pos) (iRng1 ta) := by
  intro pins s σ H R I h
  refine Call_ (ld_blt I hg hm boot_range (PyProof.Rows.callWith_type1 (thn (ha pos pins s σ H _ I h) fun us s1 ⟨vs, H1, I1, r1, q1⟩ => ?_) hs rfl))
  obtain ⟨j, e, q1, q2, q⟩ := q1
  subst e
  cases r1 with
  | cons r rr =>
    cases rr
    obtain ⟨t, rfl⟩ := r
    exact call_range_1 (range_it I1 (by omega) (by omega) q1 q2 (by simpa using q))
/-! ### for -/
/-- W: the invariant by the turn and a measure; N: what the body is to reach -/
def tFor (wi : TI) (g : TG) (tb : TS) : TS := fun D σ H => wi σ H fun J H1 => ∃ W : Nat → Nat → St → Hp → Prop, (∃ m, W 0 m σ H1) ∧ ∀ i m σ H, W i m σ H →
  (J.stop i H ∧ D.nx σ H) ∨ (J.go i H ∧ ∃ N : St → Hp → Prop, (∀ σ' H', N σ' H' → ∃ m', m' < m ∧ W (i + 1) m' σ' H') ∧ ∀ x H', J.yld i H x H' → g x σ H' fun σ2 H2 => tb { D with nx := N, ct := N, bk := D.nx } σ2 H2)
/-- the records at fp as they stand -/
def pinsAt (fp : List Addr) (h : Heap) : List (Addr × Obj) := fp.filterMap fun b => (h.get? b).map fun o => (b, o)
theorem mem_pinsAt {fp : List Addr} {h : Heap} {b : Addr} {o : Obj} (hb : b ∈ fp) (e : h.get? b = some o) : (b, o) ∈ pinsAt fp h := List.mem_filterMap.mpr ⟨b, hb, by rw [e]; rfl⟩
theorem of_pinsAt {fp : List Addr} {h : Heap} {p : Addr × Obj} (hp : p ∈ pinsAt fp h) : p.1 ∈ fp ∧ h.get? p.1 = some p.2 := by
  obtain ⟨b, hb, e⟩ := List.mem_filterMap.mp hp
  cases q : h.get? b with
  | none => rw [q] at e; cases e
  | some o =>
    rw [q] at e
    have e' : (b, o) = p := Option.some.inj e
    subst e'
    exact ⟨hb, q⟩
theorem Inv.pinned {pins : List (Addr × Obj)} {σ : St} {H : Hp} {s : Shared} {fp : List Addr} (I : Inv X pins σ H s) (hf : ∀ b ∈ fp, FpOk X pins H b) (ho : ∀ b ∈ fp, ∃ o, s.heap.get? b = some o ∧ ∀ v, o.data ≠ .cell v) : Inv X (pins ++ pinsAt fp s.heap) σ H s :=
  I.pins_of fun p hp => (List.mem_append.mp hp).elim (fun z => I.pin p (List.mem_append_right _ z)) fun z => by
    obtain ⟨hb, e⟩ := of_pinsAt z
    obtain ⟨f0, f1, f2, _⟩ := hf p.1 hb
    obtain ⟨o, e', d⟩ := ho p.1 hb
    rw [e] at e'; cases e'
    exact ⟨e, f0, f1, f2, d⟩
theorem Inv.unpinned {pins pl : List (Addr × Obj)} {σ : St} {H : Hp} {s : Shared} (I : Inv X (pins ++ pl) σ H s) : Inv X pins σ H s := I.pins_of fun p hp => I.pin p (List.mem_append_right _ (List.mem_append_left _ hp))
theorem ps_for {iter : Expr} {body : List Stmt} {wi : TI} {g : TG} {tb : TS} {pos : Pos} (hp : PassesOwn (model X.prog X.w) X.A X.env X.xe) (hc : X.calm = true) (hi : PI X tg iter wi) (hg : PG X tg g) (hb : PSs X body tb)
    (hs : ∀ x, foldedSetIterable iter X.env x = pure x := by intro _; rfl) : PS X (.For tg iter body [] pos) (tFor wi g tb) := by
  intro pins s σ H D I h
  refine wpAny_For (thn (hi pins s σ H _ I h) fun v s1 h1 => thn h1 fun itv s2 h2 => ?_) hs
  obtain ⟨it, fp, tn, J, H2, e, I2, T, st2, f2, W, ⟨m0, w0⟩, turn⟩ := h2
  subst e
  -- what stays true of the iterator's objects through the loop
  have stat : ∀ {H' : Hp}, (∀ b ∈ fp, H' b = none) → ∀ b ∈ fp, FpOk X pins H' b := fun hn b hb => ⟨hn b hb, (f2 b hb).2⟩
  refine codeAny_forLoop_any (fun n s' => ∃ i σ' H', Inv X pins σ' H' s' ∧ tn i s'.heap ∧ (∀ b ∈ fp, H' b = none) ∧ W i n σ' H') ?_ m0 ⟨0, σ, H2, I2, st2, fun b hb => (f2 b hb).1, w0⟩
  rintro n s3 ⟨i, σ3, H3, I3, st3, fr3, w3⟩
  rcases turn i n σ3 H3 w3 with ⟨stop, qn⟩ | ⟨go, N, hN, step⟩
  · refine wpAny_passesOwn hp (thn (T.done X rfl rfl rfl hc i pins s3 σ3 H3 X.xe I3 (stat fr3) st3 stop) fun r s4 ⟨hr, I4⟩ => ?_)
    subst hr
    exact wpAny_execs_nil ⟨σ3, H3, I4, qn⟩
  · refine wpAny_passesOwn hp (thn (T.item X rfl rfl rfl hc i pins s3 σ3 H3 X.xe I3 (stat fr3) st3 go) fun r s4 ⟨u, hr, h4⟩ => ?_)
    subst hr
    refine wpAny_passesOwn hp (thn h4 fun _ s5 ⟨x, H5, I5, r5, y5, st5, fr5⟩ => ?_)
    have I5' := I5.pinned (stat fr5) (T.obj _ _ st5)
    refine wpAny_passesOwn hp (thn (hg _ s5 σ3 H5 x u _ I5' r5 (step x H5 y5)) fun _ s6 ⟨σ6, H6, I6, q6⟩ => ?_)
    refine wpAny_passesOwn hp (thn (hb _ s6 σ6 H6 _ I6 q6) fun f s7 q7 => ?_)
    have again : ∀ {σ7 : St} {H7 : Hp}, Inv X (pins ++ pinsAt fp s5.heap) σ7 H7 s7 → N σ7 H7 → ∃ m, m < n ∧ ∃ i σ' H', Inv X pins σ' H' s7 ∧ tn i s7.heap ∧ (∀ b ∈ fp, H' b = none) ∧ W i m σ' H' := fun {σ7 H7} I7 n7 => by
      obtain ⟨m', hm, w7⟩ := hN σ7 H7 n7
      refine ⟨m', hm, i + 1, σ7, H7, I7.unpinned, T.keep _ _ _ st5 fun b hb o e => (I7.pin (b, o) (List.mem_append_right _ (List.mem_append_right _ (mem_pinsAt hb e)))).1, fun b hb => ?_, w7⟩
      obtain ⟨o, e, d⟩ := T.obj _ _ st5 b hb
      exact (I7.pin (b, o) (List.mem_append_right _ (List.mem_append_right _ (mem_pinsAt hb e)))).2.1
    cases f with
    | next => obtain ⟨σ7, H7, I7, n7⟩ := q7; exact again I7 n7
    | cont => obtain ⟨σ7, H7, I7, n7⟩ := q7; exact again I7 n7
    | brk => obtain ⟨σ7, H7, I7, q7⟩ := q7; exact ⟨σ7, H7, I7.unpinned, q7⟩
    | ret v => obtain ⟨x7, σ7, H7, I7, r7, q7⟩ := q7; exact ⟨x7, σ7, H7, I7.unpinned, r7, q7⟩
end

/-! ### the forms one uses -/
theorem for_range {lo : Int} {n : Nat} {g : TG} {tb : TS} {D : Ends} {σ : St} {H : Hp} (Pv : Nat → St → Hp → Prop) (h0 : Pv 0 σ H)
    (hs : ∀ i σ H, i < n → Pv i σ H → g (.int (lo + i)) σ H fun σ2 H2 => tb { D with nx := Pv (i + 1), ct := Pv (i + 1), bk := D.nx } σ2 H2) (hd : ∀ σ H, Pv n σ H → D.nx σ H) :
    ∃ W : Nat → Nat → St → Hp → Prop, (∃ m, W 0 m σ H) ∧ ∀ i m σ H, W i m σ H →
      ((Itr lo n).stop i H ∧ D.nx σ H) ∨ ((Itr lo n).go i H ∧ ∃ N : St → Hp → Prop, (∀ σ' H', N σ' H' → ∃ m', m' < m ∧ W (i + 1) m' σ' H') ∧ ∀ x H', (Itr lo n).yld i H x H' → g x σ H' fun σ2 H2 => tb { D with nx := N, ct := N, bk := D.nx } σ2 H2) := by
  refine ⟨fun i m σ H => m = n - i ∧ i ≤ n ∧ Pv i σ H, ⟨n, by simp, Nat.zero_le _, h0⟩, ?_⟩
  rintro i m σ H ⟨rfl, hi, p⟩
  by_cases hlt : i < n
  · refine .inr ⟨hlt, Pv (i + 1), fun σ' H' p' => ⟨n - (i + 1), by omega, rfl, hlt, p'⟩, fun x H' y => ?_⟩
    obtain ⟨e, y⟩ := y
    subst e y
    exact hs i σ _ hlt p
  · have e : i = n := by omega
    subst e
    exact .inl ⟨Nat.le_refl _, hd σ H p⟩
end L2

namespace L2
open PySem PySem.Spec PyProof.Rows

abbrev R2 := V → V → Hp → VK → Prop
/-- a two-place operation on values: f is binaryOp op, inplaceOp op or compareOp op -/
def OpR (X : Cx) (f : Value → Value → Sem Value) (r : R2) : Prop :=
  ∀ (pins : List (Addr × Obj)) (s : Shared) (σ : St) (H : Hp) (x y : V) (v u : Value) (Q : VK), Inv X pins σ H s → RelV x v → RelV y u → r x y H Q →
    wpAny (model X.prog X.w) X.A (f v u) (EP X pins σ Q) X.xe s
/-- a call of a value that is known (a builtin, a type) with values -/
def CallR (X : Cx) (f : Value) (r : List V → Hp → VK → Prop) : Prop :=
  ∀ (pins : List (Addr × Obj)) (s : Shared) (σ : St) (H : Hp) (xs : List V) (us : List Value) (Q : VK), Inv X pins σ H s → Vals xs us → r xs H Q →
    wpAny (model X.prog X.w) X.A (call f us) (EP X pins σ Q) X.xe s
def tOp (r : R2) (ta tb : TE) : TE := fun σ H Q => ta σ H fun x H1 => tb σ H1 fun y H2 => r x y H2 Q
/-- ints in, under C, and a value out -/
def rI (C : Int → Int → Prop) (g : Int → Int → V) : R2 := fun x y H Q => ∃ i j, x = .int i ∧ y = .int j ∧ C i j ∧ Q (g i j) H
def rI0 (g : Int → Int → V) : R2 := fun x y H Q => ∃ i j, x = .int i ∧ y = .int j ∧ Q (g i j) H
section
variable {X : Cx} {a b c : Expr} {ta tb tc : TE} {pos : Pos}

theorem binT (ha : PE X a ta) (hb : PE X b tb) {pins : List (Addr × Obj)} {s : Shared} {σ : St} {H : Hp} {R : V → V → Hp → Prop} (I : Inv X pins σ H s)
    (h : ta σ H fun x H1 => tb σ H1 fun y H2 => R x y H2) {Q : Value → Shared → Prop} {f : Value → Value → Sem Value}
    (hf : ∀ v u s2 x y H2, Inv X pins σ H2 s2 → RelV x v → RelV y u → R x y H2 → wpAny (model X.prog X.w) X.A (f v u) Q X.xe s2) :
    wpAny (model X.prog X.w) X.A (eval a X.env) (fun v s₁ => wpAny (model X.prog X.w) X.A (eval b X.env) (fun u s₂ => wpAny (model X.prog X.w) X.A (f v u) Q X.xe s₂) X.xe s₁) X.xe s := by
  refine thn (ha pins s σ H _ I h) fun v s1 ⟨x, H1, I1, r1, q1⟩ => ?_
  refine thn (hb pins s1 σ H1 _ I1 q1) fun u s2 ⟨y, H2, I2, r2, q2⟩ => ?_
  exact hf v u s2 x y H2 I2 r1 r2 q2

theorem pe_op {op : Operator} {r : R2} (ho : OpR X (binaryOp op) r) (ha : PE X a ta) (hb : PE X b tb) : PE X (.BinOp a op b pos) (tOp r ta tb) := by
  intro pins s σ H Q I h
  exact wpAny_BinOp (binT ha hb I h fun v u s2 x y H2 I2 rx ry q => ho pins s2 σ H2 x y v u Q I2 rx ry q)
/-! ### ints -/
theorem opI {f : Value → Value → Sem Value} {C : Int → Int → Prop} {g : Int → Int → Int}
    (rule : ∀ (i j : Int) (t u : Tok) (s : Shared) (Q : Value → Shared → Prop) (E : Value → Shared → Prop), C i j → Q (.int (g i j) s.toks) { s with toks := s.toks + 1 } → wpAny (model X.prog X.w) X.A (f (.int i t) (.int j u)) Q E s) :
    OpR X f (rI C fun i j => .int (g i j)) := by
  intro pins s σ H x y v u Q I rx ry h
  obtain ⟨i, j, rfl, rfl, hc, q⟩ := h
  obtain ⟨t, rfl⟩ := rx
  obtain ⟨t', rfl⟩ := ry
  exact rule i j t t' s _ _ hc ⟨.int (g i j), H, I.tok _, ⟨_, rfl⟩, q⟩
theorem opI0 {f : Value → Value → Sem Value} {g : Int → Int → Int}
    (rule : ∀ (i j : Int) (t u : Tok) (s : Shared) (Q : Value → Shared → Prop) (E : Value → Shared → Prop), Q (.int (g i j) s.toks) { s with toks := s.toks + 1 } → wpAny (model X.prog X.w) X.A (f (.int i t) (.int j u)) Q E s) :
    OpR X f (rI0 fun i j => .int (g i j)) := by
  intro pins s σ H x y v u Q I rx ry h
  obtain ⟨i, j, rfl, rfl, q⟩ := h
  obtain ⟨t, rfl⟩ := rx
  obtain ⟨t', rfl⟩ := ry
  exact rule i j t t' s _ _ ⟨.int (g i j), H, I.tok _, ⟨_, rfl⟩, q⟩
theorem opB0 {f : Value → Value → Sem Value} {g : Int → Int → Bool}
    (rule : ∀ (i j : Int) (t u : Tok) (s : Shared) (Q : Value → Shared → Prop) (E : Value → Shared → Prop), Q (.bool (g i j)) s → wpAny (model X.prog X.w) X.A (f (.int i t) (.int j u)) Q E s) :
    OpR X f (rI0 fun i j => .bl (g i j)) := by
  intro pins s σ H x y v u Q I rx ry h
  obtain ⟨i, j, rfl, rfl, q⟩ := h
  obtain ⟨t, rfl⟩ := rx
  obtain ⟨t', rfl⟩ := ry
  exact rule i j t t' s _ _ ⟨.bl (g i j), H, I, rfl, q⟩

def CDiv (i j : Int) : Prop := 0 < j ∧ j < 1073741824
def CMul (i j : Int) : Prop := (-(2 ^ 64) < i ∧ i < 2 ^ 64) ∨ (-(2 ^ 64) < j ∧ j < 2 ^ 64)
theorem CMul.ok {i j : Int} (h : CMul i j) : IntMulOk i j := by
  rcases h with ⟨h1, h2⟩ | ⟨h1, h2⟩
  · exact .of_left (intBits_le_64 h1 h2)
  · exact .of_right (intBits_le_64 h1 h2)
theorem op_add : OpR X (binaryOp .Add) (rI0 fun i j => .int (i + j)) := opI0 fun _ _ _ _ _ _ _ q => add_int q
theorem op_sub : OpR X (binaryOp .Sub) (rI0 fun i j => .int (i - j)) := opI0 fun _ _ _ _ _ _ _ q => sub_int q
theorem op_mul : OpR X (binaryOp .Mult) (rI CMul fun i j => .int (i * j)) := opI fun _ _ _ _ _ _ _ hc q => mul_int q hc.ok
/-- // by a positive divisor -/
theorem op_fdiv : OpR X (binaryOp .FloorDiv) (rI CDiv fun i j => .int (i / j)) := opI fun i j _ _ _ _ _ hc q => by
  have h1 : (0 : Int) < j := hc.1
  have h2 : j < 1073741824 := hc.2
  exact floordiv_int (by omega) (by rw [Int.fdiv_eq_ediv_of_nonneg i (by omega)]; exact q) (.inl (PyProof.noPylong_small (by omega)))
/-- % by a positive divisor of any size -/
theorem op_mod : OpR X (binaryOp .Mod) (rI (fun _ j => 0 < j) fun i j => .int (i % j)) := opI fun i j _ _ _ _ _ hc q => by
  have h1 : (0 : Int) < j := hc
  exact mod_int' (by omega) (by rw [Int.fmod_eq_emod_of_nonneg i (by omega)]; exact q)
/-! ### bools among ints: n += (a < b) -/
end

/-! ### comparisons -/
/-- the scalars that == tells apart as data does -/
def scal : V → V → Bool
  | .non, .non => true | .non, .int _ => true | .int _, .non => true | .non, .bl _ => true | .bl _, .non => true | .non, .str _ => true | .str _, .non => true
  | .int _, .int _ => true | .bl _, .bl _ => true | .str _, .str _ => true | .byt _, .byt _ => true
  | .int _, .str _ => true | .str _, .int _ => true | .bl _, .str _ => true | .str _, .bl _ => true
  | _, _ => false
def rEq : R2 := fun x y H Q => scal x y = true ∧ Q (.bl (decide (x = y))) H
def rNe : R2 := fun x y H Q => scal x y = true ∧ Q (.bl (!decide (x = y))) H

theorem dec_int {i j : Int} : decide (V.int i = V.int j) = (i == j) := by
  rw [Bool.eq_iff_iff]
  simp
theorem dec_bl {i j : Bool} : decide (V.bl i = V.bl j) = (i == j) := by
  rw [Bool.eq_iff_iff]
  simp
theorem dec_str {i j : Str} : decide (V.str i = V.str j) = (i == j) := by
  rw [Bool.eq_iff_iff]
  simp
theorem dec_byt {i j : Array UInt8} : decide (V.byt i = V.byt j) = (i.toList == j.toList) := by
  rw [Bool.eq_iff_iff]
  cases i
  cases j
  simp

section
variable {X : Cx} {a b c : Expr} {ta tb tc : TE} {pos : Pos}
theorem fin_bl {pins : List (Addr × Obj)} {σ : St} {H : Hp} {s : Shared} {Q : VK} {k k' : Bool} (I : Inv X pins σ H s) (q : Q (.bl k) H) (e : k = k') : EP X pins σ Q (.bool k') s := by
  subst e
  exact ⟨.bl k, H, I, rfl, q⟩
theorem op_eq : OpR X (compareOp .Eq) rEq := by
  intro pins s σ H x y v u Q I rx ry h
  obtain ⟨hs, q⟩ := h
  cases x with
  | non =>
    cases rx
    cases y with
    | non => cases ry; exact PySem.EqNone.eq_none_none (fin_bl I q (by simp))
    | bl j => cases ry; exact PySem.EqNone.eq_none_bool (fin_bl I q (by simp))
    | int j => obtain ⟨t', rfl⟩ := ry; exact PySem.EqNone.eq_none_int (fin_bl I q (by simp))
    | str j => obtain ⟨t', rfl⟩ := ry; exact PySem.EqNone.eq_none_str (fin_bl I q (by simp))
    | _ => exact absurd (show false = true from hs) Bool.false_ne_true
  | bl i =>
    cases rx
    cases y with
    | non => cases ry; exact PySem.EqNone.eq_bool_none (fin_bl I q (by simp))
    | bl j => cases ry; exact eq_bool (fin_bl I q dec_bl)
    | str j => obtain ⟨t', rfl⟩ := ry; exact PySem.EqMixed.eq_bool_str (fin_bl I q (by simp))
    | _ => exact absurd (show false = true from hs) Bool.false_ne_true
  | int i =>
    obtain ⟨t, rfl⟩ := rx
    cases y with
    | non => cases ry; exact PySem.EqNone.eq_int_none (fin_bl I q (by simp))
    | int j => obtain ⟨t', rfl⟩ := ry; exact eq_int (fin_bl I q dec_int)
    | str j => obtain ⟨t', rfl⟩ := ry; exact PySem.EqMixed.eq_int_str (fin_bl I q (by simp))
    | _ => exact absurd (show false = true from hs) Bool.false_ne_true
  | str i =>
    obtain ⟨t, rfl⟩ := rx
    cases y with
    | non => cases ry; exact PySem.EqNone.eq_str_none (fin_bl I q (by simp))
    | bl j => cases ry; exact PySem.EqMixed.eq_str_bool (fin_bl I q (by simp))
    | int j => obtain ⟨t', rfl⟩ := ry; exact PySem.EqMixed.eq_str_int (fin_bl I q (by simp))
    | str j => obtain ⟨t', rfl⟩ := ry; exact eq_str (fin_bl I q dec_str)
    | _ => exact absurd (show false = true from hs) Bool.false_ne_true
  | byt i =>
    obtain ⟨t, rfl⟩ := rx
    cases y with
    | byt j => obtain ⟨t', rfl⟩ := ry; exact PySem.W.eq_bytes (fin_bl I q dec_byt)
    | _ => exact absurd (show false = true from hs) Bool.false_ne_true
  | _ => cases y <;> exact absurd (show false = true from hs) Bool.false_ne_true
theorem op_ne : OpR X (compareOp .NotEq) rNe := by
  intro pins s σ H x y v u Q I rx ry h
  obtain ⟨hs, q⟩ := h
  cases x with
  | non =>
    cases rx
    cases y with
    | non => cases ry; exact PySem.EqNone.ne_none_none (fin_bl I q (by simp))
    | bl j => cases ry; exact PySem.EqNone.ne_none_bool (fin_bl I q (by simp))
    | int j => obtain ⟨t', rfl⟩ := ry; exact PySem.EqNone.ne_none_int (fin_bl I q (by simp))
    | str j => obtain ⟨t', rfl⟩ := ry; exact PySem.EqNone.ne_none_str (fin_bl I q (by simp))
    | _ => exact absurd (show false = true from hs) Bool.false_ne_true
  | bl i =>
    cases rx
    cases y with
    | non => cases ry; exact PySem.EqNone.ne_bool_none (fin_bl I q (by simp))
    | bl j => cases ry; exact ne_bool (fin_bl I q (congrArg not dec_bl))
    | str j => obtain ⟨t', rfl⟩ := ry; exact PySem.EqMixed.ne_bool_str (fin_bl I q (by simp))
    | _ => exact absurd (show false = true from hs) Bool.false_ne_true
  | int i =>
    obtain ⟨t, rfl⟩ := rx
    cases y with
    | non => cases ry; exact PySem.EqNone.ne_int_none (fin_bl I q (by simp))
    | int j => obtain ⟨t', rfl⟩ := ry; exact ne_int (fin_bl I q (congrArg not dec_int))
    | str j => obtain ⟨t', rfl⟩ := ry; exact PySem.EqMixed.ne_int_str (fin_bl I q (by simp))
    | _ => exact absurd (show false = true from hs) Bool.false_ne_true
  | str i =>
    obtain ⟨t, rfl⟩ := rx
    cases y with
    | non => cases ry; exact PySem.EqNone.ne_str_none (fin_bl I q (by simp))
    | bl j => cases ry; exact PySem.EqMixed.ne_str_bool (fin_bl I q (by simp))
    | int j => obtain ⟨t', rfl⟩ := ry; exact PySem.EqMixed.ne_str_int (fin_bl I q (by simp))
    | str j => obtain ⟨t', rfl⟩ := ry; exact ne_str (fin_bl I q (congrArg not dec_str))
    | _ => exact absurd (show false = true from hs) Bool.false_ne_true
  | byt i =>
    obtain ⟨t, rfl⟩ := rx
    cases y with
    | byt j => obtain ⟨t', rfl⟩ := ry; exact PySem.W.ne_bytes (fin_bl I q (congrArg not dec_byt))
    | _ => exact absurd (show false = true from hs) Bool.false_ne_true
  | _ => cases y <;> exact absurd (show false = true from hs) Bool.false_ne_true

theorem op_lt : OpR X (compareOp .Lt) (rI0 fun i j => .bl (decide (i < j))) := opB0 fun _ _ _ _ _ _ _ q => lt_int q
theorem op_le : OpR X (compareOp .LtE) (rI0 fun i j => .bl (decide (i ≤ j))) := opB0 fun _ _ _ _ _ _ _ q => le_int q
theorem op_gt : OpR X (compareOp .Gt) (rI0 fun i j => .bl (decide (j < i))) := opB0 fun _ _ _ _ _ _ _ q => gt_int q
/-- the one string within the other -/
theorem op_in_str : OpR X (compareOp .In) (fun x y H Q => ∃ i j, x = .str i ∧ y = .str j ∧ Q (.bl (!(Builtin.Str.occurrences j i 0 j.length 1).isEmpty)) H) := by
  intro pins s σ H x y v u Q I rx ry h
  obtain ⟨i, j, rfl, rfl, q⟩ := h
  obtain ⟨t, rfl⟩ := rx
  obtain ⟨t', rfl⟩ := ry
  exact in_str (fin_bl I q rfl)

/-- is None, is not None: the right side a value none -/
theorem op_isN : OpR X (compareOp .Is) (fun x y H Q => y = .non ∧ Q (.bl (decide (x = .non))) H) := by
  intro pins s σ H x y v u Q I rx ry h
  obtain ⟨rfl, q⟩ := h
  cases ry
  refine is_none_gen (fin_bl I q ?_)
  cases x <;> first
    | (cases rx; rfl)
    | (obtain ⟨t, rfl⟩ := rx; rfl)
theorem op_notN : OpR X (compareOp .IsNot) (fun x y H Q => y = .non ∧ Q (.bl (!decide (x = .non))) H) := by
  intro pins s σ H x y v u Q I rx ry h
  obtain ⟨rfl, q⟩ := h
  cases ry
  refine isnot_none_gen (fin_bl I q ?_)
  cases x <;> first
    | (cases rx; rfl)
    | (obtain ⟨t, rfl⟩ := rx; rfl)

theorem nomark (b : Expr) {op : CmpOp} (h : op ≠ .In := by decide) (h2 : op ≠ .NotIn := by decide) : behindInMarks op b = false := by
  have e1 : (op == CmpOp.In) = false := by cases op <;> first | rfl | exact absurd rfl h
  have e2 : (op == CmpOp.NotIn) = false := by cases op <;> first | rfl | exact absurd rfl h2
  cases b <;> simp [behindInMarks, e1, e2]
/-- a comparison as a value; hm: nomark b, or (for in, not in) by with_unfolding_all rfl -/
theorem pe_cmpR {op : CmpOp} {r : R2} (ho : OpR X (compareOp op) r) (ha : PE X a ta) (hb : PE X b tb) (hm : behindInMarks op b = false) : PE X (.Compare a [op] [b] pos) (tOp r ta tb) := by
  intro pins s σ H Q I h
  exact wpAny_Compare1 (binT ha hb I h fun v u s2 x y H2 I2 rx ry q => ho pins s2 σ H2 x y v u Q I2 rx ry q) hm
/-- a reading of a value as a test -/
def tTest (t : TE) : TT := fun σ H Q => t σ H fun x H' => ∃ k, x = .bl k ∧ Q k H'
theorem pt_cmpR {op : CmpOp} {r : R2} (ho : OpR X (compareOp op) r) (ha : PE X a ta) (hb : PE X b tb) (hm : behindInMarks op b = false) : PT X (.Compare a [op] [b] pos) (tTest (tOp r ta tb)) := by
  intro pins s σ H Q I h
  refine wpAny_isTrue_Compare1 (thn (ha pins s σ H _ I h) fun v s1 ⟨x, H1, I1, r1, q1⟩ => thn (hb pins s1 σ H1 _ I1 q1) fun u s2 ⟨y, H2, I2, r2, q2⟩ =>
    thn (ho pins s2 σ H2 x y v u _ I2 r1 r2 q2) fun c s3 ⟨z, H3, I3, r3, k, e, q3⟩ => ?_) hm
  subst e
  cases r3
  exact wpAny_truthy_bool ⟨H3, I3, q3⟩
/-- a op1 b op2 c -/
def tChain (r r' : R2) (ta tb tc : TE) : TE := fun σ H Q => ta σ H fun x H1 => tb σ H1 fun y H2 => r x y H2 fun z H3 => ∃ k, z = .bl k ∧
  (if k = true then tc σ H3 fun w' H4 => r' y w' H4 Q else Q (.bl false) H3)
theorem pt_chain {op op' : CmpOp} {r r' : R2} (ho : OpR X (compareOp op) r) (ho' : OpR X (compareOp op') r') (ha : PE X a ta) (hb : PE X b tb) (hc : PE X c tc)
    (hm : lastMarks [op, op'] [b, c] = false := by with_unfolding_all rfl) : PT X (.Compare a [op, op'] [b, c] pos) (tTest (tChain r r' ta tb tc)) := by
  intro pins s σ H Q I h
  refine isTrue_chain (thn (ha pins s σ H _ I h) fun v s1 ⟨x, H1, I1, r1, q1⟩ => test_link (thn (hb pins s1 σ H1 _ I1 q1) fun u s2 ⟨y, H2, I2, r2, q2⟩ =>
    thn (ho pins s2 σ H2 x y v u _ I2 r1 r2 q2) fun d s3 ⟨z, H3, I3, r3, k, e, q3⟩ => ?_)) hm
  subst e
  cases r3
  refine wpAny_truthy_bool ?_
  cases k with
  | false =>
    obtain ⟨k', e', q'⟩ := q3
    cases e'
    exact ite_ff ⟨H3, I3, q'⟩
  | true =>
    refine ite_tt (test_last (thn (hc pins s3 σ H3 _ I3 q3) fun w' s4 ⟨z', H4, I4, r4, q4⟩ => thn (ho' pins s4 σ H4 y z' u w' _ I4 r2 r4 q4) fun d' s5 ⟨z2, H5, I5, r5, k2, e2, q5⟩ => ?_))
    subst e2
    cases r5
    exact wpAny_truthy_bool ⟨H5, I5, q5⟩

/-! ### truth -/
theorem line63 : (sizeLine : Nat) < 2 ^ 63 := by rw [sizeLine_eq]; decide
/-! ### strs and bytes -/
theorem op_add_str : OpR X (binaryOp .Add) (fun x y H Q => ∃ i j, x = .str i ∧ y = .str j ∧ i.length + j.length ≤ sizeLine ∧ Q (.str (i ++ j)) H) := by
  intro pins s σ H x y v u Q I rx ry h
  obtain ⟨i, j, rfl, rfl, hz, q⟩ := h
  obtain ⟨t, rfl⟩ := rx
  obtain ⟨t', rfl⟩ := ry
  exact add_str (fun t' tk => ⟨.str (i ++ j), H, I.tok _, ⟨_, rfl⟩, q⟩) hz
/-! ### scalar builtins, by CallR -/
theorem vals1 {x : V} {us : List Value} (r : Vals [x] us) : ∃ u, us = [u] ∧ RelV x u := by
  cases r with
  | cons r1 r2 => cases r2; exact ⟨_, rfl, r1⟩
theorem vals2 {x y : V} {us : List Value} (r : Vals [x, y] us) : ∃ u w', us = [u, w'] ∧ RelV x u ∧ RelV y w' := by
  cases r with
  | cons r1 r2 =>
    cases r2 with
    | cons r3 r4 => cases r4; exact ⟨_, _, rfl, r1, r3⟩
theorem call_int1 : CallR X (.type "int") (fun xs H Q => (∃ i, xs = [.int i] ∧ Q (.int i) H) ∨ ∃ k, xs = [.bl k] ∧ Q (.int (if k then 1 else 0)) H) := by
  intro pins s σ H xs us Q I r h
  rcases h with ⟨i, rfl, q⟩ | ⟨k, rfl, q⟩
  · obtain ⟨u, rfl, t, rfl⟩ := vals1 r
    exact call_int_int ⟨.int i, H, I, ⟨_, rfl⟩, q⟩
  · obtain ⟨u, rfl, r1⟩ := vals1 r
    cases r1
    exact call_int_bool ⟨.int (if k then 1 else 0), H, I.tok _, ⟨_, rfl⟩, q⟩
theorem call_str_int : CallR X (.type "str") (fun xs H Q => ∃ i, xs = [.int i] ∧ i.natAbs.log2 < 1920 ∧ Q (.str (toString i)) H) := by
  intro pins s σ H xs us Q I r h
  obtain ⟨i, rfl, hz, q⟩ := h
  obtain ⟨u, rfl, t, rfl⟩ := vals1 r
  exact PySem.P.str_of_int hz ⟨.str _, H, I.tok _, ⟨_, rfl⟩, q⟩
end
end L2

namespace L2
open PySem PySem.Spec PyProof.Rows

/-! ### an instance, its attributes a map -/
structure ObjM (h : Heap) (x dx C : Addr) (mA : Str → Option Value) : Prop where
  obj : h.get? x = some (PySem.W.instObj C dx)
  ns : h.Ns1 dx mA
  ne : dx ≠ x

theorem lookIn_ns {h : Heap} {dx : Addr} {mA : Str → Option Value} (n : h.Ns1 dx mA) : ∃ od, h.get? dx = some od ∧ ∀ name, PySem.W.lookIn name od = some (mA name) := by
  obtain ⟨o, es, ep, ho, hd, hk, _, hm⟩ := n
  refine ⟨o, ho, fun name => ?_⟩
  have e := hm name
  unfold nsFind findBy at e
  rw [← Array.find?_toList] at e
  unfold PySem.W.lookIn
  rw [hd]
  dsimp only
  split
  · rename_i y q
    rw [q] at e
    exact congrArg some e
  · rename_i q
    rw [q] at e
    have a : es.toList.any (·.refKey) = false := by
      rw [List.any_eq_false]
      intro y hy
      obtain ⟨z, t, hkey⟩ := hk y (Array.mem_toList_iff.mp hy)
      simp [DictEntry.refKey, hkey]
    have a' : ¬ es.toList.any (·.refKey) = true := by rw [a]; exact Bool.false_ne_true
    rw [if_neg a']
    exact congrArg some e

theorem ObjM.look {h : Heap} {x dx C : Addr} {mA : Str → Option Value} (I : ObjM h x dx C mA) : ∃ od, PySem.W.InstAt h x (PySem.W.instObj C dx) C (some od) ∧ ∀ name, PySem.W.lookIn name od = some (mA name) :=
  let ⟨od, ho, hl⟩ := lookIn_ns I.ns
  ⟨od, ⟨I.obj, rfl, rfl, ho⟩, hl⟩

section
variable {prog : Program} {w : World} {A : Around} {E : Value → Shared → Prop} {s : Shared} {K : PySem.W.Frag} {x dx C f : Addr} {mA : Str → Option Value} {name : Str} {v : Value}

theorem get_map {expr : Bool} {Q : Value → Shared → Prop} (X : K.In s.heap) (I : ObjM s.heap x dx C mA) (hg : PySem.W.plainGet K C name = true) (hh : PySem.W.hasDictIn K C = true)
    (ha : PySem.W.findIn K (.ref C) name = some none) (hv : mA name = some v) (hv' : PySem.W.handedIn v = true) (h : Q v { s with toks := s.toks + 1 }) :
    wpAny (model prog w) A (getAttr (.ref x) name expr) Q E s := by
  obtain ⟨od, J, hl⟩ := I.look
  exact PySem.W.get_value X J (PySem.W.plainGet_of hg).1 (PySem.W.findObj_own hh ha rfl (by rw [hl, hv])) hv' h

theorem get_meth {pl : Sem Bool} {Q : Value × List Value → Shared → Prop} (X : K.In s.heap) (I : ObjM s.heap x dx C mA) (hg : PySem.W.plainGet K C name = true)
    (hf : PySem.W.findIn K (.ref C) name = some (some (.ref f))) (ht : PySem.W.isFn K (.ref f) = true) (hv : mA name = none) (h : Q (.ref f, [.ref x]) s) :
    wpAny (model prog w) A (getMethod (.ref x) name pl) Q E s := by
  obtain ⟨od, J, hl⟩ := I.look
  exact PySem.W.method_fn X J (PySem.W.plainGet_of hg).1 (PySem.W.plainGet_of hg).2 hf (beq_iff_eq.mp ht) (by show (PySem.W.lookIn name od).map (·.isSome) = some false; rw [hl, hv]; rfl) h

theorem set_map {ns : List Str} {Q : Unit → Shared → Prop} (X : K.In s.heap) (I : ObjM s.heap x dx C mA)
    (hs : PySem.W.findIn K (.ref C) "__setattr__" = some (some (.builtin "object.__setattr__"))) (hp : PySem.W.plainOver K C = true) (ht : PySem.W.takerIn K C name = some none) (hh : PySem.W.hasDictIn K C = true)
    (hw : PySem.Within mA ns) (hsz : ns.length ≤ sizeLine)
    (h : ∀ h', ObjM h' x dx C (fun y => if y = name then some v else mA y) → Heap.SameBut dx s.heap h' → Q () { s with heap := h', toks := s.toks + 2 }) :
    wpAny (model prog w) A (setAttr (.ref x) name v) Q E s := by
  obtain ⟨od, J, hl⟩ := I.look
  refine PySem.W.set_plain X J hs (PySem.W.osa_open (s := { s with toks := s.toks + 1 }) (r := none) X J hp ht fun b => ?_)
  obtain ⟨cd, hc, hd'⟩ := PySem.W.any_some hh
  have hx : s.heap.get? x = some ⟨.ref C, some dx, .plain, #[]⟩ := I.obj
  refine wpAny_bind (wpAny_pure (wpAny_bind (wpAny_bind (wpAny_loadPart hx (wpAny_bind (PySem.W.Looks.here (s := { s with toks := s.toks + 1 }) (PySem.W.looks_clsIn X hc) ?_))))))
  rw [hd']
  refine wpAny_pure (a := some dx) (wpAny_bind (wpAny_pure (wpAny_bind ?_)))
  refine wpAny_nsSet1 (s := { s with toks := s.toks + 1 }) I.ns fun h' hn2 hs2 => ?_
  obtain ⟨oD, esD, epD, hoD, hdD, hcD⟩ := hn2.count (PySem.Within.cons name v hw)
  refine wpAny_bind (wpAny_lookBehind hoD (by rw [hdD]; exact pastItsLine_dict (Nat.le_trans hcD (by rw [List.length_cons]; omega))) ?_)
  exact wpAny_pure (h _ ⟨(hs2.2 _ (Ne.symm I.ne)).trans I.obj, hn2, I.ne⟩ hs2)

/-- C(..): the dict at the heap's end, the instance behind it; then its __init__ -/
theorem make_map {R : Result → Shared → Prop} {vs : List Value} {kw : List (Str × Value)} (X : K.In s.heap) (hm : PySem.W.makesIn K C = true)
    (hi : PySem.W.findIn K (.ref C) "__init__" = some (some (.ref f))) (hf : PySem.W.typeIn K (.ref f) = some (.type "function"))
    (h : codeAny (model prog w) (A.under (.builtin "type.__call__" ⟨.ref C :: vs, kw⟩)) (.call (.ref f) ⟨.ref (s.heap.objs.size + 1) :: vs, kw⟩) (PySem.W.InitBack (s.heap.objs.size + 1) R)
      { s with heap := (s.heap.push PySem.W.emptyDict).push (PySem.W.instObj C s.heap.objs.size) }) :
    codeAny (model prog w) A (.call (.ref C) ⟨vs, kw⟩) R s := by
  obtain ⟨hh, g, d, t, os⟩ := s
  exact PySem.W.make_core (PySem.W.makes_of X hm) (PySem.W.looks_findIn X hi) (fun self => PySem.W.bind_fn X self hf) (.inl rfl) h
end

/-! ### the attributes as a list of pairs -/
def putF (f : Str) (v : V) : List (Str × V) → List (Str × V)
  | [] => [(f, v)]
  | (g, x) :: r => if g = f then (g, v) :: r else (g, x) :: putF f v r
theorem lookup_putF (f g : Str) (v : V) : ∀ fs : List (Str × V), (putF f v fs).lookup g = if g = f then some v else fs.lookup g
  | [] => by
    show List.lookup g [(f, v)] = _
    by_cases h : g = f
    · have hb : (g == f) = true := beq_iff_eq.mpr h
      simp only [List.lookup, hb, if_pos h]
    · have hb : (g == f) = false := beq_eq_false_iff_ne.mpr h
      simp only [List.lookup, hb, if_neg h]
  | (k, x) :: r => by
    have ih := lookup_putF f g v r
    rw [show putF f v ((k, x) :: r) = (if k = f then (k, v) :: r else (k, x) :: putF f v r) from rfl]
    by_cases hk : k = f
    · rw [if_pos hk]
      by_cases h : g = k
      · have hb : (g == k) = true := beq_iff_eq.mpr h
        simp only [List.lookup, hb, if_pos (h.trans hk)]
      · have hb : (g == k) = false := beq_eq_false_iff_ne.mpr h
        simp only [List.lookup, hb, if_neg (fun e : g = f => h (e.trans hk.symm))]
    · rw [if_neg hk]
      by_cases h : g = k
      · have hb : (g == k) = true := beq_iff_eq.mpr h
        simp only [List.lookup, hb, if_neg (fun e : g = f => hk (h.symm.trans e))]
      · have hb : (g == k) = false := beq_eq_false_iff_ne.mpr h
        simp only [List.lookup, hb]
        exact ih
theorem keys_putF (f : Str) (v : V) : ∀ fs : List (Str × V), f ∈ (putF f v fs).map (·.1) ∧ ∀ g, g ∈ fs.map (·.1) → g ∈ (putF f v fs).map (·.1)
  | [] => ⟨by simp [putF], fun g h => by simp at h⟩
  | (k, x) :: r => by
    obtain ⟨i1, i2⟩ := keys_putF f v r
    rw [show putF f v ((k, x) :: r) = (if k = f then (k, v) :: r else (k, x) :: putF f v r) from rfl]
    by_cases hk : k = f
    · rw [if_pos hk]
      subst hk
      exact ⟨by simp, fun g h => by simpa using h⟩
    · rw [if_neg hk]
      refine ⟨?_, fun g h => ?_⟩
      · rw [List.map_cons]
        exact List.mem_cons_of_mem _ i1
      · rw [List.map_cons] at h ⊢
        rcases List.mem_cons.mp h with e | e
        · exact List.mem_cons.mpr (.inl e)
        · exact List.mem_cons_of_mem _ (i2 g e)
theorem length_putF (f : Str) (v : V) : ∀ fs : List (Str × V), (putF f v fs).length ≤ fs.length + 1
  | [] => by simp [putF]
  | (k, x) :: r => by
    have ih := length_putF f v r
    rw [show putF f v ((k, x) :: r) = (if k = f then (k, v) :: r else (k, x) :: putF f v r) from rfl]
    by_cases hk : k = f
    · rw [if_pos hk, List.length_cons, List.length_cons]; omega
    · rw [if_neg hk, List.length_cons, List.length_cons]; omega

theorem RelO.some_of {v : V} {o : Option Value} (r : RelO (some v) o) : ∃ u, o = some u ∧ RelV v u := by
  cases o with
  | none => exact (show False from r).elim
  | some u => exact ⟨u, rfl, r⟩
theorem RelO.none_of {o : Option Value} (r : RelO none o) : o = none := by
  cases o with
  | none => rfl
  | some u => exact (show False from r).elim
theorem handed_of {v : V} {u : Value} (r : RelV v u) : PySem.W.handedIn u = true := by
  cases v with
  | non => cases (show u = Value.none from r); rfl
  | bl b => cases (show u = Value.bool b from r); rfl
  | int i => obtain ⟨t, e⟩ := (show ∃ t, u = Value.int i t from r); cases e; rfl
  | str x => obtain ⟨t, e⟩ := (show ∃ t, u = Value.str x t from r); cases e; rfl
  | byt b => obtain ⟨t, e⟩ := (show ∃ t, u = Value.bytes b t from r); cases e; rfl
  | flt b => obtain ⟨t, e⟩ := (show ∃ t, u = Value.float b t from r); cases e; rfl
  | ref a => cases (show u = Value.ref a from r); rfl
  | ty n => cases (show u = Value.type n from r); rfl

section
variable {P : Program} {w : World} {H H' : Hp} {h h' : Heap} {a C dx : Addr} {fs fs' : List (Str × V)}
theorem ins_get (hok : HOk P w H h) (e : H a = some (.ins C dx fs)) : ∃ mA, ObjM h a dx C mA ∧ (∀ f, RelO (fs.lookup f) (mA f)) ∧ PySem.Within mA (fs.map (·.1)) ∧ fs.length ≤ 1000 ∧ H dx = some (.own a) := by
  obtain ⟨d, z, ne, ob, mA, n, r, q⟩ := (show ObjOk P w H h a (.ins C dx fs) from hok a _ e)
  exact ⟨mA, ⟨ob, n, ne⟩, r, q, z, d⟩
end

/-! ### what of the text a class must have -/
structure Cls (K : PySem.W.Frag) (C : Addr) : Prop where
  pg : PySem.W.plainGet K C Str.empty = true
  hd : PySem.W.hasDictIn K C = true
  po : PySem.W.plainOver K C = true
  sa : PySem.W.findIn K (.ref C) "__setattr__" = some (some (.builtin "object.__setattr__"))
theorem Cls.get {K : PySem.W.Frag} {C : Addr} (c : Cls K C) (f : Str) : PySem.W.plainGet K C f = true := c.pg
/-- no class of it has the name -/
def NoAttr (K : PySem.W.Frag) (C : Addr) (f : Str) : Prop := PySem.W.findIn K (.ref C) f = some none
theorem NoAttr.taker {K : PySem.W.Frag} {C : Addr} {f : Str} (n : NoAttr K C f) : PySem.W.takerIn K C f = some none := by
  unfold PySem.W.takerIn
  rw [show PySem.W.findIn K (.ref C) f = some none from n]
  rfl
/-- a method: a plain def of the class or of one above it -/
structure Meth (K : PySem.W.Frag) (C : Addr) (m : Str) (f : Addr) : Prop where
  at_ : PySem.W.findIn K (.ref C) m = some (some (.ref f))
  fn : PySem.W.isFn K (.ref f) = true
  kp : PySem.W.keepIn K (.ref f) = true

section
variable {X : Cx} {pins : List (Addr × Obj)} {σ : St} {H : Hp} {s : Shared} {a C dx : Addr} {fs : List (Str × V)} {f : Str} {v : V} {A : Around} {E : Value → Shared → Prop}

theorem getattr_ok {b : Bool} {Q : Value → Shared → Prop} (I : Inv X pins σ H s) (e : H a = some (.ins C dx fs)) (c : Cls X.K C) (n : NoAttr X.K C f) (l : fs.lookup f = some v)
    (h : ∀ u s', Inv X pins σ H s' → RelV v u → Q u s') : wpAny (model X.prog X.w) A (getAttr (.ref a) f b) Q E s := by
  obtain ⟨mA, O, r, _, _, _⟩ := ins_get I.hok e
  obtain ⟨u, hu, ru⟩ := RelO.some_of (v := v) (o := mA f) (by rw [← l]; exact r f)
  exact get_map I.kIn O (c.get f) c.hd n hu (handed_of ru) (h u _ (I.tok _) ru)

theorem getmeth_ok {m : Str} {g : Addr} {pl : Sem Bool} {Q : Value × List Value → Shared → Prop} (I : Inv X pins σ H s) (e : H a = some (.ins C dx fs)) (c : Cls X.K C) (k : Meth X.K C m g) (l : fs.lookup m = none)
    (h : Q (.ref g, [.ref a]) s) : wpAny (model X.prog X.w) A (getMethod (.ref a) m pl) Q E s := by
  obtain ⟨mA, O, r, _, _, _⟩ := ins_get I.hok e
  have hn : mA m = none := RelO.none_of (by rw [← l]; exact r m)
  exact get_meth I.kIn O (c.get m) k.at_ k.fn hn h

theorem setattr_ok {y : V} {u : Value} {Q : Unit → Shared → Prop} (I : Inv X pins σ H s) (e : H a = some (.ins C dx fs)) (c : Cls X.K C) (n : NoAttr X.K C f) (hl : fs.length < 1000) (ry : RelV y u)
    (h : ∀ s', Inv X pins σ (upd H a (.ins C dx (putF f y fs))) s' → Q () s') : wpAny (model X.prog X.w) A (setAttr (.ref a) f u) Q E s := by
  obtain ⟨mA, O, r, wi, _, ho⟩ := ins_get I.hok e
  have hz : (fs.map (·.1)).length ≤ sizeLine := by rw [List.length_map, sizeLine_eq]; omega
  refine set_map I.kIn O c.sa c.po n.taker c.hd wi hz fun h' O' sb => h _ ?_
  have hd : ∃ o, h'.get? dx = some o := let ⟨o, _, _, e', _⟩ := O'.ns; ⟨o, e'⟩
  refine I.write (x := a) (e := dx) (by rw [e]; exact True.intro) (.inr ho) (fun b q hb z => (sb.2 b hb).trans z) hd ?_
  refine ⟨by rw [upd_ne O.ne]; exact ho, ?_, O.ne, O'.obj, _, O'.ns, fun g => ?_, fun g hg => ?_⟩
  · have := length_putF f y fs; omega
  · show RelO ((putF f y fs).lookup g) (if g = f then some u else mA g)
    rw [lookup_putF]
    by_cases q : g = f
    · rw [if_pos q, if_pos q]; exact ry
    · rw [if_neg q, if_neg q]; exact r g
  · by_cases q : g = f
    · rw [q]; exact (keys_putF f y fs).1
    · refine (keys_putF f y fs).2 g (wi g fun z => hg ?_)
      show (if g = f then some u else mA g) = none
      rw [if_neg q]; exact z

/-- a new instance, tracked, without attributes -/
theorem Inv.made (I : Inv X pins σ H s) : Inv X pins σ (upd (upd H s.heap.objs.size (.own (s.heap.objs.size + 1))) (s.heap.objs.size + 1) (.ins C s.heap.objs.size []))
    { s with heap := (s.heap.push PySem.W.emptyDict).push (PySem.W.instObj C s.heap.objs.size) } := by
  have e1 : (s.heap.push PySem.W.emptyDict).get? s.heap.objs.size = some PySem.W.emptyDict := Heap.get?_push_size s.heap rfl
  have e2 : ((s.heap.push PySem.W.emptyDict).push (PySem.W.instObj C s.heap.objs.size)).get? (s.heap.objs.size + 1) = some (PySem.W.instObj C s.heap.objs.size) := by
    have := Heap.get?_push_size (s.heap.push PySem.W.emptyDict) (o := PySem.W.instObj C s.heap.objs.size) rfl
    rwa [Heap.size_push] at this
  have e3 : (s.heap.push PySem.W.emptyDict).Ns s.heap.objs.size (fun _ => none) := ⟨PySem.W.emptyDict, #[], _, e1, rfl, (fun e he => absurd he (by simp)), fun _ => rfl⟩
  have I1 := I.laid (a := s.heap.objs.size) (o := .own (s.heap.objs.size + 1)) (h' := s.heap.push PySem.W.emptyDict) (t' := s.toks) (fun b u q => Heap.get?_push_of_some _ q) (Nat.le_refl _) ⟨_, e1⟩
  refine I1.laid (a := s.heap.objs.size + 1) (o := .ins C s.heap.objs.size []) (t' := s.toks) (fun b u q => Heap.get?_push_of_some _ q) (Nat.le_of_eq (Heap.size_push _ _)) ?_
  have ne : s.heap.objs.size ≠ s.heap.objs.size + 1 := Nat.ne_of_lt (Nat.lt_succ_self _)
  refine ⟨by rw [upd_ne ne, upd_same], Nat.zero_le _, ne, e2, fun _ => none, (Heap.Ns1.of_empty e3).at fun o q => Heap.get?_push_of_some _ q, fun _ => True.intro, fun y hy => absurd rfl hy⟩

/-- e.f where nothing but the object is asked: through attributeBase (super) and the last hold -/
theorem attr_of {prog : Program} {w : World} {env : Env} {e : Expr} {f : Str} {pos : Pos} {s : Shared} {Q : Value → Shared → Prop} (hb : attributeBase e f env (eval e env) = eval e env)
    (h : wpAny (model prog w) A (eval e env) (fun o s₁ => wpAny (model prog w) A (getAttr o f true) Q E s₁) E s) : wpAny (model prog w) A (eval (.Attribute e f pos) env) Q E s :=
  Attribute_any_ h (by rw [arm_eval_Attribute, hb])
end

/-! ### readings and rules -/
/-- e.f, an attribute of the instance -/
def tFld (K : PySem.W.Frag) (ta : TE) (f : Str) : TE := fun σ H Q => ta σ H fun x H1 => ∃ a C dx fs v, x = .ref a ∧ H1 a = some (.ins C dx fs) ∧ Cls K C ∧ NoAttr K C f ∧ fs.lookup f = some v ∧ Q v H1
/-- e.f = value -/
def sFld (K : PySem.W.Frag) (ta tv : TE) (f : Str) : TS := fun D σ H => tv σ H fun y H1 => ta σ H1 fun x H2 => ∃ a C dx fs, x = .ref a ∧ H2 a = some (.ins C dx fs) ∧ Cls K C ∧ NoAttr K C f ∧ fs.length < 1000 ∧
  D.nx σ (upd H2 a (.ins C dx (putF f y fs)))
/-- an augmented operator on two values -/
def InOp (X : Cx) (op : Operator) (rd : V → V → Hp → VK → Prop) : Prop :=
  ∀ (pins : List (Addr × Obj)) (s : Shared) (σ : St) (H : Hp) (x y : V) (u v : Value) (Q : VK), Inv X pins σ H s → RelV x u → RelV y v → rd x y H Q → wpAny (model X.prog X.w) X.A (inplaceOp op u v) (EP X pins σ Q) X.xe s
/-- e.f op= value -/
def sFldAug (K : PySem.W.Frag) (ta tv : TE) (rd : V → V → Hp → VK → Prop) (f : Str) : TS := fun D σ H => ta σ H fun x H1 => ∃ a C dx fs v, x = .ref a ∧ H1 a = some (.ins C dx fs) ∧ Cls K C ∧ NoAttr K C f ∧ fs.lookup f = some v ∧
  tv σ H1 fun y H2 => rd v y H2 fun z H3 => ∃ dx' fs', H3 a = some (.ins C dx' fs') ∧ fs'.length < 1000 ∧ D.nx σ (upd H3 a (.ins C dx' (putF f z fs')))

section
variable {X : Cx} {o e value : Expr} {f : Str} {pos pos' tpos : Pos} {ta tv : TE}
theorem pe_fld (he : PE X e ta) (hb : attributeBase e f X.env (eval e X.env) = eval e X.env) : PE X (.Attribute e f pos) (tFld X.K ta f) := by
  intro pins s σ H Q I h
  refine attr_of hb (thn (he pins s σ H _ I h) fun u s1 ⟨x, H1, I1, rx, a, C, dx, fs, v, ex, ea, c, n, l, q⟩ => ?_)
  subst ex
  obtain rfl : u = Value.ref a := rx
  exact getattr_ok I1 ea c n l fun u' s2 I2 ru => ⟨v, H1, I2, ru, q⟩
theorem ps_fld (ha : PE X o ta) (hv : PE X value tv) (hs : swapsWith value (some (.Attribute o f pos')) pos.line X.env = pure false) : PS X (.Assign [.Attribute o f pos'] value pos) (sFld X.K ta tv f) := by
  intro pins s σ H D I h
  refine plainObj_wpAny_Assign_Attribute (thn (hv pins s σ H _ I h) fun u s1 ⟨y, H1, I1, ry, q⟩ => thn (ha pins s1 σ H1 _ I1 q) fun ov s2 ⟨x, H2, I2, rx, a, C, dx, fs, ex, ea, c, n, l, q2⟩ => ?_) hs
  subst ex
  obtain rfl : ov = Value.ref a := rx
  exact setattr_ok I2 ea c n l ry fun s3 I3 => ⟨σ, _, I3, q2⟩
theorem ps_fldaug {op : Operator} {rd : V → V → Hp → VK → Prop} (ha : PE X o ta) (hv : PE X value tv) (hop : InOp X op rd) : PS X (.AugAssign (.Attribute o f tpos) op value pos) (sFldAug X.K ta tv rd f) := by
  intro pins s σ H D I h
  refine wpAny_AugAssign_AttributeAny (thn (ha pins s σ H _ I h) fun ov s1 ⟨x, H1, I1, rx, a, C, dx, fs, v, ex, ea, c, n, l, q⟩ => ?_)
  subst ex
  obtain rfl : ov = Value.ref a := rx
  refine getattr_ok I1 ea c n l fun u s2 I2 ru => thn (hv pins s2 σ H1 _ I2 q) fun w3 s3 ⟨y, H2, I3, ry, q3⟩ => thn (hop pins s3 σ H2 v y u w3 _ I3 ru ry q3) fun w4 s4 ⟨z, H3, I4, rz, dx', fs', ea', l', q4⟩ => ?_
  exact setattr_ok I4 ea' c n l' rz fun s5 I5 => ⟨σ, _, I5, q4⟩
def rAdd : V → V → Hp → VK → Prop := fun x y H Q => ∃ i j, x = .int i ∧ y = .int j ∧ Q (.int (i + j)) H
theorem in_add : InOp X .Add rAdd := by
  rintro pins s σ H x y u v Q I rx ry ⟨i, j, rfl, rfl, q⟩
  obtain ⟨t, rfl⟩ := (show ∃ t, u = Value.int i t from rx)
  obtain ⟨t', rfl⟩ := (show ∃ t', v = Value.int j t' from ry)
  exact PyProof.Rows.iadd_int ⟨.int (i + j), H, I.tok _, ⟨_, rfl⟩, q⟩
end

/-! ### isinstance -/
section
variable {X : Cx} {pins : List (Addr × Obj)} {σ : St} {H : Hp} {s : Shared} {A : Around} {E : Value → Shared → Prop} {Q : Value → Shared → Prop} {c : Value} {b : Bool}
/-- the type of a value, as the fragment's deciders take it; for an instance its class -/
inductive TyOf (K : PySem.W.Frag) (H : Hp) : V → Value → Prop where
  | non : TyOf K H .non (.type "NoneType")
  | bl (x : Bool) : TyOf K H (.bl x) (.type "bool")
  | int (i : Int) : TyOf K H (.int i) (.type "int")
  | str (x : Str) : TyOf K H (.str x) (.type "str")
  | flt (x : UInt64) : TyOf K H (.flt x) (.type "float")
  | lst {a : Addr} {xs : List V} (e : H a = some (.lst xs)) : TyOf K H (.ref a) (.type "list")
  | frz {a : Addr} {o : Obj} {xs : List V} (e : H a = some (.frz o (.lst xs))) : TyOf K H (.ref a) (.type "list")
  | tup {a : Addr} {xs : List V} (e : H a = some (.tup xs)) : TyOf K H (.ref a) (.type "tuple")
  | dK {a : Addr} {kvs : List (Key × V)} (e : H a = some (.dK kvs)) : TyOf K H (.ref a) (.type "dict")
  | dT {a : Addr} {kvs : List (List Key × V)} (e : H a = some (.dT kvs)) : TyOf K H (.ref a) (.type "dict")
  | ins {a C dx : Addr} {fs : List (Str × V)} (e : H a = some (.ins C dx fs)) (cl : Cls K C) (ha : PySem.W.findIn K (.ref C) "__class__" = some (some (.builtin "object.__class__")))
      (hn : PySem.W.specialIn K (.builtin "object.__class__") "__get__" = some (some (.builtin "getset_descriptor.__get__"))) (htk : PySem.W.takesIn K (.builtin "object.__class__") = some true)
      (hm : PySem.W.mroIn K C (.type "object") = some true) : TyOf K H (.ref a) (.ref C)
/-- isinstance(x, c) for one class c, a built-in or an own one: kitOne's answer -/
theorem isinst_ok {x : V} {u t : Value} (I : Inv X pins σ H s) (rx : RelV x u) (ty : TyOf X.K H x t) (e : PySem.W.kitOne X.K t c = some b) (h : ∀ tk, Q (.bool b) { s with toks := tk }) :
    wpAny (model X.prog X.w) A (call (.builtin "isinstance") [u, c]) Q E s := by
  cases ty with
  | non => cases (show u = Value.none from rx); exact PySem.W.kia_one PySem.W.kitx_none I.kIn True.intro e (fun z => nomatch z) h
  | bl y => cases (show u = Value.bool y from rx); exact PySem.W.kia_one PySem.W.kitx_bool I.kIn True.intro e (fun z => nomatch z) h
  | int i => obtain ⟨t, q⟩ := (show ∃ t, u = Value.int i t from rx); cases q; exact PySem.W.kia_one PySem.W.kitx_int I.kIn True.intro e (fun z => nomatch z) h
  | str y => obtain ⟨t, q⟩ := (show ∃ t, u = Value.str y t from rx); cases q; exact PySem.W.kia_one PySem.W.kitx_str I.kIn True.intro e (fun z => nomatch z) h
  | flt y => obtain ⟨t, q⟩ := (show ∃ t, u = Value.float y t from rx); cases q; exact PySem.W.kia_one PySem.W.kitx_float I.kIn True.intro e (fun z => nomatch z) h
  | @lst a xs ea =>
    cases (show u = Value.ref a from rx)
    obtain ⟨_, _, n, _, h1⟩ := (show ObjOk X.prog X.w H s.heap a (.lst xs) from I.hok a _ ea)
    exact PySem.W.kia_one PySem.W.kitx_list I.kIn ⟨_, h1, rfl⟩ e (fun z => nomatch z) h
  | @frz a ob xs ea =>
    cases (show u = Value.ref a from rx)
    obtain ⟨_, _, _, n, _, h1⟩ := (show ObjOk X.prog X.w H s.heap a (.frz ob (.lst xs)) from I.hok a _ ea)
    exact PySem.W.kia_one PySem.W.kitx_list I.kIn ⟨_, h1, rfl⟩ e (fun z => nomatch z) h
  | @tup a xs ea =>
    cases (show u = Value.ref a from rx)
    obtain ⟨_, _, _, p⟩ := (show ObjOk X.prog X.w H s.heap a (.tup xs) from I.hok a _ ea)
    obtain ⟨o, h1, h2, _⟩ := p
    exact PySem.W.kia_one PySem.W.kitx_tuple I.kIn ⟨o, h1, h2⟩ e (fun z => nomatch z) h
  | @dK a kvs ea =>
    cases (show u = Value.ref a from rx)
    obtain ⟨_, _, vs, _, p⟩ := (show ObjOk X.prog X.w H s.heap a (.dK kvs) from I.hok a _ ea)
    obtain ⟨o, es, ep, h1, h2, _⟩ := p
    exact PySem.W.kia_one PySem.W.kitx_dict I.kIn ⟨o, h1, h2.1⟩ e (fun z => nomatch z) h
  | @dT a kvs ea =>
    cases (show u = Value.ref a from rx)
    obtain ⟨_, _, xs, _, o, es, ep, h1, h2, _⟩ := (show ObjOk X.prog X.w H s.heap a (.dT kvs) from I.hok a _ ea)
    exact PySem.W.kia_one PySem.W.kitx_dict I.kIn ⟨o, h1, h2.1⟩ e (fun z => nomatch z) h
  | @ins a C dx fs ea cl ha hn htk hm =>
    cases (show u = Value.ref a from rx)
    obtain ⟨mA, O, _⟩ := ins_get I.hok ea
    obtain ⟨od, J, _⟩ := O.look
    exact PySem.W.kia_one (PySem.W.kitx_own (cl.get _) cl.hd ha hn htk hm) I.kIn J e (fun z => nomatch z) h
end
end L2

namespace L2
open PySem PySem.Spec PyProof.Rows

/-! ### room -/
structure Room (k : Nat) (A : Around) : Prop where
  hd : A.handled = none
  dp : A.depth + 3 * k + 5 < recursionLimit
  un : A.units + 16 * k + 200 < cLine
theorem Room.mono {j k : Nat} {A : Around} (r : Room k A) (h : j ≤ k) : Room j A := ⟨r.hd, by have := r.dp; omega, by have := r.un; omega⟩
theorem Room.deeper {k : Nat} {A : Around} (r : Room (k + 1) A) (env : Env) : Room k (A.deeper env) :=
  ⟨r.hd, by have := r.dp; show A.depth + 1 + 3 * k + 5 < _; omega, by have := r.un; show A.units + 3 + 16 * k + 200 < _; omega⟩
theorem make_depth {A : Around} {C : Addr} {us : List Value} {kw : List (Str × Value)} : (A.under (.builtin "type.__call__" ⟨.ref C :: us, kw⟩)).depth = A.depth + 1 := by
  first | rfl | simp [Around.under, Code.weight, Code.isCreation, Code.isGuard, Code.isCaller, Code.frames, Code.isFrame, guardIds]
theorem make_units {A : Around} {C : Addr} {us : List Value} {kw : List (Str × Value)} : (A.under (.builtin "type.__call__" ⟨.ref C :: us, kw⟩)).units = A.units + 1 := by
  first | rfl | simp [Around.under, Code.cUnits, Code.frames, Code.isFrame]
theorem Room.make {k : Nat} {A : Around} (r : Room (k + 1) A) (C : Addr) (us : List Value) (kw : List (Str × Value)) : Room k (A.under (.builtin "type.__call__" ⟨.ref C :: us, kw⟩)) :=
  ⟨r.hd, by have := r.dp; rw [make_depth]; omega, by have := r.un; rw [make_units]; omega⟩
theorem Room.depth {k : Nat} {A : Around} (r : Room k A) : A.depth < recursionLimit := by have := r.dp; omega
/-! ### argument lists and displays -/
def tNil : TA := fun _ H Q => Q [] H
def tCons (ta : TE) (tr : TA) : TA := fun σ H Q => ta σ H fun x H1 => tr σ H1 fun xs H2 => Q (x :: xs) H2
section
variable {X : Cx} {e : Expr} {es : List Expr} {te : TE} {t : TA} {pos : Pos}
theorem pa_nil : PA X [] tNil := fun _ _ _ _ H Q I h => Calls.spliced_nil ⟨[], H, I, .nil, h⟩
theorem pa_cons (ha : PE X e te) (hr : PA X es t) (hs : starEach (e :: es) X.env = (false, eval e X.env) :: starEach es X.env := by rfl) : PA X (e :: es) (tCons te t) := by
  intro pos pins s σ H Q I h
  rw [hs]
  show wpAny _ _ (spliced ((false, eval e X.env) :: backTo pos (starEach es X.env))) _ _ s
  refine Calls.spliced_cons (thn (ha pins s σ H _ I h) fun u s1 ⟨x, H1, I1, r1, q1⟩ => ?_)
  exact thn (hr pos pins s1 σ H1 _ I1 q1) fun us s2 ⟨xs, H2, I2, r2, q2⟩ => ⟨x :: xs, H2, I2, .cons r1 r2, q2⟩

/-- a tuple, a list of written items -/
def tTup (t : TA) : TE := fun σ H Q => t σ H fun xs H1 => xs.length ≤ sizeLine ∧ ∀ p, H1 p = none → Q (.ref p) (upd H1 p (.tup xs))
def tLst (t : TA) : TE := fun σ H Q => t σ H fun xs H1 => xs.length ≤ sizeLine ∧ ∀ p, H1 p = none → Q (.ref p) (upd H1 p (.lst xs))
theorem pe_tup {x1} (h : PA X es t) : PE X (.Tuple es x1 pos) (tTup t) := by
  intro pins s σ H Q I hq
  refine wpAny_Tuple_spliced (thn (h pos pins s σ H _ I hq) fun us s1 ⟨xs, H1, I1, r, z, q⟩ => ⟨by rw [← r.length]; exact z, ?_⟩)
  have hf : H1 s1.heap.objs.size = none := I1.hok.fresh (Nat.le_refl _)
  refine ⟨.ref s1.heap.objs.size, upd H1 s1.heap.objs.size (.tup xs), I1.laid (t' := s1.toks) (fun b u e => Heap.get?_push_of_some _ e) (Nat.le_refl _) ?_, rfl, q _ hf⟩
  exact ⟨z, us, r, ⟨_, Heap.get?_push_size _ rfl, rfl, _, rfl⟩⟩
theorem pe_lst (h : PA X es t) : PE X (.List es pos) (tLst t) := by
  intro pins s σ H Q I hq
  refine wpAny_List_spliced (thn (h pos pins s σ H _ I hq) fun us s1 ⟨xs, H1, I1, r, z, q⟩ => ⟨by rw [← r.length]; exact z, ?_⟩)
  have hf : H1 s1.heap.objs.size = none := I1.hok.fresh (Nat.le_refl _)
  refine ⟨.ref s1.heap.objs.size, upd H1 s1.heap.objs.size (.lst xs), I1.laid (t' := s1.toks) (fun b u e => Heap.get?_push_of_some _ e) (Nat.le_refl _) ?_, rfl, q _ hf⟩
  exact ⟨z, us, 0, r, Heap.get?_push_size _ rfl⟩
end

/-! ### what a def promises -/
/-- a def's promise: the bound arguments in the parameters' order, the heap, the wanted end, the wanted exception -/
abbrev Sp := List V → Hp → VK → XK → Prop
/-- how an exception lies behind a call (file 08 gives it): the callers' frames, abstract heap and state ahead of the call, the wish, the exception, the state -/
abbrev CXT := List Env → Hp → Shared → XK → Value → Shared → Prop

/-- the state at a call -/
structure Env0 (P : Program) (w : World) (K : PySem.W.Frag) (mg : Str → Option Value) (base : Heap) (A : Around) (outer : List Env) (s : Shared) (H : Hp) : Prop where
  frames : A.frames = some outer
  mod : Mod K mg base
  bs : ∀ b o, base.get? b = some o → s.heap.get? b = some o ∧ H b = none
  bsz : base.objs.size ≤ s.heap.objs.size
  funs : s.heap.FunFrames base outer
  frf : ∀ b ∈ frs outer, H b = none
  hok : HOk P w H s.heap
  bare : AllBare s.gens
/-- a call's end -/
def CE (outer : List Env) (P : Program) (w : World) (H : Hp) (s : Shared) (Q : VK) (u : Value) (s' : Shared) : Prop :=
  ∃ v H', s'.os = s.os ∧ AllBare s'.gens ∧ Un (frs outer) [] H H' s.heap s'.heap ∧ HOk P w H' s'.heap ∧ RelV v u ∧ Q v H'
def CR (CX : CXT) (outer : List Env) (P : Program) (w : World) (H : Hp) (s : Shared) (Q : VK) (E : XK) (r : Result) (s' : Shared) : Prop :=
  match r with
  | .ok (.ret u) => CE outer P w H s Q u s'
  | .ok _ => False
  | .error e => CX outer H s E e s'
structure FnOk (P : Program) (w : World) (K : PySem.W.Frag) (mg : Str → Option Value) (base : Heap) (CX : CXT) (k : Nat) (f : Addr) (fd : FuncData) (ps : List Str) (sp : Sp) : Prop where
  len : ∀ vs H Q E, sp vs H Q E → vs.length = ps.length
  run : ∀ (A : Around) (outer : List Env) (s : Shared) (H : Hp) (args : Args) (us : List Value) (vs : List V) (Q : VK) (E : XK), Room k A → Env0 P w K mg base A outer s H → BindsTo s fd args (ps.zip us) → Vals vs us → sp vs H Q E →
    codeAny (model P w) A (.call (.ref f) args) (CR CX outer P w H s Q E) s
theorem FnOk.mono {P : Program} {w : World} {K : PySem.W.Frag} {mg : Str → Option Value} {base : Heap} {CX : CXT} {j k : Nat} {f : Addr} {fd : FuncData} {ps : List Str} {sp : Sp} (F : FnOk P w K mg base CX j f fd ps sp) (h : j ≤ k) :
    FnOk P w K mg base CX k f fd ps sp := ⟨F.len, fun A outer s H args us vs Q E hr => F.run A outer s H args us vs Q E (hr.mono h)⟩
theorem Env0.make {P : Program} {w : World} {K : PySem.W.Frag} {mg : Str → Option Value} {base : Heap} {A : Around} {outer : List Env} {s : Shared} {H : Hp} (e : Env0 P w K mg base A outer s H) (C : Addr) (us : List Value) (kw : List (Str × Value)) :
    Env0 P w K mg base (A.under (.builtin "type.__call__" ⟨.ref C :: us, kw⟩)) outer s H := ⟨by first | exact e.frames | (simpa [Around.under, Code.envs, Code.isFrame, pushEnvs] using e.frames), e.mod, e.bs, e.bsz, e.funs, e.frf, e.hok, e.bare⟩
section
variable {X : Cx} {pins : List (Addr × Obj)} {σ : St} {H : Hp} {s s' : Shared}
/-- from a body: what a callee wants -/
theorem Inv.env0 (I : Inv X pins σ H s) : Env0 X.prog X.w X.K X.mg X.base X.A X.stack s H :=
  ⟨I.ok.frames, I.ok.mod, I.bs, Nat.le_trans I.ok.bsz I.sz, I.stack, I.stkFree, I.hok, I.bare⟩
/-- behind a call -/
theorem Inv.after {Q : VK} {u : Value} (I : Inv X pins σ H s) (h : CE X.stack X.prog X.w H s Q u s') : EP X pins σ Q u s' := by
  obtain ⟨v, H', os, bare, un, hok, r, q⟩ := h
  obtain ⟨hh, g, d, t, os'⟩ := s'
  obtain rfl : os' = s.os := os
  exact ⟨v, H', I.call (h' := hh) (g' := g) (d' := d) (t' := t) (ch := []) un hok bare (fun b z => absurd z (by simp)), r, q⟩
end

/-! ### calls -/
/-- f(..): the written arguments, then the defaults dvs; E: what is wanted of an exception -/
def tCall (sp : Sp) (dvs : List V) (E : XK) (t : TA) : TE := fun σ H Q => t σ H fun vs H1 => sp (vs ++ dvs) H1 Q E
/-- o.m(..) of an instance of the class at C -/
def tMeth (C : Addr) (m : Str) (sp : Sp) (dvs : List V) (E : XK) (ta : TE) (t : TA) : TE := fun σ H Q => ta σ H fun x H1 => ∃ a dx fs, x = .ref a ∧ H1 a = some (.ins C dx fs) ∧ fs.lookup m = none ∧
  t σ H1 fun vs H2 => sp (x :: (vs ++ dvs)) H2 Q E
/-- C(..): a new instance and its dict, then __init__ -/
def tMake (C : Addr) (sp : Sp) (dvs : List V) (E : XK) (t : TA) : TE := fun σ H Q => t σ H fun vs H1 => ∀ x dx, H1 x = none → H1 dx = none → dx ≠ x →
  sp (.ref x :: (vs ++ dvs)) (upd (upd H1 dx (.own x)) x (.ins C dx [])) (fun v H2 => v = .non ∧ Q (.ref x) H2) E

/-- how the parameters are bound: us the positional arguments, kw the keywords' values by name, ds the defaults that fill up -/
def Binds (K : PySem.W.Frag) (fd : FuncData) (ps : List Str) (ds : List Value) : Prop :=
  ∀ (s : Shared) (us : List Value), K.In s.heap → (us ++ ds).length = ps.length → BindsTo s fd ⟨us, []⟩ (ps.zip (us ++ ds))
/-- every parameter is given -/
theorem Binds.all {K : PySem.W.Frag} {fd : FuncData} {ps : List Str} (h : ∀ us : List Value, us.length = ps.length → bindArgs fd ⟨us, []⟩ = pure (ps.zip us)) : Binds K fd ps [] := fun s us _ hl => by
  rw [List.append_nil] at hl ⊢
  exact .of_eq (h us hl)

/-- an exception of a callee reaches what this body wants of exceptions -/
def Passes (CX : CXT) (X : Cx) (E : XK) : Prop := ∀ (pins : List (Addr × Obj)) (σ : St) (H : Hp) (s : Shared) (e : Value) (s' : Shared), Inv X pins σ H s → CX X.stack H s E e s' → X.xe e s'

section
variable {X : Cx} {CX : CXT} {k : Nat} {f C : Addr} {fd : FuncData} {ps : List Str} {sp : Sp} {dvs : List V} {ds : List Value} {E : XK} {x m : Str} {p pos apos : Pos} {e o : Expr} {es : List Expr} {ta : TE} {t : TA}

/-- the callee runs -/
theorem run_fn {pins : List (Addr × Obj)} {σ : St} {H : Hp} {s : Shared} {Q : VK} {us : List Value} {vs : List V} (F : FnOk X.prog X.w X.K X.mg X.base CX k f fd ps sp) (hr : Room k X.A) (hb : Binds X.K fd ps ds) (hd : Vals dvs ds) (hx : Passes CX X E)
    (I : Inv X pins σ H s) (r : Vals vs us) (h : sp (vs ++ dvs) H Q E) : wpAny (model X.prog X.w) X.A (call (.ref f) us) (EP X pins σ Q) X.xe s := by
  have r2 : Vals (vs ++ dvs) (us ++ ds) := r.append hd
  have hl : (us ++ ds).length = ps.length := by rw [← r2.length]; exact F.len _ _ _ _ h
  refine wpAny_call (codeAny_mono (F.run X.A X.stack s H ⟨us, []⟩ (us ++ ds) (vs ++ dvs) Q E hr I.env0 (hb s us I.kIn hl) r2 h) fun r s' hq => ?_)
  cases r with
  | error e => exact hx pins σ H s e s' I hq
  | ok fl =>
    cases fl with
    | ret u => exact I.after hq
    | next => exact False.elim hq
    | brk => exact False.elim hq
    | cont => exact False.elim hq

theorem pe_call (F : FnOk X.prog X.w X.K X.mg X.base CX k f fd ps sp) (hr : Room k X.A) (hg : Gl X x) (hm : X.mg x = some (.ref f)) (hk : PySem.W.keepIn X.K (.ref f) = true) (hb : Binds X.K fd ps ds) (hd : Vals dvs ds) (hx : Passes CX X E)
    (ha : PA X (e :: es) t) (hdb : (x == ("__debug__" : Str)) = false := by decide) (he : starEach (e :: es) X.env = (false, eval e X.env) :: starEach es X.env := by rfl) (hpl : (backTo pos (starEach es X.env)).any (·.1) = false := by rfl) :
    PE X (.Call (.Name x p) (e :: es) [] pos) (tCall sp dvs E t) := by
  intro pins s σ H Q I h
  refine wpAny_Call_Name_kw (ld_glob I hg hm ?_ hdb)
  refine PySem.W.callWith_K (h₀ := X.base) I.ok.mod.kin hk (thn (ha pos pins s σ H _ I h) fun us s1 ⟨vs, H1, I1, r, q⟩ => ⟨I1.kIn, ?_⟩) he hpl
  exact run_fn F hr hb hd hx I1 r q
/-- o.m(e, ..) -/
theorem pe_meth {pl : Sem Bool} (he : PE X o ta) (c : Cls X.K C) (hm : Meth X.K C m f) (F : FnOk X.prog X.w X.K X.mg X.base CX k f fd ps sp) (hr : Room k X.A) (hb : Binds X.K fd ps ds) (hd : Vals dvs ds) (hx : Passes CX X E) (ha : PA X (e :: es) t)
    (hst : starEach (e :: es) X.env = (false, eval e X.env) :: starEach es X.env := by rfl) (hpl : (backTo pos (starEach es X.env)).any (·.1) = false := by rfl)
    (ht : eval (.Call (.Attribute o m apos) (e :: es) [] pos) X.env = (do
      let ov ← eval o X.env
      standAt apos.atName
      let (f, first) ← holding [ov] (getMethod ov m pl)
      callWith pos f first (backTo pos (starEach (e :: es) X.env)) (backToKw pos (keywordEach [] X.env))) := by rfl) :
    PE X (.Call (.Attribute o m apos) (e :: es) [] pos) (tMeth C m sp dvs E ta t) := by
  intro pins s σ H Q I h
  refine PySem.W.methodCall_KW (pl := pl) (thn (he pins s σ H _ I h) fun u s1 ⟨x, H1, I1, rx, a, dx, fs, ex, ea, l, q⟩ => ?_) ht
  subst ex
  obtain rfl : u = Value.ref a := rx
  refine getmeth_ok I1 ea c hm l ?_
  refine PySem.W.callWith_K (first := [.ref a]) (h₀ := X.base) I.ok.mod.kin hm.kp (thn (ha pos pins s1 σ H1 _ I1 q) fun us s2 ⟨vs, H2, I2, r, q2⟩ => ⟨I2.kIn, ?_⟩) hst hpl
  exact run_fn (us := .ref a :: us) (vs := .ref a :: vs) F hr hb hd hx I2 (.cons rfl r) q2
/-- o.m() -/
theorem pe_meth0 {pl : Sem Bool} (he : PE X o ta) (c : Cls X.K C) (hm : Meth X.K C m f) (F : FnOk X.prog X.w X.K X.mg X.base CX k f fd ps sp) (hr : Room k X.A) (hb : Binds X.K fd ps ds) (hd : Vals dvs ds) (hx : Passes CX X E)
    (ht : eval (.Call (.Attribute o m apos) [] [] pos) X.env = (do
      let ov ← eval o X.env
      standAt apos.atName
      let (f, first) ← holding [ov] (getMethod ov m pl)
      callWith pos f first (backTo pos (starEach [] X.env)) (backToKw pos (keywordEach [] X.env))) := by rfl) :
    PE X (.Call (.Attribute o m apos) [] [] pos) (tMeth C m sp dvs E ta tNil) := by
  intro pins s σ H Q I h
  refine PySem.W.methodCall_KW (pl := pl) (thn (he pins s σ H _ I h) fun u s1 ⟨x, H1, I1, rx, a, dx, fs, ex, ea, l, q⟩ => ?_) ht
  subst ex
  obtain rfl : u = Value.ref a := rx
  refine getmeth_ok I1 ea c hm l ?_
  exact PySem.W.callWith_K0 (first := [.ref a]) I1.kIn hm.kp (run_fn (us := [.ref a]) (vs := [.ref a]) F hr hb hd hx I1 (.cons rfl .nil) q)

/-- what a class must have to be made -/
structure Mk (K : PySem.W.Frag) (C f : Addr) : Prop where
  makes : PySem.W.makesIn K C = true
  init : PySem.W.findIn K (.ref C) "__init__" = some (some (.ref f))
  fn : PySem.W.isFn K (.ref f) = true
  kp : PySem.W.keepIn K (.ref C) = true

theorem run_make {pins : List (Addr × Obj)} {σ : St} {H : Hp} {s : Shared} {Q : VK} {us : List Value} {vs : List V} (M : Mk X.K C f) (F : FnOk X.prog X.w X.K X.mg X.base CX k f fd ps sp) (hr : Room (k + 1) X.A) (hb : Binds X.K fd ps ds) (hd : Vals dvs ds)
    (hx : Passes CX X E) (I : Inv X pins σ H s) (r : Vals vs us)
    (h : ∀ x dx, H x = none → H dx = none → dx ≠ x → sp (.ref x :: (vs ++ dvs)) (upd (upd H dx (.own x)) x (.ins C dx [])) (fun v H2 => v = .non ∧ Q (.ref x) H2) E) :
    wpAny (model X.prog X.w) X.A (call (.ref C) us) (EP X pins σ Q) X.xe s := by
  have hq := h (s.heap.objs.size + 1) s.heap.objs.size (I.hok.fresh (Nat.le_succ _)) (I.hok.fresh (Nat.le_refl _)) (Nat.ne_of_lt (Nat.lt_succ_self _))
  have I2 := Inv.made (C := C) I
  have r2 : Vals (V.ref (s.heap.objs.size + 1) :: (vs ++ dvs)) (Value.ref (s.heap.objs.size + 1) :: (us ++ ds)) := .cons rfl (r.append hd)
  have hl : (Value.ref (s.heap.objs.size + 1) :: us ++ ds).length = ps.length := by
    have e := r2.length
    rw [F.len _ _ _ _ hq] at e
    exact e.symm
  refine wpAny_call (make_map (f := f) I.kIn M.makes M.init (beq_iff_eq.mp M.fn) (codeAny_mono (F.run _ X.stack _ _ ⟨Value.ref (s.heap.objs.size + 1) :: us, []⟩ (Value.ref (s.heap.objs.size + 1) :: (us ++ ds)) _ _ E (hr.make C us [])
    (I2.env0.make C us []) (hb _ (Value.ref (s.heap.objs.size + 1) :: us) I2.kIn hl) r2 hq) fun r s' hq' => ?_))
  cases r with
  | error e => exact hx pins σ _ _ e s' I2 hq'
  | ok fl =>
    cases fl with
    | ret u =>
      obtain ⟨v, H', I3, rv, ev, q3⟩ := I2.after hq'
      subst ev
      exact ⟨rv, ⟨V.ref (s.heap.objs.size + 1), H', I3, rfl, q3⟩⟩
    | next => exact False.elim hq'
    | brk => exact False.elim hq'
    | cont => exact False.elim hq'
theorem pe_make (M : Mk X.K C f) (F : FnOk X.prog X.w X.K X.mg X.base CX k f fd ps sp) (hr : Room (k + 1) X.A) (hg : Gl X x) (hm : X.mg x = some (.ref C)) (hb : Binds X.K fd ps ds) (hd : Vals dvs ds) (hx : Passes CX X E)
    (ha : PA X (e :: es) t) (hdb : (x == ("__debug__" : Str)) = false := by decide) (he : starEach (e :: es) X.env = (false, eval e X.env) :: starEach es X.env := by rfl) (hpl : (backTo pos (starEach es X.env)).any (·.1) = false := by rfl) :
    PE X (.Call (.Name x p) (e :: es) [] pos) (tMake C sp dvs E t) := by
  intro pins s σ H Q I h
  refine wpAny_Call_Name_kw (ld_glob I hg hm ?_ hdb)
  refine PySem.W.callWith_K (h₀ := X.base) I.ok.mod.kin M.kp (thn (ha pos pins s σ H _ I h) fun us s1 ⟨vs, H1, I1, r, q⟩ => ⟨I1.kIn, ?_⟩) he hpl
  exact run_make M F hr hb hd hx I1 r q
end

/-! ### keywords -/
section
variable {X : Cx} {CX : CXT} {k : Nat} {f C : Addr} {fd : FuncData} {ps ks : List Str} {sp : Sp} {E : XK} {x m : Str} {p pos apos kpos : Pos} {e o : Expr} {es : List Expr} {kws : List Keyword} {te ta : TE} {t tk : TA} {nm : Option Str}
variable {g : List Value → List Value → List Value} {gV : List V → List V → List V}
end

/-! ### a def's body keeps its promise -/
/-- names: the parameters first -/
structure FnScope (N P : List Str) (sc : Scope) : Prop where
  kind : sc.kind = .function
  co : sc.isCoroutine = false
  gen : sc.isGenerator = false
  nd : N.Nodup
  pre : N.take P.length = P
  par : ∀ x ∈ P, sc.names.lookup x = some .local ∨ sc.names.lookup x = some .cell
  nofree : ∀ y ∈ sc.names, y.2 ≠ .free

theorem bindL_out {kindOf : Str → Option NameKind} {x : Str} : ∀ {binds : List (Str × Value)} {m : Str → Option Value}, (∀ v, (x, v) ∉ binds) → bindL kindOf binds m x = m x
  | [], _, _ => rfl
  | (n, v) :: r, m, h => by
    unfold bindL
    rw [bindL_out fun w hw => h w (List.mem_cons_of_mem _ hw)]
    split
    · have : x ≠ n := by rintro rfl; exact h v List.mem_cons_self
      simp [this]
    · rfl
theorem bindC_out {kindOf : Str → Option NameKind} {x : Str} : ∀ {binds : List (Str × Value)} {m : Str → Option Value}, (∀ v, (x, v) ∉ binds) → bindC kindOf binds m x = m x
  | [], _, _ => rfl
  | (n, v) :: r, m, h => by
    unfold bindC
    rw [bindC_out fun w hw => h w (List.mem_cons_of_mem _ hw)]
    split
    · rfl
    · have : x ≠ n := by rintro rfl; exact h v List.mem_cons_self
      simp [this]
theorem bindL_get {kindOf : Str → Option NameKind} {x : Str} {v : Value} : ∀ {P : List Str} {vs : List Value} {i : Nat} {m : Str → Option Value}, P.Nodup → P[i]? = some x → vs[i]? = some v → kindOf x = some .local →
    bindL kindOf (P.zip vs) m x = some v
  | [], _, _, _, _, h, _, _ => by simp at h
  | _ :: _, [], _, _, _, _, h, _ => by simp at h
  | p :: P, w :: vs, 0, m, nd, h1, h2, hk => by
    simp at h1 h2; subst h1; subst h2
    show bindL kindOf ((p, w) :: P.zip vs) m p = _
    unfold bindL
    rw [bindL_out fun v hv => (List.nodup_cons.mp nd).1 (List.of_mem_zip hv).1, if_pos hk]
    simp
  | p :: P, w :: vs, i + 1, m, nd, h1, h2, hk => by
    show bindL kindOf ((p, w) :: P.zip vs) m x = _
    unfold bindL
    exact bindL_get (i := i) (List.nodup_cons.mp nd).2 (by simpa using h1) (by simpa using h2) hk
theorem bindC_get {kindOf : Str → Option NameKind} {x : Str} {v : Value} : ∀ {P : List Str} {vs : List Value} {i : Nat} {m : Str → Option Value}, P.Nodup → P[i]? = some x → vs[i]? = some v → kindOf x ≠ some .local →
    bindC kindOf (P.zip vs) m x = some v
  | [], _, _, _, _, h, _, _ => by simp at h
  | _ :: _, [], _, _, _, _, h, _ => by simp at h
  | p :: P, w :: vs, 0, m, nd, h1, h2, hk => by
    simp at h1 h2; subst h1; subst h2
    show bindC kindOf ((p, w) :: P.zip vs) m p = _
    unfold bindC
    rw [bindC_out fun v hv => (List.nodup_cons.mp nd).1 (List.of_mem_zip hv).1, if_neg hk]
    simp
  | p :: P, w :: vs, i + 1, m, nd, h1, h2, hk => by
    show bindC kindOf ((p, w) :: P.zip vs) m x = _
    unfold bindC
    exact bindC_get (i := i) (List.nodup_cons.mp nd).2 (by simpa using h1) (by simpa using h2) hk

/-- the names' values at the entry -/
def start (N : List Str) (vs : List V) : St := vs.map some ++ List.replicate (N.length - vs.length) none

/-- the context of a def's body, at its entry; an exception leaves the frame, then lies as CX says -/
def cxOf (CX : CXT) (P : Program) (w : World) (K : PySem.W.Frag) (mg : Str → Option Value) (base : Heap) (N : List Str) (qual : Str) (scope : Scope) (f : Addr) (cd : Value) (A : Around) (outer : List Env) (s : Shared) (H : Hp) (E : XK) : Cx where
  prog := P
  w := w
  K := K
  mg := mg
  base := base
  A := A.deeper (envOfC qual scope s.heap.objs.size f cd)
  N := N
  s₀ := s
  H₀ := H
  env := envOfC qual scope s.heap.objs.size f cd
  outer := outer
  stack := envOfC qual scope s.heap.objs.size f cd :: outer
  ex := []
  calm := true
  fn := fun _ => true
  pn := []
  xe := fun e s' => wpAny (model P w) (A.deeper (envOfC qual scope s.heap.objs.size f cd)) (leaving (envOfC qual scope s.heap.objs.size f cd) e) (fun _ s'' => CX outer H s E e s'') (fun e' s'' => CX outer H s E e' s'') s'

theorem cell_has {sc : Scope} {n : Nat} {x : Str} (h : sc.names.lookup x = some .cell) : ∃ c, (cellsFrom n sc.names []).lookup x = some c := by
  have q := PySem.W.cellsFrom_some sc.names n [] (.inl h)
  exact Option.isSome_iff_exists.mp q

theorem inv_start {CX : CXT} {P : Program} {w : World} {K : PySem.W.Frag} {mg : Str → Option Value} {base : Heap} {N ps : List Str} {qual : Str} {scope : Scope} {f : Addr} {cd : Value} {A : Around} {outer : List Env} {s s1 : Shared} {H : Hp} {E : XK} {us : List Value} {vs : List V}
    (S : FnScope N ps scope) (hd : A.handled = none) (e0 : Env0 P w K mg base A outer s H) (hl : vs.length = ps.length) (r : Vals vs us)
    (x : InCallC s s.heap.objs.size (bindL (envOfC qual scope s.heap.objs.size f cd).kindOf (ps.zip us) fun _ => none) (cellsFrom (s.heap.objs.size + 1) scope.names []) (bindC (envOfC qual scope s.heap.objs.size f cd).kindOf (ps.zip us) fun _ => none) s1) :
    Inv (cxOf CX P w K mg base N qual scope f cd A outer s H E) [] (start N vs) H s1 := by
  have hpl : ps.length ≤ N.length := by have := congrArg List.length S.pre; rw [List.length_take] at this; omega
  obtain ⟨h1, tk, rfl, hk⟩ := x.done
  have noA : ∀ b : Addr, b ∉ (cxOf CX P w K mg base N qual scope f cd A outer s H E).ex := fun b z => absurd (show b ∈ ([] : List Addr) from z) (by simp)
  refine ⟨⟨e0.mod, S.kind, rfl, rfl, Nat.le_refl _, fun y z c h1 h2 => ?_, fun y hy => ?_, fun y c _ h => ?_, fun _ => hd, Around.frames_deeper e0.frames, .inr ⟨rfl, rfl⟩, fun b z => absurd z (noA b), e0.bs, e0.bsz, fun b _ _ => noA b, fun b z => absurd z (noA b), e0.funs, e0.frf⟩,
    rfl, e0.bare, Un.kept hk, ⟨_, x.toInCall.ns, fun i y v h1 h2 h3 => ?_⟩, fun y c h => ⟨_, x.cell y c h⟩, e0.hok.fresh (Nat.le_refl _), fun y c h => ?_, fun p hp => absurd (show p ∈ ([] : List (Addr × Obj)) from hp) (by simp), e0.hok.kept hk, ?_⟩
  · exact name_of_addr x.apart (PySem.mem_of_lookup h1) (PySem.mem_of_lookup h2)
  · have hy : scope.names.lookup y = some .cell ∨ scope.names.lookup y = some .free := hy
    rcases hy with hy | hy
    · exact cell_has hy
    · exact absurd rfl (S.nofree _ (PySem.mem_of_lookup hy))
  · exact Nat.le_of_lt (x.above y c (PySem.mem_of_lookup h))
  · have hi : i < vs.length := by
      unfold start at h2
      by_cases hi : i < vs.length
      · exact hi
      · rw [List.getElem?_append_right (by simpa using hi)] at h2
        rw [List.getElem?_replicate] at h2
        split at h2 <;> cases h2
    have ha : vs[i]? = some v := by
      unfold start at h2
      rw [List.getElem?_append_left (by simpa using hi), List.getElem?_map] at h2
      cases e : vs[i]? with
      | none => rw [e] at h2; cases h2
      | some a => rw [e] at h2; cases h2; rfl
    obtain ⟨u, hu, rv⟩ := r.get ha
    have hp : ps[i]? = some y := by
      rw [← S.pre, List.getElem?_take_of_lt (by omega)]; exact h1
    have ndP : ps.Nodup := by rw [← S.pre]; exact S.nd.sublist (List.take_sublist _ _)
    refine ⟨u, rv, ?_⟩
    rcases S.par y (List.mem_of_getElem? hp) with k | k
    · exact .inl ⟨k, bindL_get ndP hp hu k⟩
    · obtain ⟨c, e⟩ := cell_has (n := s.heap.objs.size + 1) k
      refine .inr ⟨.inl k, c, e, ?_⟩
      have q := x.cell y c e
      rw [bindC_get ndP hp hu (by show scope.names.lookup y ≠ _; rw [k]; decide)] at q
      exact q
  · exact e0.hok.fresh (Nat.le_of_lt (x.above y c (PySem.mem_of_lookup h)))
  · unfold start
    show _ = N.length
    rw [List.length_append, List.length_map, List.length_replicate]
    omega

/-- THE RULE: a def (or a method) of the text, by its body. The body's reading t is chosen for each entry; it is run at the parameters' values -/
theorem fn_of {CX : CXT} {P : Program} {w : World} {K : PySem.W.Frag} {mg : Str → Option Value} {base : Heap} {k : Nat} {f : Addr} {name qual : Str} {params : Arguments} {body : List Stmt} {scope : Scope} {dV kV doc pm cdv ct oc : Value} {an od : Option Addr}
    {osl : Array (Option Value)} {N ps : List Str} {sp : Sp} (lk : K.lookup f = some ⟨oc, od, .func (PySem.W.fnOf name qual params body scope dV kV doc pm an cdv ct), osl⟩) (hcd : PySem.W.codeIn K cdv qual = true) (S : FnScope N ps scope)
    (len : ∀ vs H Q E, sp vs H Q E → vs.length = ps.length)
    (hbody : ∀ (A : Around) (outer : List Env) (s : Shared) (H : Hp) (vs : List V) (Q : VK) (E : XK), Room k (A.deeper (envOfC qual scope s.heap.objs.size f cdv)) → sp vs H Q E →
      ∃ t, PSs (cxOf CX P w K mg base N qual scope f cdv A outer s H E) body t ∧ t { nx := fun _ H' => Q .non H', rt := Q } (start N vs) H) :
    FnOk P w K mg base CX (k + 1) f (PySem.W.fnOf name qual params body scope dV kV doc pm an cdv ct) ps sp := by
  refine ⟨len, fun A outer s H args us vs Q E hr e0 hb r hsp => ?_⟩
  have hl := len _ _ _ _ hsp
  have KX : K.In s.heap := e0.mod.kin.keeps fun b o e => (e0.bs b o e).1
  have lim : s.heap.NoLimit := e0.mod.nolimit.keeps fun b o e => (e0.bs b o e).1
  have hkind : ∀ y ∈ ps.zip us, scope.names.lookup y.1 = some .local ∨ (scope.names.lookup y.1 = some .cell ∧ ((cellsFrom (s.heap.objs.size + 1) scope.names []).lookup y.1).isSome = true) := fun ⟨n, v⟩ hy => by
    rcases S.par n (List.of_mem_zip hy).1 with q | q
    · exact .inl q
    · exact .inr ⟨q, PySem.W.cellsFrom_some _ _ _ (.inl q)⟩
  refine codeAny_call_function hr.depth (KX _ _ lk) rfl S.co S.gen rfl (PySem.W.codeRec_of KX hcd) (hb _ _ _ _ ?_)
  refine wpAny_newFunctionEnv_cells S.kind hkind fun env he s1 x => ?_
  subst he
  refine ⟨lim.keeps x.toInCall.keep, codeAny_func ?_⟩
  obtain ⟨t, ht, hq⟩ := hbody A outer s H vs Q E (hr.deeper _) hsp
  have I : Inv (cxOf CX P w K mg base N qual scope f cdv A outer s H E) [] (start N vs) H s1 := inv_start S hr.hd e0 hl r x
  refine wpAny_mono (ht [] s1 (start N vs) H _ I hq) (fun fl s' hs => ?_) fun e s' hs => hs
  have fin : ∀ {σ' : St} {H' : Hp} {v : V} {u : Value}, Inv (cxOf CX P w K mg base N qual scope f cdv A outer s H E) [] σ' H' s' → RelV v u → Q v H' → CE outer P w H s Q u s' :=
    fun {σ' H' v u} J rv q => ⟨v, H', J.os, J.bare, J.base, J.hok, rv, q⟩
  cases fl with
  | ret u =>
    obtain ⟨v, σ', H', J, rv, q⟩ := hs
    exact fin J rv q
  | next =>
    obtain ⟨σ', H', J, q⟩ := hs
    exact fin (v := V.non) (u := Value.none) J rfl q
  | brk =>
    obtain ⟨_, _, _, q⟩ := hs
    exact False.elim q
  | cont =>
    obtain ⟨_, _, _, q⟩ := hs
    exact False.elim q
end L2

namespace L2
open PySem PySem.Spec PyProof.Rows
section
variable {X : Cx} {x : Str} {p pos : Pos} {e : Expr} {es : List Expr} {t : TA} {id T : String} {r : List V → Hp → VK → Prop}

def tCB (r : List V → Hp → VK → Prop) (t : TA) : TE := fun σ H Q => t σ H fun vs H1 => r vs H1 Q
/-- f(e, ..), f a built-in function -/
theorem pe_callB (hc : CallR X (.builtin id) r) (hg : Gl X x) (hm : X.mg x = none) (hv : bootBuiltins x = some (.builtin id)) (ha : PA X (e :: es) t) (hn : x ≠ "__name__" := by decide) (hdb : (x == ("__debug__" : Str)) = false := by decide)
    (he : starEach (e :: es) X.env = (false, eval e X.env) :: starEach es X.env := by rfl) (hpl : (backTo pos (starEach es X.env)).any (·.1) = false := by rfl) : PE X (.Call (.Name x p) (e :: es) [] pos) (tCB r t) := by
  intro pins s σ H Q I h
  refine wpAny_Call_Name_kw (ld_blt I hg hm hv ?_ hn hdb)
  exact PyProof.Rows.callWith_builtin1 (thn (ha pos pins s σ H _ I h) fun us s1 ⟨vs, H1, I1, r1, q1⟩ => hc pins s1 σ H1 vs us Q I1 r1 q1) he hpl
/-- T(e, ..), T a built-in type -/
theorem pe_callTy (hc : CallR X (.type T) r) (hg : Gl X x) (hm : X.mg x = none) (hv : bootBuiltins x = some (.type T)) (ha : PA X (e :: es) t) (hn : x ≠ "__name__" := by decide) (hdb : (x == ("__debug__" : Str)) = false := by decide)
    (he : starEach (e :: es) X.env = (false, eval e X.env) :: starEach es X.env := by rfl) (hpl : (backTo pos (starEach es X.env)).any (·.1) = false := by rfl) : PE X (.Call (.Name x p) (e :: es) [] pos) (tCB r t) := by
  intro pins s σ H Q I h
  refine wpAny_Call_Name_kw (ld_blt I hg hm hv ?_ hn hdb)
  exact PyProof.Rows.callWith_type1 (thn (ha pos pins s σ H _ I h) fun us s1 ⟨vs, H1, I1, r1, q1⟩ => hc pins s1 σ H1 vs us Q I1 r1 q1) he hpl
end
end L2

namespace HT
open PySem PyProof.Rows

section
open PySem.SeqAt
open PySem.AutoSeq1 (wpAny_loadPart')
open PySem.MeetsSeq PySem.MeetsSeq2 PySem.MeetsSeq3

end

section
variable {prog : Program} {w : World} {A : Around} {E : Value → Shared → Prop} {s : Shared}

/-! ### t[a:b], not the whole -/
end
end HT

namespace L2
open PySem PySem.Spec PyProof.Rows

/-! ### the parts of a slice -/
abbrev TO := St → Hp → (Option Int → Hp → Prop) → Prop
/-- a slice's part (left out, or an int) -/
def PO (X : Cx) (e : Option Expr) (t : TO) : Prop :=
  ∀ (pins : List (Addr × Obj)) (s : Shared) (σ : St) (H : Hp) (Q : Option Int → Hp → Prop), Inv X pins σ H s → t σ H Q →
    wpAny (model X.prog X.w) X.A (evalPart e X.env) (fun u s' => ∃ o H', Inv X pins σ H' s' ∧ IsPart u o ∧ Q o H') X.xe s
def tNoPart : TO := fun _ H Q => Q none H
def tPart (t : TE) : TO := fun σ H Q => t σ H fun x H1 => ∃ i, x = .int i ∧ Q (some i) H1

section
variable {X : Cx} {e : Expr} {te : TE} {lo hi : Option Expr} {tl th : TO} {pos p2 : Pos}

theorem po_none : PO X none tNoPart := by
  intro pins s σ H Q I h
  rw [evalPart_none]
  exact wpAny_pure ⟨none, H, I, .none, h⟩
theorem po_some (h : PE X e te) : PO X (some e) (tPart te) := by
  intro pins s σ H Q I hw
  rw [evalPart_some]
  refine thn (h pins s σ H _ I hw) fun u s1 ⟨x, H1, I1, r1, q1⟩ => ?_
  obtain ⟨i, rfl, q⟩ := q1
  obtain ⟨t, rfl⟩ := r1
  exact ⟨some i, H1, I1, .int i t, q⟩

/-- what a slice of a value is, by values: the slice object stands at sl -/
def SlR (X : Cx) (r : V → Option Int → Option Int → Hp → VK → Prop) : Prop :=
  ∀ (pins : List (Addr × Obj)) (s : Shared) (σ : St) (H : Hp) (x : V) (v vl vu : Value) (lo hi : Option Int) (sl : Addr) (Q : VK), Inv X pins σ H s → RelV x v → s.heap.IsSliceOf sl vl vu .none → IsPart vl lo → IsPart vu hi → r x lo hi H Q →
    ∃ T id, typeLookup (.type T) "__getitem__" = pure (some (.builtin id)) ∧ s.TypeIs v T ∧ wpAny (model X.prog X.w) X.A (getItem v (.ref sl)) (EP X pins σ Q) X.xe s
def tSl (r : V → Option Int → Option Int → Hp → VK → Prop) (te : TE) (tl th : TO) : TE := fun σ H Q => te σ H fun x H1 => tl σ H1 fun l H2 => th σ H2 fun u H3 => r x l u H3 Q
/-- a[lo:hi], any a -/
theorem pe_slice {r : V → Option Int → Option Int → Hp → VK → Prop} (hr : SlR X r) (he : PE X e te) (hl : PO X lo tl) (hu : PO X hi th) : PE X (.Subscript e (.Slice lo hi none p2) pos) (tSl r te tl th) := by
  intro pins s σ H Q I h
  refine Subscript_ (thn (he pins s σ H _ I h) fun v s1 ⟨x, H1, I1, r1, q1⟩ => ?_)
  refine wpAny_Slice (thn (hl pins s1 σ H1 _ I1 q1) fun vl s2 ⟨l, H2, I2, pl, q2⟩ => thn (hu pins s2 σ H2 _ I2 q2) fun vu s3 ⟨u, H3, I3, pu, q3⟩ => ?_)
  rw [evalPart_none]
  refine wpAny_pure ?_
  have I4 : Inv X pins σ H3 { s3 with heap := s3.heap.push { cls := .type "slice", data := .fields #[vl, vu, .none] } } := I3.kept (t' := s3.toks) fun b ob q => Heap.get?_push_of_some _ q
  obtain ⟨T, id, hT, ht, hg⟩ := hr pins { s3 with heap := s3.heap.push { cls := .type "slice", data := .fields #[vl, vu, .none] } } σ H3 x v vl vu l u s3.heap.objs.size Q I4 r1 (Heap.IsSliceOf.new ..) pl pu q3
  show wpAny (model X.prog X.w) X.A (subscriptTail e (.Slice lo hi none p2) v (.ref s3.heap.objs.size)) (EP X pins σ Q) X.xe { s3 with heap := s3.heap.push { cls := .type "slice", data := .fields #[vl, vu, .none] } }
  exact tail_any (ops := [.ref s3.heap.objs.size, v]) ht hT hg (by with_unfolding_all rfl)

/-! ### t < u, t + u -/
end
end L2

namespace L2
open PySem PySem.Spec PyProof.Rows

/-! ### places -/
/-- the place that an index of any sign means -/
def ixN (n : Nat) (i : Int) : Option Nat := if 0 ≤ i then (if i < n then some i.toNat else none) else if -(n : Int) ≤ i then some (i + n).toNat else none
def atI {α : Type} (xs : List α) (i : Int) : Option α := (ixN xs.length i).bind fun j => xs[j]?
theorem ixN_seq {n : Nat} {i : Int} {j : Nat} (h : ixN n i = some j) : seqIndex? i n = some j ∧ j < n ∧ -(n : Int) ≤ i ∧ i < n := by
  unfold ixN at h
  by_cases h0 : 0 ≤ i
  · rw [if_pos h0] at h
    by_cases h1 : i < n
    · rw [if_pos h1] at h
      have e : i.toNat = j := Option.some.inj h
      exact ⟨by rw [seqIndex_of h0 h1, e], by omega, by omega, h1⟩
    · rw [if_neg h1] at h; cases h
  · rw [if_neg h0] at h
    by_cases h1 : -(n : Int) ≤ i
    · rw [if_pos h1] at h
      have e : (i + n).toNat = j := Option.some.inj h
      exact ⟨by rw [seqIndex_neg (by omega) h1, e], by omega, h1, by omega⟩
    · rw [if_neg h1] at h; cases h
theorem atI_get {α : Type} {xs : List α} {i : Int} {v : α} (h : atI xs i = some v) : ∃ j, seqIndex? i xs.length = some j ∧ xs[j]? = some v ∧ j < xs.length ∧ -(xs.length : Int) ≤ i ∧ i < xs.length := by
  unfold atI at h
  cases e : ixN xs.length i with
  | none => rw [e] at h; cases h
  | some j =>
    rw [e] at h
    obtain ⟨h1, h2, h3, h4⟩ := ixN_seq e
    exact ⟨j, h1, h, h2, h3, h4⟩
theorem atI_nat {α : Type} {xs : List α} {j : Nat} {v : α} (h : xs[j]? = some v) : atI xs (j : Int) = some v := by
  have hj : j < xs.length := (List.getElem?_eq_some_iff.mp h).1
  have e : ixN xs.length (j : Int) = some j := by
    unfold ixN
    rw [if_pos (by omega), if_pos (by omega)]; simp
  unfold atI; rw [e]; exact h
/-! ### what may be subscripted -/
/-- what stands as an index of a plain subscript -/
def PlainIx (b : Expr) : Prop := ∀ o i, subscripted b false o i = operate [o, i] (getItem o i)
/-- a subscript by values -/
def IxR (X : Cx) (r : R2) : Prop :=
  ∀ (value slice : Expr) (pins : List (Addr × Obj)) (s : Shared) (σ : St) (H : Hp) (x y : V) (v u : Value) (Q : VK), Inv X pins σ H s → RelV x v → RelV y u → r x y H Q →
    subscripted slice false v u = operate [v, u] (getItem v u) → wpAny (model X.prog X.w) X.A (subscriptTail value slice v u) (EP X pins σ Q) X.xe s
/-- a call of a builtin's method by values: the receiver, the arguments -/
def MtR (X : Cx) (id : String) (r : V → List V → Hp → VK → Prop) : Prop :=
  ∀ (pins : List (Addr × Obj)) (s : Shared) (σ : St) (H : Hp) (x : V) (xs : List V) (v : Value) (us : List Value) (Q : VK), Inv X pins σ H s → RelV x v → Vals xs us → r x xs H Q →
    wpAny (model X.prog X.w) X.A (call (.builtin id) (v :: us)) (EP X pins σ Q) X.xe s
section
variable {X : Cx} {a b : Expr} {ta tb : TE} {pos : Pos}
/-- a[b] -/
theorem pe_ix {r : R2} (hr : IxR X r) (ha : PE X a ta) (hb : PE X b tb) (hs : PlainIx b) : PE X (.Subscript a b pos) (tOp r ta tb) := by
  intro pins s σ H Q I h
  exact Subscript_ (binT ha hb I h fun v u s2 x y H2 I2 rx ry q => hr a b pins s2 σ H2 x y v u Q I2 rx ry q (hs _ _))

def rIxL (K : PySem.W.Frag) : R2 := fun x y H Q => ∃ p xs i v, x = .ref p ∧ y = .int i ∧ SqL K H p xs ∧ atI xs i = some v ∧ Q v H
def rIxT (K : PySem.W.Frag) : R2 := fun x y H Q => ∃ p xs i v, x = .ref p ∧ y = .int i ∧ SqT K H p xs ∧ atI xs i = some v ∧ Q v H
def rIxS : R2 := fun x y H Q => ∃ z i c, x = .str z ∧ y = .int i ∧ z.length ≤ sizeLine ∧ atI z.cps.toList i = some c ∧ Q (.str ⟨#[c]⟩) H
theorem ix_list : IxR X (rIxL X.K) := by
  intro value slice pins s σ H x y v u Q I rx ry h hs
  obtain ⟨p, xs, i, z, rfl, rfl, hq, he, q⟩ := h
  cases rx
  obtain ⟨t, rfl⟩ := ry
  obtain ⟨its, r, pl, hz⟩ := I.list hq
  obtain ⟨j, h1, h2, h3, h4, h5⟩ := atI_get he
  obtain ⟨w, ew, rw'⟩ := r.get h2
  have hl := r.length
  have hn := line63
  have fin : EP X pins σ Q w s := ⟨z, H, I, rw', q⟩
  by_cases h0 : 0 ≤ i
  · have hj : i.toNat = j := by
      rw [seqIndex_of h0 h5] at h1
      exact Option.some.inj h1
    exact item_listR pl.isList h0 (by omega) (by rw [hj]; simpa using ew) fin hs
  · have hj : (i + (its.toArray.size : Int)).toNat = j := by
      rw [seqIndex_neg (by omega) h4] at h1
      rw [List.size_toArray, ← hl]
      exact Option.some.inj h1
    exact subscriptTail_builtinR (x := w) pl.isList.typeIs slot_list_getitem.lookup
      (wpAny_getItem_list_neg (Q := fun r s' => r = w ∧ EP X pins σ Q r s') pl.isList (by omega) (by rw [List.size_toArray] <;> omega) (by omega) (by rw [hj]; simpa using ew) ⟨rfl, fin⟩) hs
theorem ix_tup : IxR X (rIxT X.K) := by
  intro value slice pins s σ H x y v u Q I rx ry h hs
  obtain ⟨p, xs, i, z, rfl, rfl, hq, he, q⟩ := h
  cases rx
  obtain ⟨t, rfl⟩ := ry
  obtain ⟨its, r, pl, hz⟩ := I.tuple hq
  obtain ⟨j, h1, h2, h3, h4, h5⟩ := atI_get he
  obtain ⟨w, ew, rw'⟩ := r.get h2
  have hl := r.length
  have hn := line63
  have fin : EP X pins σ Q w s := ⟨z, H, I, rw', q⟩
  exact subscriptTail_builtinR (x := w) pl.typeIs slot_tuple_getitem.lookup
    (getItem_tuple (j := j) (Q := fun r s' => r = w ∧ EP X pins σ Q r s') pl (by omega) (by omega) (by rw [List.size_toArray, ← hl]; exact h1) (by simpa using ew) ⟨rfl, fin⟩) hs
theorem ix_str : IxR X rIxS := by
  intro value slice pins s σ H x y v u Q I rx ry h hs
  obtain ⟨z, i, c, rfl, rfl, hz, he, q⟩ := h
  obtain ⟨t, rfl⟩ := rx
  obtain ⟨t', rfl⟩ := ry
  obtain ⟨j, h1, h2, h3, h4, h5⟩ := atI_get he
  have hl : z.cps.toList.length = z.length := by simp [Str.length]
  rw [hl] at h1 h4 h5
  have hn := line63
  exact tail_any (typeIs_str s z t) slot_str_getitem.lookup (getItem_str (c := c) (by
    have e1 : decide (i < -(2 ^ 63 : Int)) = false := decide_eq_false (by omega)
    have e2 : decide (i ≥ 2 ^ 63) = false := decide_eq_false (by omega)
    rw [e1, e2, Bool.or_false]) (by rw [h1]; simpa using h2) ⟨.str ⟨#[c]⟩, H, I.tok _, ⟨_, rfl⟩, q⟩) hs
/-! ### xs[i] = v, any sign -/
/-! ### slices -/
/-! ### in, not in: flat items -/
/-- == of flat values -/
def eqV : V → V → Bool
  | .non, .non => true
  | .bl a, .bl b => a == b
  | .bl a, .int b => (if a then 1 else 0) == b
  | .int a, .bl b => a == (if b then 1 else 0)
  | .int a, .int b => a == b
  | .str a, .str b => a == b
  | _, _ => false
/-! ### len, list(x), tuple(x) of any list or tuple that is read -/
theorem call_len_seq : CallR X (.builtin "len") (fun xs H Q => ∃ p ys, xs = [.ref p] ∧ (SqL X.K H p ys ∨ SqT X.K H p ys) ∧ Q (.int ys.length) H) := by
  intro pins s σ H xs us Q I r h
  obtain ⟨p, ys, rfl, hq, q⟩ := h
  obtain ⟨u, rfl, rx⟩ := vals1 r
  cases rx
  have hn := line63
  rcases hq with hq | hq
  · obtain ⟨its, r', pl, hz⟩ := I.list hq
    have hlen := r'.length
    exact Calls.call_len_list pl.isList (by simp only [List.size_toArray] <;> omega) ⟨.int ys.length, H, I.tok _, ⟨s.toks + 1, by rw [List.size_toArray, hlen]⟩, q⟩
  · obtain ⟨its, r', pl, hz⟩ := I.tuple hq
    have hlen := r'.length
    exact len_tuple pl (by simp only [List.size_toArray] <;> omega) ⟨.int ys.length, H, I.tok _, ⟨s.toks + 1, by rw [List.size_toArray, hlen]⟩, q⟩
theorem call_len_str : CallR X (.builtin "len") (fun xs H Q => ∃ z, xs = [.str z] ∧ z.length ≤ sizeLine ∧ Q (.int z.length) H) := by
  intro pins s σ H xs us Q I r h
  obtain ⟨z, rfl, hz, q⟩ := h
  obtain ⟨u, rfl, t, rfl⟩ := vals1 r
  have hn := line63
  exact len_str (by omega) ⟨.int z.length, H, I.tok _, ⟨_, rfl⟩, q⟩
theorem call_tuple_of : CallR X (.type "tuple") (fun xs H Q => ∃ p ys, xs = [.ref p] ∧ ((SqL X.K H p ys ∧ ∀ l, H l = none → Q (.ref l) (upd H l (.tup ys))) ∨ (SqT X.K H p ys ∧ Q (.ref p) H))) := by
  intro pins s σ H xs us Q I r h
  obtain ⟨p, ys, rfl, h⟩ := h
  obtain ⟨u, rfl, rx⟩ := vals1 r
  cases rx
  rcases h with ⟨hq, q⟩ | ⟨hq, q⟩
  · obtain ⟨its, r', pl, hz⟩ := I.list hq
    have hlen := r'.length
    refine call_tuple_list pl.isList (fun h' kp => ?_) (by simp only [List.size_toArray] <;> omega)
    have I1 : Inv X pins σ H { s with heap := h' } := I.kept (t' := s.toks) kp
    have I2 : Inv X pins σ (upd H h'.objs.size (.tup ys)) { s with heap := h'.push { cls := .type "tuple", data := .seq its.toArray } } :=
      I1.laid (t' := s.toks) (fun b o e => Heap.get?_push_of_some _ e) (Nat.le_refl _) (show ObjOk X.prog X.w _ _ _ (.tup ys) from ⟨hz, its, r', IsTup.new _ _⟩)
    exact ⟨.ref h'.objs.size, _, I2, rfl, q _ (I1.hok.fresh (Nat.le_refl _))⟩
  · obtain ⟨its, r', pl, hz⟩ := I.tuple hq
    exact call_tuple_same pl ⟨.ref p, H, I, rfl, q⟩

/-! ### the call of a builtin's method: o.m(..) -/
/-- the value is of that builtin type -/
def tyV (K : PySem.W.Frag) (T : String) (x : V) (H : Hp) : Prop := match x with
  | .str _ => T = "str"
  | .int _ => T = "int"
  | .ref p => (T = "list" ∧ ∃ xs, SqL K H p xs) ∨ (T = "tuple" ∧ ∃ o, K.lookup p = some o ∧ o.cls = .type "tuple" ∧ o.dict = none) ∨
      (T = "dict" ∧ ((∃ kvs, H p = some (.dK kvs)) ∨ ∃ kvs, H p = some (.dT kvs))) ∨ (T = "set" ∧ ∃ S n, H p = some (.set S n))
  | _ => False
theorem tyV_is {pins : List (Addr × Obj)} {σ : St} {H : Hp} {s : Shared} {T : String} {x : V} {v : Value} (I : Inv X pins σ H s) (r : RelV x v) (ty : tyV X.K T x H) :
    s.TypeIs v T ∧ ∀ a, v = .ref a → ∃ ob, s.heap.get? a = some ob ∧ ob.dict = none := by
  cases x with
  | str z =>
    obtain ⟨t, rfl⟩ := r
    cases (show T = "str" from ty)
    exact ⟨typeIs_str s z t, fun _ e => nomatch e⟩
  | int i =>
    obtain ⟨t, rfl⟩ := r
    cases (show T = "int" from ty)
    exact ⟨typeIs_int s i t, fun _ e => nomatch e⟩
  | ref p =>
    cases r
    rcases ty with ⟨rfl, xs, hq⟩ | ⟨rfl, o, hk, hc, hd⟩ | ⟨rfl, hk⟩ | ⟨rfl, S, n, hk⟩
    · obtain ⟨its, _, pl, _⟩ := I.list hq
      refine ⟨pl.isList.typeIs, fun a e => ?_⟩
      cases e
      obtain ⟨o, n, e, c, hd, _⟩ := pl
      exact ⟨o, e, hd⟩
    · refine ⟨⟨o, I.kIn p o hk, hc⟩, fun a e => ?_⟩
      cases e
      exact ⟨o, I.kIn _ o hk, hd⟩
    · have z : ∃ o, s.heap.get? p = some o ∧ o.ExactDict := by
        rcases hk with ⟨kvs, hk⟩ | ⟨kvs, hk⟩
        · obtain ⟨_, _, _, _, o, _, _, e, ex, _⟩ := I.hok p _ hk
          exact ⟨o, e, ex⟩
        · obtain ⟨_, _, _, _, o, _, _, e, ex, _⟩ := I.hok p _ hk
          exact ⟨o, e, ex⟩
      obtain ⟨o, e, ex⟩ := z
      refine ⟨⟨o, e, ex.1⟩, fun a e2 => ?_⟩
      cases e2
      exact ⟨o, e, ex.2.1⟩
    · obtain ⟨o, _, _, _, e, ex, _⟩ := I.hok p _ hk
      refine ⟨⟨o, e, ex.1⟩, fun a e2 => ?_⟩
      cases e2
      exact ⟨o, e, ex.2.1⟩
  | _ => exact False.elim ty
def tBM (K : PySem.W.Frag) (T : String) (r : V → List V → Hp → VK → Prop) (to : TE) (t : TA) : TE := fun σ H Q => to σ H fun x H1 => tyV K T x H1 ∧ t σ H1 fun xs H2 => r x xs H2 Q
variable {o e : Expr} {es : List Expr} {to : TE} {t : TA} {name : Str} {apos cpos : Pos} {T id : String} {r : V → List V → Hp → VK → Prop}
theorem pe_bm (pa : PlainAttrs T) (slot : Slot T name id) (hty : typeOf (.builtin id) = pure (.type "method_descriptor")) (hm : MtR X id r) (ho : PE X o to) (ha : PA X (e :: es) t)
    (hbase : attributeBase o name X.env (eval o X.env) = eval o X.env := by rfl)
    (hfew : ((backTo cpos (starEach (e :: es) X.env)).all (fun x => !x.1) && (backToKw cpos (keywordEach [] X.env)).all (fun x => x.1.isSome)
      && decide ((e :: es).length + ([] : List Keyword).length + (if ([] : List Keyword).isEmpty then 0 else 1) < 30)) = true := by rfl)
    (hline : (apos.endLine == cpos.line) = true := by rfl) (hs : starEach (e :: es) X.env = (false, eval e X.env) :: starEach es X.env := by rfl) (hplain : (backTo cpos (starEach es X.env)).any (·.1) = false := by rfl) :
    PE X (.Call (.Attribute o name apos) (e :: es) [] cpos) (tBM X.K T r to t) := by
  intro pins s σ H Q I h
  refine wpAny_Call_method_late hbase hfew hline rfl (thn (ho pins s σ H _ I h) fun v s1 ⟨x, H1, I1, r1, ty, q1⟩ => ?_)
  obtain ⟨h1, h2⟩ := tyV_is I1 r1 ty
  refine ⟨T, id, pa, slot, hty, h1, h2, ?_⟩
  have hA := ha cpos pins s1 σ H1 _ I1 q1
  rw [hs] at hA ⊢
  refine Calls.callWith_builtin (by show (false || (backTo cpos (starEach es X.env)).any (·.1)) = false; rw [hplain] <;> rfl) (Calls.evalArgs_plain ?_)
  exact thn hA fun us s2 ⟨vs, H2, I2, r2, q2⟩ => hm pins s2 σ H2 x vs v us Q I2 r1 r2 q2
/- xs.append(e), list.index on a module's tuple .. are MtR facts of 06m -/
end
end L2

namespace L2
open PySem PySem.Spec PyProof.Rows

def MtM (X : Cx) (id : String) (r : V → List V → Hp → VK → Prop) : Prop :=
  ∀ (pins : List (Addr × Obj)) (s : Shared) (σ : St) (H : Hp) (x : V) (xs : List V) (v : Value) (us : List Value) (Q : VK), Inv X pins σ H s → RelV x v → Vals xs us → r x xs H Q →
    wpAny (model X.prog X.w) X.A (call (.builtin id) (v :: us)) (EP X pins σ Q) X.xe s

/-! ### lists of values -/
theorem Vals.one : ∀ {x : V} {us : List Value}, Vals [x] us → ∃ u, us = [u] ∧ RelV x u
  | _, _, .cons r .nil => ⟨_, rfl, r⟩
section
variable {X : Cx} {pins : List (Addr × Obj)} {σ : St} {H : Hp} {s : Shared} {l b : Addr} {xs ys zs : List V}

/-! ### the two steps: a tracked list is rewritten, a new list is laid -/
theorem Inv.lset {its its' : List Value} {n : Nat} {f : Array Value → Array Value} {t' : Nat} (I : Inv X pins σ H s) (hH : H l = some (.lst xs))
    (e : s.heap.get? l = some { cls := .type "list", data := .seq its.toArray n }) (hf : f its.toArray = its'.toArray) (hv : Vals ys its') (hz : ys.length ≤ sizeLine) :
    Inv X pins σ (upd H l (.lst ys)) { s with heap := s.heap.update l (Obj.mapSeq f), toks := t' } := by
  have q := PySem.IsL.update e f
  rw [hf] at q
  refine I.write (x := l) (e := l) (by rw [hH]; exact trivial) (.inl rfl) (fun b' u hb hu => (Heap.get?_update_other s.heap (Obj.mapSeq f) (Ne.symm hb)).trans hu) ⟨_, q⟩ ?_
  exact ⟨hz, its', _, hv, q⟩
theorem Inv.lnew {its : List Value} {t' : Nat} (I : Inv X pins σ H s) (hv : Vals ys its) (hz : ys.length ≤ sizeLine) :
    Inv X pins σ (upd H s.heap.objs.size (.lst ys)) { s with heap := s.heap.push { cls := .type "list", data := .seq its.toArray }, toks := t' } :=
  I.laid (fun _ _ q => Heap.get?_push_of_some _ q) (Nat.le_refl _) ⟨hz, its, 0, hv, Heap.get?_push_size _ rfl⟩
theorem Inv.fresh (I : Inv X pins σ H s) : H s.heap.objs.size = none := I.hok.fresh (Nat.le_refl _)
theorem Inv.lstM (I : Inv X pins σ H s) (hH : H l = some (.lst xs)) : xs.length ≤ sizeLine ∧ ∃ (its : List Value) (n : Nat), Vals xs its ∧ xs.length = its.length ∧ s.heap.get? l = some { cls := .type "list", data := .seq its.toArray n } := by
  obtain ⟨z, its, n, r, e⟩ := I.hok l _ hH
  exact ⟨z, its, n, r, r.length, e⟩

end

section
variable {X : Cx}

/-! ### methods -/
def rAppend : V → List V → Hp → VK → Prop := fun x vs H Q => ∃ l xs y, x = .ref l ∧ vs = [y] ∧ H l = some (.lst xs) ∧ xs.length < sizeLine ∧ Q .non (upd H l (.lst (xs ++ [y])))
theorem mt_append : MtM X "list.append" rAppend := by
  intro pins s σ H x vs v us Q I rx rv h
  obtain ⟨l, xs, y, rfl, rfl, hH, hz, q⟩ := h
  cases rx
  obtain ⟨u, rfl, ru⟩ := rv.one
  obtain ⟨z, its, n, r, hl, e⟩ := I.lstM hH
  refine call_meets F.slot_list_append ⟨_, e, rfl⟩ F.entry_list_append (F.args_list_append_2 _ _) (PySem.list_append l its.toArray n u (by rw [List.size_toArray]; omega)) ⟨e, ?_⟩
  refine ⟨.non, _, I.lset (its' := its ++ [u]) hH e (by simp) (r.append (.cons ru .nil)) ?_, rfl, q⟩
  rw [List.length_append, List.length_singleton]
  omega

/-! ### list + list, list += list, list * int -/
def rCat : R2 := fun x y H Q => ∃ l b xs zs, x = .ref l ∧ y = .ref b ∧ H l = some (.lst xs) ∧ H b = some (.lst zs) ∧ xs.length + zs.length ≤ sizeLine ∧ ∀ p, H p = none → Q (.ref p) (upd H p (.lst (xs ++ zs)))
theorem op_cat : OpR X (binaryOp .Add) rCat := by
  intro pins s σ H x y v u Q I rx ry h
  obtain ⟨l, b, xs, zs, rfl, rfl, hH, hB, hz, q⟩ := h
  cases rx
  cases ry
  obtain ⟨z, its, n, r, hl, e⟩ := I.lstM hH
  obtain ⟨z2, its2, n2, r2, hl2, e2⟩ := I.lstM hB
  refine PySem.P.add_list e e2 ?_ (by rw [List.size_toArray, List.size_toArray]; omega)
  have ea : its.toArray ++ its2.toArray = (its ++ its2).toArray := by simp
  rw [ea]
  exact ⟨.ref _, _, I.lnew (t' := s.toks) (r.append r2) (by rw [List.length_append]; omega), rfl, q _ I.fresh⟩
/-! ### del xs[i] -/
end

/-! ### xs[a:b] = ys -/
section
variable {prog : Program} {w : World} {A : Around} {E : Value → Shared → Prop} {s : Shared}
set_option maxRecDepth 100000 in
end

section
variable {X : Cx}
end
end L2

namespace Att
open PySem PySem.W PySem.Calls PyProof.Rows

/-! ### the script -/
theorem ints_of_wellAll {P : Params} {h : Heap} : ∀ (ns : List Int) (vs : List Value), WellAll P h vs (ns.map WData.int) → IntsAre vs ns := by
  intro ns
  induction ns with
  | nil =>
    intro vs w
    rw [List.map_nil] at w
    cases w
    exact .nil
  | cons n ns ih =>
    intro vs w
    rw [List.map_cons] at w
    cases w with
    | cons a b =>
      cases a
      exact .cons _ _ (ih _ b)

theorem script_of {l : OpenLaw} {n : Nat} (hn : l.most = some n) {P : Params} {h : Heap} {args : List WData} {vals : List Value}
    (hpre : l.row.toRowW.claim.pre args = true) (hwl : WellAll P h vals args) :
    ∃ a vs ns, vals = [Value.ref a] ∧ args = [WData.list (ns.map WData.int)] ∧ h.get? a = some { cls := .type "list", data := .seq vs.toArray } ∧ IntsAre vs ns ∧ ns.length ≤ n := by
  have hsh : WShape.hasAll [] args [.list .int] = true := (pre_splitW hpre).1
  have hc : l.pre.holds [] { args := args } = true := (pre_splitW hpre).2
  obtain ⟨d, r, rfl, h1, h2⟩ := hasAllW_cons hsh
  obtain rfl := hasAllW_nil h2
  obtain ⟨xs, rfl, h3⟩ := hasW_list h1
  obtain ⟨ns, rfl⟩ := items_int h3
  have hlen : ns.length ≤ n := by
    unfold OpenLaw.pre at hc
    have h4 : (WTm.not (.lt (.lit (.int (n : Int))) (.len (.arg 0)))).holds [] { args := [.list (ns.map .int)] } = true := by
      have h4 := (holds_andW hc).1
      rw [hn] at h4
      exact h4
    have h5 := condW_of h4 (w_not (w_lt w_lit (w_len_list (w_arg rfl))))
    rw [List.length_map] at h5
    refine Nat.le_of_not_lt fun q => ?_
    have q' : (n : Int) < ((ns.length : Nat) : Int) := by omega
    first
      | (rw [decide_eq_true q'] at h5; exact absurd h5 (by decide))
      | (simp at h5; omega)
  cases hwl with
  | cons w1 w2 =>
    cases w2
    cases w1 with
    | list ho hall => exact ⟨_, _, ns, rfl, rfl, ho, ints_of_wellAll ns _ hall, hlen⟩

theorem post_true (l : OpenLaw) (args : List WData) : l.row.toRowW.claim.post args (.bool true) args = true :=
  postW_of (r := l.row.toRowW) (X := (true == true))
    (show WShape.has [] (.bool true) .bool = true by first | rfl | decide | simp [WShape.has, WShape.arms, WShape.armsAll])
    (show (WTm.eq .res (.lit (.bool true))).value [] { args := args, res := some (.bool true), after := args } = some (.bool (true == true)) from w_eq_bool (w_res rfl) w_lit) rfl

/-! ### the attachment: holds_open's last premise (the goal 'hc' behind k_head) from a wpAny of the law's body -/
/-- the same from a codeAny of the CALL (for a layer whose function contracts speak of calls) -/
theorem attach_call {l : OpenLaw} {n : Nat} {q : Program} {loose : List Str} {XP : (Str → Option Value) → Heap → Prop} {YP : World → Heap → Prop} {d : DefRec}
    (hn : l.most = some n) (hdf : d.params.defaults = [])
    (call : ∀ (w : World) (s₀ s₁ : Shared) (mg mb : Str → Option Value) (fa : Addr) (o : Obj) (pm cd doc : Value) (a : Addr) (vs : List Value) (ns : List Int),
      Ground q loose [] XP w s₀ mg mb s₁.heap → YP w s₁.heap →
      s₁.heap.get? fa = some o → o.data = .func (docDef d.name d.params d.body d.scope pm cd doc) → s₁.heap.CodeRec cd d.name → mg d.name = some (.ref fa) →
      s₁.heap.get? a = some { cls := .type "list", data := .seq vs.toArray } → IntsAre vs ns → ns.length ≤ n → s₁.gens = #[] →
      codeAny (model l.prog w) callerA (.call (.ref fa) ⟨[.ref a], []⟩) (fun r s' => r = .ok (.ret (.bool true)) ∧ OldK s₁.heap s'.heap ∧ s'.os = s₁.os ∧ AllBare s'.gens) s₁) :
    WalkO q loose XP YP l.row.toRowW d [] (fun f vs => PySem.call f vs) := by
  intro w s₀ s₁ mg mb G Y fa o pm cd doc dV kV ho hd hcd hD hmg hg args vals as hpre hlay hrd hwl hlo
  obtain rfl : dV = .none := Dflts.none hD hdf
  obtain rfl : kV = .none := Dflts.noKw hD
  obtain ⟨a, vs, ns, rfl, rfl, hobj, hints, hlen⟩ := script_of hn hpre hwl
  refine enter_call (codeAny_mono (call w s₀ s₁ mg mb fa o pm cd doc a vs ns G Y ho (fd_plain hd) hcd hmg hobj hints hlen hg) fun r s' hq => ?_)
  obtain ⟨rfl, h2, h3, h4⟩ := hq
  exact ⟨.inl ⟨.bool true, .bool true, [], rfl, fun _ => rfl, .bool true, post_true l _, fun _ => ⟨List.Pairwise.nil, fun _ hm => (nomatch hm)⟩⟩, h2, h3, h4⟩

/-! ### rules over ANY heap (no ledger) from facts about the written part K: the library's own take a ledger (News) for what they write -/
section
variable {prog : Program} {w : World} {A : Around} {E : Value → Shared → Prop} {s : Shared} {K : Frag}

/-! the whole heap as the ledger: makes every rule that writes through a ledger a rule over any heap -/
end
end Att

namespace L2
open PySem PySem.Spec PyProof.Rows

theorem vals_ints : ∀ {vs : List Value} {ns : List Int}, IntsAre vs ns → Vals (ns.map V.int) vs
  | _, _, .nil => .nil
  | _, _, .cons n t h => .cons ⟨t, rfl⟩ (vals_ints h)

/-- nothing is tracked but the script, known to the object (or it is an object of the module) -/
def Only (H : Hp) : Prop := ∀ b, H b = none ∨ ∃ o xs, H b = some (.frz o (.lst xs))

/-- THE HEAD: the law's promise, at the heap behind the top. F, the promise of the law's def, may use that base is part of the heap (so K.In base, base.Ns mainGlobals mg stand in Mod) -/
theorem law_call {P : Program} {w : World} {K : PySem.W.Frag} {mg mb : Str → Option Value} {CX : CXT} {k : Nat} {fa a : Addr} {fd : FuncData} {x : Str} {sp : Sp} {s₁ : Shared} {vs : List Value} {ns : List Int}
    (KX : K.In s₁.heap) (hns : s₁.heap.Ns mainGlobals mg) (hb : s₁.heap.Ns builtinsNs mb) (hbb : ∀ x : Str, x ≠ "__name__" → mb x = bootBuiltins x) (hlim : s₁.heap.NoLimit) (hg : s₁.gens = #[])
    (ha : s₁.heap.get? a = some { cls := .type "list", data := .seq vs.toArray }) (hi : IntsAre vs ns) (hl : ns.length ≤ sizeLine) (hr : Room k callerA)
    (F : ∀ base : Heap, K.In base → base.Ns mainGlobals mg → FnOk P w K mg base CX k fa fd [x] sp) (hbind : ∀ (s : Shared) (u : Value), BindsTo s fd ⟨[u], []⟩ [(x, u)])
    (hsp : ∀ H : Hp, Only H → SqL K H a (ns.map V.int) → sp [.ref a] H (fun v _ => v = .bl true) fun _ _ _ => False)
    (hCX : ∀ H e s', CX [] H s₁ (fun _ _ _ => False) e s' → False) :
    codeAny (model P w) callerA (.call (.ref fa) ⟨[.ref a], []⟩) (fun r s' => r = .ok (.ret (.bool true)) ∧ OldK s₁.heap s'.heap ∧ s'.os = s₁.os ∧ AllBare s'.gens) s₁ := by
  have rv := vals_ints hi
  have lenV := hi.length
  -- from an abstract heap in which nothing but the script may be tracked
  have core : ∀ H : Hp, Only H → SqL K H a (ns.map V.int) → HOk P w H s₁.heap → (∀ b, H b ≠ none → b = a) → (H a ≠ none → K.lookup a = none) →
      codeAny (model P w) callerA (.call (.ref fa) ⟨[.ref a], []⟩) (fun r s' => r = .ok (.ret (.bool true)) ∧ OldK s₁.heap s'.heap ∧ s'.os = s₁.os ∧ AllBare s'.gens) s₁ := by
    intro H hO hS hok hA hK
    have base_of : ∀ {b : Addr} {o : Obj}, s₁.heap.get? b = some o → H b = none → (hidT s₁.heap H).get? b = some o := fun e n => hidT_get e n
    have noA : ∀ {b : Addr} {o : Obj} {es : Array DictEntry} {ep : Nat}, s₁.heap.get? b = some o → o.data = .dict es ep → H b = none := fun {b o es ep} e d => by
      cases q : H b with
      | none => rfl
      | some u =>
        have e' : b = a := hA b (by rw [q]; simp)
        subst e'
        rw [ha] at e; cases e
        have d' : Data.seq vs.toArray _ = Data.dict es ep := d
        cases d'
    have nsK : ∀ {b : Addr} {m : Str → Option Value}, s₁.heap.Ns b m → (hidT s₁.heap H).Ns b m := fun {b m} ⟨o, es, ep, e, d, r⟩ => ⟨o, es, ep, base_of e (noA e d), d, r⟩
    have hKb : K.In (hidT s₁.heap H) := fun b o e => base_of (KX b o e) (by
      cases q : H b with
      | none => rfl
      | some u =>
        have e' : b = a := hA b (by rw [q]; simp)
        subst e'
        rw [hK (by rw [q]; simp)] at e; cases e)
    have hM : Mod K mg (hidT s₁.heap H) := ⟨hKb, nsK hns, ⟨mb, nsK hb, hbb⟩, let ⟨mc, h1, h2⟩ := hlim; ⟨mc, nsK h1, h2⟩⟩
    have e0 : Env0 P w K mg (hidT s₁.heap H) callerA [] s₁ H := ⟨rfl, hM, fun b o e => of_hidT e, Nat.le_of_eq (hidT_size _ _), trivial, fun b hb => absurd (show b ∈ ([] : List Addr) from hb) (by simp), hok, .of_eq hg⟩
    refine codeAny_mono ((F _ hKb (nsK hns)).run callerA [] s₁ H ⟨[.ref a], []⟩ [.ref a] [.ref a] _ _ hr e0 (hbind s₁ (.ref a)) (.cons rfl .nil) (hsp H hO hS)) fun r s' h => ?_
    cases r with
    | error e => exact (hCX H e s' h).elim
    | ok fl =>
      cases fl with
      | next => exact False.elim h
      | brk => exact False.elim h
      | cont => exact False.elim h
      | ret u =>
        obtain ⟨v, H', os, bare, un, hok', r', q⟩ := h
        have q' : v = .bl true := q
        subst q'
        obtain rfl : u = Value.bool true := r'
        refine ⟨rfl, OldK.of_keep fun b o e => ?_, os, bare⟩
        cases q : H b with
        | none => exact un.keep b o e q (by intro z; exact absurd (show b ∈ ([] : List Addr) from z) (by simp)) (by simp)
        | some u =>
          rcases hO b with z | ⟨ob, xs, z⟩
          · rw [q] at z; cases z
          · have z2 := un.frzs b ob _ z
            obtain ⟨e1, _⟩ := hok b _ z
            obtain ⟨e2, _⟩ := hok' b _ z2
            rw [e] at e1; cases e1
            exact e2
  cases hk : K.lookup a with
  | some o =>
    -- the script is one of the module's own objects
    have e := KX a o hk
    rw [ha] at e
    cases e
    refine core (fun _ => none) (fun _ => .inl rfl) (.inr ⟨_, vs.toArray, _, hk, rfl, rfl, rfl, by rw [List.size_toArray, lenV]; exact hl, by simpa using rv⟩) (fun b u z => by have z' : (none : Option HO) = some u := z; cases z') (fun b z => absurd rfl z) fun z => absurd rfl z
  | none =>
    refine core (fun b => if b = a then some (.frz { cls := .type "list", data := .seq vs.toArray } (.lst (ns.map V.int))) else none) (fun b => ?_) (.inl (.inr ⟨{ cls := .type "list", data := .seq vs.toArray }, if_pos rfl⟩)) (fun b u z => ?_) (fun b z => ?_) fun _ => hk
    · by_cases hb : b = a
      · exact .inr ⟨_, _, if_pos hb⟩
      · exact .inl (if_neg hb)
    · by_cases hb : b = a
      · have z' := (if_pos hb).symm.trans z
        cases z'
        subst hb
        exact ⟨ha, by rw [List.length_map]; exact hl, vs, _, rv, ha⟩
      · have z' := (if_neg hb).symm.trans z
        cases z'
    · by_cases hb : b = a
      · exact hb
      · exact absurd (if_neg hb) z
end L2

namespace L2
open PySem PySem.Spec PyProof.Rows

end L2


/-! SHORT WORDS over the layer: a def of the text, its body, what a loop and a test want. -/
namespace L2
open PySem PySem.Spec PyProof.Rows

/-! ### the text by places -/
/-- the j-th statement of a class's body -/
def inClass (s : Stmt) (j : Nat) : Stmt := match s with
  | .ClassDef _ _ _ body _ _ _ _ _ _ _ => body.getD j (.Pass ⟨0, 0, 0, 0⟩)
  | _ => .Pass ⟨0, 0, 0, 0⟩
def defArgs (s : Stmt) : Arguments := match s with
  | .FunctionDef _ a _ _ _ _ _ _ _ _ => a
  | _ => { posonlyargs := [], args := [], vararg := none, kwonlyargs := [], kw_defaults := [], kwarg := none, defaults := [] }
def defBody (s : Stmt) : List Stmt := match s with
  | .FunctionDef _ _ b _ _ _ _ _ _ _ => b
  | _ => []
def defScope (s : Stmt) : Scope := match s with
  | .FunctionDef _ _ _ _ _ _ sc _ _ _ => sc
  | _ => { kind := .function, names := [], isGenerator := false, isCoroutine := false }

/-! ### no exception leaves a def -/
abbrev CX0 : CXT := fun _ _ _ _ _ _ => False
abbrev E0 : XK := fun _ _ _ => False
theorem pass0 {X : Cx} : Passes CX0 X E0 := fun _ _ _ _ _ _ _ h => h.elim

/-! ### a def (or method) of the text as it stands behind the top -/
structure Fun (K : PySem.W.Frag) (x qual : Str) (st : Stmt) (f : Addr) (fd : FuncData) : Prop where
  ex : ∃ (oc : Value) (od : Option Addr) (kV doc pm : Value) (an : Option Addr) (cdv ct : Value) (osl : Array (Option Value)),
    fd = PySem.W.fnOf x qual (defArgs st) (defBody st) (defScope st) .none kV doc pm an cdv ct ∧ K.lookup f = some ⟨oc, od, .func fd, osl⟩ ∧ PySem.W.codeIn K cdv qual = true
  kp : PySem.W.keepIn K (.ref f) = true
section
variable {P : Program} {w : World} {K : PySem.W.Frag} {mg : Str → Option Value} {base : Heap}
/-- THE RULE for a def: its body as a term of rules, and the reading of that term -/
theorem Fun.ok {x qual : Str} {st : Stmt} {f : Addr} {fd : FuncData} {N ps : List Str} {k : Nat} {sp : Sp} (F : Fun K x qual st f fd) (S : FnScope N ps (defScope st)) (len : ∀ vs H Q E, sp vs H Q E → vs.length = ps.length)
    (hbody : ∀ (cdv : Value) (A : Around) (outer : List Env) (s : Shared) (H : Hp) (vs : List V) (Q : VK) (E : XK), Room k (A.deeper (envOfC qual (defScope st) s.heap.objs.size f cdv)) → sp vs H Q E →
      ∃ t, PSs (cxOf CX0 P w K mg base N qual (defScope st) f cdv A outer s H E).nox (defBody st) t ∧ t { nx := fun _ H' => Q .non H', rt := Q } (start N vs) H) : FnOk P w K mg base CX0 (k + 1) f fd ps sp := by
  obtain ⟨oc, od, kV, doc, pm, an, cdv, ct, osl, rfl, lk, hcd⟩ := F.ex
  refine fn_of lk hcd S len fun A outer s H vs Q E hr hsp => ?_
  obtain ⟨t, h, q⟩ := hbody cdv A outer s H vs Q E hr hsp
  exact ⟨t, h.nox, q⟩
/-- how its arguments bind (no defaults): h is «fun _ _ _ _ _ _ us hl => match us, hl with | [_, _], _ => rfl», one _ a parameter -/
theorem Fun.binds {x qual : Str} {st : Stmt} {f : Addr} {fd : FuncData} {ps : List Str} (F : Fun K x qual st f fd)
    (h : ∀ (kV doc pm : Value) (an : Option Addr) (cdv ct : Value) (us : List Value), us.length = ps.length → bindArgs (PySem.W.fnOf x qual (defArgs st) (defBody st) (defScope st) .none kV doc pm an cdv ct) ⟨us, []⟩ = pure (ps.zip us)) : Binds K fd ps [] := by
  obtain ⟨oc, od, kV, doc, pm, an, cdv, ct, osl, rfl, lk, hcd⟩ := F.ex
  exact .all (h kV doc pm an cdv ct)
theorem fun_mk {x qual : Str} {st : Stmt} {f : Addr} {oc : Value} {od an : Option Addr} {osl : Array (Option Value)} {kV doc pm cdv ct : Value} (l : K.lookup f = some ⟨oc, od, .func (PySem.W.fnOf x qual (defArgs st) (defBody st) (defScope st) .none kV doc pm an cdv ct), osl⟩)
    (c : PySem.W.codeIn K cdv qual = true) (k : PySem.W.keepIn K (.ref f) = true) : Fun K x qual st f (PySem.W.fnOf x qual (defArgs st) (defBody st) (defScope st) .none kV doc pm an cdv ct) := ⟨⟨oc, od, kV, doc, pm, an, cdv, ct, osl, rfl, l, c⟩, k⟩
end
/-! ### expressions in short: the name that stands in the i-th slot -/
section
variable {X : Cx}
theorem pv (i : Nat) {x : Str} {pos : Pos} (hN : X.N[i]? = some x := by rfl) (hv : Vis X.env.scope x := by first | exact Or.inl rfl | exact Or.inr (Or.inl rfl) | exact Or.inr (Or.inr rfl)) (hd : (x == ("__debug__" : Str)) = false := by decide)
    (hcd : (x == ("__classdict__" : Str)) = false := by decide) : PE X (.Name x pos) (tVar i) := pe_var hN hv hd hcd
end

/-! ### tests -/
theorem iteF {A B : Prop} (h : B) : if false = true then A else B := by
  rw [if_neg Bool.false_ne_true]
  exact h
theorem iteT {A B : Prop} (h : A) : if true = true then A else B := by
  rw [if_pos rfl]
  exact h
theorem ite2 {c A B : Prop} [Decidable c] (h1 : c → A) (h2 : ¬ c → B) : if c then A else B := by
  by_cases h : c
  · rw [if_pos h]
    exact h1 h
  · rw [if_neg h]
    exact h2 h
theorem iteNS {c A B : Prop} [Decidable c] (hc : c) (h : B) : if (!decide c) = true then A else B := by
  rw [decide_eq_true hc]
  exact iteF h

/-! ### heaps -/
/-- all that was tracked is as it was -/
def Same (H H' : Hp) : Prop := ∀ b o, H b = some o → H' b = some o
theorem Same.refl (H : Hp) : Same H H := fun _ _ h => h
theorem Same.trans {H H1 H2 : Hp} (a : Same H H1) (b : Same H1 H2) : Same H H2 := fun c o h => b c o (a c o h)
theorem Same.seq {K : PySem.W.Frag} {H H' : Hp} {a : Addr} {xs : List V} (e : Same H H') (h : SqL K H a xs) : SqL K H' a xs := by
  rcases h with (h | ⟨o, h⟩) | h
  · exact .inl (.inl (e _ _ h))
  · exact .inl (.inr ⟨o, e _ _ h⟩)
  · exact .inr h

end L2

section
set_option Elab.async false
set_option linter.all false
set_option maxRecDepth 100000
set_option maxHeartbeats 4000000
namespace Sh
open PySem PySem.Spec PyProof.Rows L2

/-! ### rules that the layer lacks -/
section
variable {X : Cx}
theorem sl_str : SlR X (fun x lo hi H Q => ∃ z : Str, x = .str z ∧ z.length ≤ sizeLine ∧ Q (.str (Txt.slice z lo hi)) H) := by
  intro pins s σ H x v vl vu lo hi sl Q I rx hs pl pu h
  obtain ⟨z, rfl, hz, q⟩ := h
  obtain ⟨t, rfl⟩ := rx
  refine ⟨"str", _, F.slot_str_getitem.lookup, typeIs_str _ _ _, ?_⟩
  cases pl with
  | none =>
    cases pu with
    | none => exact wpAny_getItem_str_slice (l := none) (u := none) (st := none) hs rfl (post_val_or_str ⟨Nat.le_trans (Txt.slice_le z _ _) hz, fun t' k => ⟨.str _, H, I.tok k, ⟨t', rfl⟩, q⟩⟩)
    | int j uj => exact wpAny_getItem_str_slice (l := none) (u := some (j, uj)) (st := none) hs rfl (post_val_or_str ⟨Nat.le_trans (Txt.slice_le z _ _) hz, fun t' k => ⟨.str _, H, I.tok k, ⟨t', rfl⟩, q⟩⟩)
  | int i ui =>
    cases pu with
    | none => exact wpAny_getItem_str_slice (l := some (i, ui)) (u := none) (st := none) hs rfl (post_val_or_str ⟨Nat.le_trans (Txt.slice_le z _ _) hz, fun t' k => ⟨.str _, H, I.tok k, ⟨t', rfl⟩, q⟩⟩)
    | int j uj => exact wpAny_getItem_str_slice (l := some (i, ui)) (u := some (j, uj)) (st := none) hs rfl (post_val_or_str ⟨Nat.le_trans (Txt.slice_le z _ _) hz, fun t' k => ⟨.str _, H, I.tok k, ⟨t', rfl⟩, q⟩⟩)

theorem call_isinst : CallR X (.builtin "isinstance") (fun xs H Q => ∃ x T t b, xs = [x, .ty T] ∧ TyOf X.K H x t ∧ PySem.W.kitOne X.K t (.type T) = some b ∧ Q (.bl b) H) := by
  intro pins s σ H xs us Q I r h
  obtain ⟨x, T, t, b, rfl, ty, e, q⟩ := h
  obtain ⟨u, c, rfl, rx, rc⟩ := vals2 r
  cases (show c = Value.type T from rc)
  exact isinst_ok I rx ty e fun tk => ⟨.bl b, H, I.tok tk, rfl, q⟩

theorem kit_int_int {K : PySem.W.Frag} : PySem.W.kitOne K (.type "int") (.type "int") = some true := by with_unfolding_all rfl
theorem kit_int_bool {K : PySem.W.Frag} : PySem.W.kitOne K (.type "int") (.type "bool") = some false := by with_unfolding_all rfl
end
end Sh

end
section
set_option Elab.async false
set_option linter.all false
set_option maxRecDepth 100000
set_option maxHeartbeats 4000000
namespace Sh
open PySem PySem.Spec PyProof.Rows L2

/-! ### words: terms and forms -/
inductive Tag where
  | fn | rel | no | same | cond | all
  deriving DecidableEq
def Tag.s : Tag → Str
  | .fn => "fun" | .rel => "rel" | .no => "no" | .same => "same" | .cond => "if" | .all => "all"
def Tag.named : Tag → Bool
  | .fn => true | .rel => true | _ => false
inductive Wd where
  | var (n : Int)
  | node (t : Tag) (nm : Str) (ps : List Wd)
def Wd.parts : Wd → List Wd
  | .var _ => []
  | .node _ _ ps => ps
mutual
def knots : Wd → Nat
  | .var _ => 1
  | .node _ _ ps => 1 + knotsL ps
def knotsL : List Wd → Nat
  | [] => 0
  | w :: ws => knots w + knotsL ws
end
mutual
def dep : Wd → Nat
  | .var _ => 1
  | .node _ _ ps => 1 + depL ps
def depL : List Wd → Nat
  | [] => 0
  | w :: ws => max (dep w) (depL ws)
end
theorem dep_pos : ∀ w : Wd, 1 ≤ dep w
  | .var _ => by rw [dep]; exact Nat.le_refl _
  | .node _ _ ps => by rw [dep]; omega
theorem knots_pos : ∀ w : Wd, 1 ≤ knots w
  | .var _ => by rw [knots]; exact Nat.le_refl _
  | .node _ _ ps => by rw [knots]; omega
theorem depL_le {n : Nat} : ∀ {ps : List Wd}, (∀ p ∈ ps, dep p ≤ n) → depL ps ≤ n
  | [], _ => by rw [depL]; omega
  | p :: r, h => by
    have h1 := h p (List.mem_cons_self ..)
    have h2 := depL_le (ps := r) fun q hq => h q (List.mem_cons_of_mem _ hq)
    rw [depL]; omega
theorem knotsL_le {n : Nat} : ∀ {ps : List Wd}, (∀ p ∈ ps, knots p ≤ n) → knotsL ps ≤ ps.length * n
  | [], _ => by simp only [knotsL, List.length_nil, Nat.zero_mul]; exact Nat.le_refl _
  | p :: r, h => by
    have h1 := h p (List.mem_cons_self ..)
    have h2 := knotsL_le (ps := r) fun q hq => h q (List.mem_cons_of_mem _ hq)
    simp only [knotsL, List.length_cons, Nat.add_mul, Nat.one_mul]; omega
theorem len_le_knotsL : ∀ ps : List Wd, ps.length ≤ knotsL ps
  | [] => Nat.zero_le _
  | p :: r => by
    have h1 := knots_pos p
    have h2 := len_le_knotsL r
    rw [knotsL, List.length_cons]; omega

/-! ### names, terms, forms -/
def IsName (x : Str) : Prop := 1 ≤ x.length ∧ x.length ≤ 12 ∧ ∀ c ∈ x.cps.toList, 97 ≤ c ∧ c ≤ 122
def IsTerm : Nat → Wd → Prop
  | _, .var n => 0 ≤ n ∧ n < 1000
  | 0, .node _ _ _ => False
  | d + 1, .node t nm ps => t = .fn ∧ IsName nm ∧ ps.length ≤ 3 ∧ ∀ p ∈ ps, IsTerm d p
def IsForm : Nat → Wd → Prop
  | _, .var _ => False
  | d, .node t nm ps => match t with
    | .fn => False
    | .no => nm = "" ∧ ps = []
    | .same => nm = "" ∧ ∃ a b, ps = [a, b] ∧ IsTerm 2 a ∧ IsTerm 2 b
    | .rel => IsName nm ∧ ps.length ≤ 3 ∧ ∀ p ∈ ps, IsTerm 2 p
    | .cond => match d with
      | 0 => False
      | d + 1 => nm = "" ∧ ∃ a b, ps = [a, b] ∧ IsForm d a ∧ IsForm d b
    | .all => match d with
      | 0 => False
      | d + 1 => nm = "" ∧ ∃ a, ps = [a] ∧ IsForm d a
theorem IsTerm.mono : ∀ {d e : Nat} {w : Wd}, IsTerm d w → d ≤ e → IsTerm e w
  | d, e, .var n, h, _ => by
    have h' : 0 ≤ n ∧ n < 1000 := by cases d <;> simpa only [IsTerm] using h
    cases e <;> simpa only [IsTerm] using h'
  | 0, e, .node t nm ps, h, _ => by simp only [IsTerm] at h
  | d + 1, e, .node t nm ps, h, le => by
    cases e with
    | zero => omega
    | succ e =>
      simp only [IsTerm] at h ⊢
      exact ⟨h.1, h.2.1, h.2.2.1, fun p hp => (h.2.2.2 p hp).mono (by omega)⟩
theorem IsTerm.dep : ∀ {d : Nat} {w : Wd}, IsTerm d w → dep w ≤ d + 1
  | d, .var n, _ => by rw [Sh.dep]; omega
  | 0, .node t nm ps, h => by simp only [IsTerm] at h
  | d + 1, .node t nm ps, h => by
    simp only [IsTerm] at h
    have := depL_le (n := d + 1) fun p hp => (h.2.2.2 p hp).dep
    rw [Sh.dep]; omega
theorem IsTerm.knots2 {w : Wd} (h : IsTerm 2 w) : knots w ≤ 13 := by
  have k0 : ∀ {w : Wd}, IsTerm 0 w → knots w ≤ 1 := by
    intro w h
    cases w with
    | var n => rw [knots]; exact Nat.le_refl _
    | node t nm ps => simp only [IsTerm] at h
  have k1 : ∀ {w : Wd}, IsTerm 1 w → knots w ≤ 4 := by
    intro w h
    cases w with
    | var n => rw [knots]; omega
    | node t nm ps =>
      simp only [IsTerm] at h
      have := knotsL_le (n := 1) fun p hp => k0 (h.2.2.2 p hp)
      have := h.2.2.1
      rw [knots]; omega
  cases w with
  | var n => rw [knots]; omega
  | node t nm ps =>
    simp only [IsTerm] at h
    have := knotsL_le (n := 4) fun p hp => k1 (h.2.2.2 p hp)
    have := h.2.2.1
    rw [knots]; omega
theorem IsForm.mono : ∀ {d e : Nat} {w : Wd}, IsForm d w → d ≤ e → IsForm e w
  | d, e, .var n, h, _ => by simp only [IsForm] at h
  | d, e, .node t nm ps, h, le => by
    cases t with
    | fn => simp only [IsForm] at h
    | no => simp only [IsForm] at h ⊢; exact h
    | same => simp only [IsForm] at h ⊢; exact h
    | rel => simp only [IsForm] at h ⊢; exact h
    | cond =>
      cases d with
      | zero => simp only [IsForm] at h
      | succ d =>
        cases e with
        | zero => omega
        | succ e =>
          simp only [IsForm] at h ⊢
          obtain ⟨h0, a, b, rfl, ha, hb⟩ := h
          exact ⟨h0, a, b, rfl, ha.mono (by omega), hb.mono (by omega)⟩
    | all =>
      cases d with
      | zero => simp only [IsForm] at h
      | succ d =>
        cases e with
        | zero => omega
        | succ e =>
          simp only [IsForm] at h ⊢
          obtain ⟨h0, a, rfl, ha⟩ := h
          exact ⟨h0, a, rfl, ha.mono (by omega)⟩
theorem IsForm.dep : ∀ {d : Nat} {w : Wd}, IsForm d w → dep w ≤ d + 4
  | d, .var n, h => by simp only [IsForm] at h
  | d, .node t nm ps, h => by
    cases t with
    | fn => simp only [IsForm] at h
    | no => simp only [IsForm] at h; rw [h.2, Sh.dep, depL]; omega
    | same =>
      simp only [IsForm] at h
      obtain ⟨_, a, b, rfl, ha, hb⟩ := h
      have := ha.dep; have := hb.dep
      simp only [Sh.dep, depL]; omega
    | rel =>
      simp only [IsForm] at h
      have := depL_le (n := 3) fun p hp => (h.2.2 p hp).dep
      rw [Sh.dep]; omega
    | cond =>
      cases d with
      | zero => simp only [IsForm] at h
      | succ d =>
        simp only [IsForm] at h
        obtain ⟨h0, a, b, rfl, ha, hb⟩ := h
        have := ha.dep; have := hb.dep
        simp only [Sh.dep, depL]; omega
    | all =>
      cases d with
      | zero => simp only [IsForm] at h
      | succ d =>
        simp only [IsForm] at h
        obtain ⟨h0, a, rfl, ha⟩ := h
        have := ha.dep
        simp only [Sh.dep, depL]; omega
theorem IsForm.knots : ∀ {d : Nat} {w : Wd}, IsForm d w → knots w + 1 ≤ 41 * 2 ^ d
  | d, .var n, h => by simp only [IsForm] at h
  | d, .node t nm ps, h => by
    have hp := Nat.one_le_two_pow (n := d)
    cases t with
    | fn => simp only [IsForm] at h
    | no => simp only [IsForm] at h; rw [h.2, Sh.knots, knotsL]; omega
    | same =>
      simp only [IsForm] at h
      obtain ⟨_, a, b, rfl, ha, hb⟩ := h
      have := ha.knots2; have := hb.knots2
      simp only [Sh.knots, knotsL]; omega
    | rel =>
      simp only [IsForm] at h
      have := knotsL_le (n := 13) fun p hp => (h.2.2 p hp).knots2
      rw [Sh.knots]; omega
    | cond =>
      cases d with
      | zero => simp only [IsForm] at h
      | succ d =>
        simp only [IsForm] at h
        obtain ⟨h0, a, b, rfl, ha, hb⟩ := h
        have := ha.knots; have := hb.knots
        simp only [Sh.knots, knotsL, Nat.pow_succ]; omega
    | all =>
      cases d with
      | zero => simp only [IsForm] at h
      | succ d =>
        simp only [IsForm] at h
        obtain ⟨h0, a, rfl, ha⟩ := h
        have := ha.knots
        simp only [Sh.knots, knotsL, Nat.pow_succ]; omega

/-! ### words in the heap -/
inductive Shp (H : Hp) (a : Addr) (t : Tag) (nm : Str) (vs : List V) : Prop
  | named (b : Addr) (hn : t.named = true) (ha : H a = some (.tup [.str t.s, .str nm, .ref b])) (hb : H b = some (.tup vs))
  | plain (hn : t.named = false) (ha : H a = some (.tup (.str t.s :: vs))) (hm : nm = "")
mutual
def Rw (H : Hp) : Wd → V → Prop
  | .var n, v => ∃ a, v = .ref a ∧ H a = some (.tup [.str "var", .int n])
  | .node t nm ps, v => ∃ a vs, v = .ref a ∧ Rws H ps vs ∧ Shp H a t nm vs
def Rws (H : Hp) : List Wd → List V → Prop
  | [], vs => vs = []
  | w :: ws, vs => ∃ v r, vs = v :: r ∧ Rw H w v ∧ Rws H ws r
end
/-- tuples are kept -/
def Tk (H H' : Hp) : Prop := ∀ b xs, H b = some (.tup xs) → H' b = some (.tup xs)
theorem tk_lst {H : Hp} {p : Addr} {xs : List V} (h : H p = some (.lst xs)) (o : HO) : Tk H (upd H p o) := fun b ys q => by
  rw [upd_ne (ne_of q h (by intro z; cases z))]; exact q
theorem Shp.mono {H H' : Hp} (k : Tk H H') {a : Addr} {t : Tag} {nm : Str} {vs : List V} (h : Shp H a t nm vs) : Shp H' a t nm vs := by
  cases h with
  | named b hn ha hb => exact .named b hn (k _ _ ha) (k _ _ hb)
  | plain hn ha hm => exact .plain hn (k _ _ ha) hm
mutual
theorem Rw.mono {H H' : Hp} (k : Tk H H') : ∀ {w : Wd} {v : V}, Rw H w v → Rw H' w v
  | .var n, v, h => by
    rw [Rw] at h ⊢
    obtain ⟨a, e, q⟩ := h
    exact ⟨a, e, k _ _ q⟩
  | .node t nm ps, v, h => by
    rw [Rw] at h ⊢
    obtain ⟨a, vs, e, q, r⟩ := h
    exact ⟨a, vs, e, Rws.mono k q, r.mono k⟩
theorem Rws.mono {H H' : Hp} (k : Tk H H') : ∀ {ws : List Wd} {vs : List V}, Rws H ws vs → Rws H' ws vs
  | [], vs, h => by rw [Rws] at h ⊢; exact h
  | w :: ws, vs, h => by
    rw [Rws] at h ⊢
    obtain ⟨v, r, e, q, z⟩ := h
    exact ⟨v, r, e, Rw.mono k q, Rws.mono k z⟩
end
theorem Rws.nil {H : Hp} : Rws H [] [] := by rw [Rws]
theorem Rws.cons {H : Hp} {w : Wd} {ws : List Wd} {v : V} {vs : List V} (h : Rw H w v) (r : Rws H ws vs) : Rws H (w :: ws) (v :: vs) := by
  rw [Rws]; exact ⟨v, vs, rfl, h, r⟩
theorem Rws.length {H : Hp} : ∀ {ws : List Wd} {vs : List V}, Rws H ws vs → vs.length = ws.length
  | [], vs, h => by rw [Rws] at h; rw [h]; rfl
  | w :: ws, vs, h => by
    rw [Rws] at h
    obtain ⟨v, r, rfl, _, z⟩ := h
    rw [List.length_cons, List.length_cons, Rws.length z]
theorem Rws.get {H : Hp} : ∀ {ws : List Wd} {vs : List V} {i : Nat} {v : V}, Rws H ws vs → vs[i]? = some v → ∃ w, ws[i]? = some w ∧ Rw H w v
  | [], vs, i, v, h, e => by rw [Rws] at h; subst h; cases e
  | w :: ws, vs, i, v, h, e => by
    rw [Rws] at h
    obtain ⟨u, r, rfl, q, z⟩ := h
    cases i with
    | zero =>
      have e' : u = v := Option.some.inj (by simpa using e)
      subst e'
      exact ⟨w, rfl, q⟩
    | succ i => exact Rws.get (i := i) z (by simpa using e)
theorem Rws.append {H : Hp} : ∀ {ws : List Wd} {vs : List V} {ws' : List Wd} {vs' : List V}, Rws H ws vs → Rws H ws' vs' → Rws H (ws ++ ws') (vs ++ vs')
  | [], vs, ws', vs', h, h' => by rw [Rws] at h; subst h; exact h'
  | w :: ws, vs, ws', vs', h, h' => by
    rw [Rws] at h
    obtain ⟨u, r, rfl, q, z⟩ := h
    exact Rws.cons q (Rws.append z h')
theorem Rws.snoc {H : Hp} {ws : List Wd} {vs : List V} {w : Wd} {v : V} (h : Rws H ws vs) (q : Rw H w v) : Rws H (ws ++ [w]) (vs ++ [v]) := h.append (.cons q .nil)
theorem Rw.var {H : Hp} {a : Addr} {n : Int} (h : H a = some (.tup [.str "var", .int n])) : Rw H (.var n) (.ref a) := by rw [Rw]; exact ⟨a, rfl, h⟩
theorem Rw.node {H : Hp} {a : Addr} {t : Tag} {nm : Str} {ps : List Wd} {vs : List V} (r : Rws H ps vs) (h : Shp H a t nm vs) : Rw H (.node t nm ps) (.ref a) := by rw [Rw]; exact ⟨a, vs, rfl, r, h⟩

/-! ### places -/
theorem at0 {α : Type} {x : α} {xs : List α} : atI (x :: xs) 0 = some x := by simp [atI, ixN]
theorem at1 {α : Type} {x y : α} {xs : List α} : atI (x :: y :: xs) 1 = some y := by
  have h : (1 : Int) < ((x :: y :: xs).length : Int) := by simp only [List.length_cons]; omega
  unfold atI ixN; rw [if_pos (by decide), if_pos h]; rfl
theorem at2 {α : Type} {x y z : α} {xs : List α} : atI (x :: y :: z :: xs) 2 = some z := by
  have h : (2 : Int) < ((x :: y :: z :: xs).length : Int) := by simp only [List.length_cons]; omega
  unfold atI ixN; rw [if_pos (by decide), if_pos h]; rfl

/-! ### tags as texts -/
theorem tag_var (t : Tag) : decide (V.str t.s = V.str "var") = false := by cases t <;> decide +kernel
theorem var_var : decide (V.str "var" = V.str "var") = true := decide_eq_true rfl
end Sh

end
section
set_option Elab.async false
set_option linter.all false
set_option maxRecDepth 100000
set_option maxHeartbeats 4000000
namespace Sh
open PySem PySem.Spec PyProof.Rows L2

/-! ### a def of the text, and its promise, by its name -/
def Def (K : PySem.W.Frag) (mg : Str → Option Value) (x : Str) (st : Stmt) (ps : List Str) : Prop :=
  ∃ f fd, Fun K x x st f fd ∧ Binds K fd ps [] ∧ mg x = some (.ref f)
def Ok (P : Program) (w : World) (K : PySem.W.Frag) (mg : Str → Option Value) (base : Heap) (x : Str) (ps : List Str) (k : Nat) (sp : Sp) : Prop :=
  ∃ f fd, FnOk P w K mg base CX0 k f fd ps sp ∧ Binds K fd ps [] ∧ mg x = some (.ref f) ∧ PySem.W.keepIn K (.ref f) = true
section
variable {P : Program} {w : World} {K : PySem.W.Frag} {mg : Str → Option Value} {base : Heap} {x : Str} {st : Stmt} {N ps : List Str} {k : Nat} {sp : Sp}
theorem Def.ok (D : Def K mg x st ps) (S : FnScope N ps (defScope st)) (len : ∀ vs H Q E, sp vs H Q E → vs.length = ps.length)
    (hbody : ∀ (f : Addr) (cdv : Value) (A : Around) (outer : List Env) (s : Shared) (H : Hp) (vs : List V) (Q : VK) (E : XK), Room k (A.deeper (envOfC x (defScope st) s.heap.objs.size f cdv)) → sp vs H Q E →
      ∃ t, PSs (cxOf CX0 P w K mg base N x (defScope st) f cdv A outer s H E).nox (defBody st) t ∧ t { nx := fun _ H' => Q .non H', rt := Q } (start N vs) H) : Ok P w K mg base x ps (k + 1) sp := by
  obtain ⟨f, fd, F, b, m⟩ := D
  exact ⟨f, fd, F.ok S len (hbody f), b, m, F.kp⟩
theorem Def.void (D : Def K mg x st ps) (no : ∀ vs H Q E, ¬ sp vs H Q E) : Ok P w K mg base x ps k sp := by
  obtain ⟨f, fd, F, b, m⟩ := D
  exact ⟨f, fd, ⟨fun vs H Q E h => absurd h (no vs H Q E), fun A outer s H args us vs Q E _ _ _ _ h => absurd h (no vs H Q E)⟩, b, m, F.kp⟩
theorem Ok.mono {j : Nat} (G : Ok P w K mg base x ps k sp) (h : k ≤ j) : Ok P w K mg base x ps j sp := by
  obtain ⟨f, fd, F, r⟩ := G
  exact ⟨f, fd, F.mono h, r⟩
end
section
variable {X : Cx} {x : Str} {ps : List Str} {k j : Nat} {sp : Sp} {p pos : Pos} {e : Expr} {es : List Expr} {t : TA}
theorem pe_ok (G : Ok X.prog X.w X.K X.mg X.base x ps k sp) (hr : Room j X.A) (hk : k ≤ j) (hg : Gl X x) (ha : PA X (e :: es) t) (hdb : (x == ("__debug__" : Str)) = false := by decide)
    (he : starEach (e :: es) X.env = (false, eval e X.env) :: starEach es X.env := by rfl) (hpl : (backTo pos (starEach es X.env)).any (·.1) = false := by rfl) : PE X (.Call (.Name x p) (e :: es) [] pos) (tCall sp [] E0 t) := by
  obtain ⟨f, fd, F, b, m, kp⟩ := G
  exact pe_call F (hr.mono hk) hg m kp b .nil pass0 ha hdb he hpl
end
/-! ### the built-in names are not the module's -/
structure Blt (mg : Str → Option Value) : Prop where
  len : mg "len" = none
  range : mg "range" = none
  int : mg "int" = none
  bool : mg "bool" = none
  str : mg "str" = none
  tuple : mg "tuple" = none
  isinstance : mg "isinstance" = none
  zip : mg "zip" = none
  list : mg "list" = none
  sorted : mg "sorted" = none
  max : mg "max" = none
  min : mg "min" = none
  ord : mg "ord" = none
  enumerate : mg "enumerate" = none
  dict : mg "dict" = none
  sum : mg "sum" = none
  ValueError : mg "ValueError" = none
section
variable {X : Cx} {pos : Pos}
theorem pe_ty_int {p : Pos} (h : X.mg "int" = none) (hg : Gl X "int") : PE X (.Name "int" p) (tC (.ty "int")) := pe_bltn hg h PyProof.Rows.boot_int rfl
theorem pe_ty_bool {p : Pos} (h : X.mg "bool" = none) (hg : Gl X "bool") : PE X (.Name "bool" p) (tC (.ty "bool")) := pe_bltn hg h PyProof.Rows.boot_bool rfl
theorem pe_ty_str {p : Pos} (h : X.mg "str" = none) (hg : Gl X "str") : PE X (.Name "str" p) (tC (.ty "str")) := pe_bltn hg h PyProof.Rows.boot_str rfl
theorem pe_ty_tuple {p : Pos} (h : X.mg "tuple" = none) (hg : Gl X "tuple") : PE X (.Name "tuple" p) (tC (.ty "tuple")) := pe_bltn hg h PyProof.Rows.boot_tuple rfl
end
theorem five (k : Int) : ∃ c : Int, atI [V.int 48271, V.int 69621, V.int 16807, V.int 40692, V.int 39373] (k % 5) = some (V.int c) ∧ -1000000 < c ∧ c < 1000000 := by
  have h0 := Int.emod_nonneg k (show (5 : Int) ≠ 0 by decide)
  have h1 := Int.emod_lt_of_pos k (show (0 : Int) < 5 by decide)
  have h : k % 5 = 0 ∨ k % 5 = 1 ∨ k % 5 = 2 ∨ k % 5 = 3 ∨ k % 5 = 4 := by omega
  rcases h with e | e | e | e | e <;> rw [e]
  · exact ⟨48271, by decide, by decide, by decide⟩
  · exact ⟨69621, by decide, by decide, by decide⟩
  · exact ⟨16807, by decide, by decide, by decide⟩
  · exact ⟨40692, by decide, by decide, by decide⟩
  · exact ⟨39373, by decide, by decide, by decide⟩
theorem alpha_list : ("abcdefghijklmnopqrstuvwxyz" : Str).cps.toList = List.range' 97 26 := by decide +kernel
theorem alpha (m : Int) : ∃ c : Nat, atI ("abcdefghijklmnopqrstuvwxyz" : Str).cps.toList (m % 26) = some c ∧ 97 ≤ c ∧ c ≤ 122 := by
  have h0 := Int.emod_nonneg m (show (26 : Int) ≠ 0 by decide)
  have h1 := Int.emod_lt_of_pos m (show (0 : Int) < 26 by decide)
  obtain ⟨k, e⟩ : ∃ k : Nat, m % 26 = (k : Int) := ⟨(m % 26).toNat, by omega⟩
  refine ⟨97 + k, ?_, by omega, by omega⟩
  rw [e, alpha_list]
  refine atI_nat ?_
  rw [List.getElem?_range' (by omega)]
  simp
theorem str_add_cps (x y : Str) : (x ++ y).cps.toList = x.cps.toList ++ y.cps.toList := by
  show (x.cps ++ y.cps).toList = _
  rw [Array.toList_append]
theorem str_add_len (x y : Str) : (x ++ y).length = x.length + y.length := by
  show (x.cps ++ y.cps).size = _
  rw [Array.size_append]
  rfl
theorem mem_slice {x : Str} {l u : Option Int} {c : Nat} (h : c ∈ (Txt.slice x l u).cps.toList) : c ∈ x.cps.toList := by
  unfold Txt.slice at h
  split at h
  · exact h
  · obtain ⟨i, hi, e⟩ := List.mem_filterMap.mp (by simpa using h)
    exact Array.mem_toList_iff.mpr (Array.mem_of_getElem? e)
theorem name_head {x : Str} (h : IsName x) : IsName (Txt.slice x none (some 1)) := by
  have hl := Txt.slice_le x none (some 1)
  refine ⟨?_, Nat.le_trans hl h.2.1, fun c hc => h.2.2 c (mem_slice hc)⟩
  have h1 := h.1
  unfold Txt.slice
  split
  · exact h1
  · have e : Builtin.Str.strSliceIndices none (some 1) 1 x.length = [0] := by
      obtain ⟨n, hn⟩ : ∃ n, x.length = n + 1 := ⟨x.length - 1, by omega⟩
      rw [hn]
      show sliceRange 0 (max 0 (min 1 ((n + 1 : Nat) : Int))) 1 = [0]
      have e1 : max 0 (min 1 ((n + 1 : Nat) : Int)) = 1 := by omega
      rw [e1]
      decide
    have h2 : 0 < x.cps.size := h1
    rw [e]
    simp [Str.length, h2]
theorem orJoin {c : Prop} [Decidable c] {T U rest : Prop} (hT : T) (hrest : ¬ c → T → rest) : if c then (if true = true then T else U) else rest := by
  by_cases h : c
  · rw [if_pos h, if_pos rfl]; exact hT
  · rw [if_neg h]; exact hrest h hT
theorem fst_of (b : Bool) : ∃ ft : Nat, V.int (1 + if b = true then 1 else 0) = V.int ft ∧ ft ≤ 2 := by
  cases b
  · exact ⟨1, rfl, by omega⟩
  · exact ⟨2, rfl, by omega⟩
theorem IsForm.no {d : Nat} : IsForm d (.node .no "" []) := by rw [IsForm]; exact ⟨rfl, rfl⟩
theorem IsForm.same {d : Nat} {a b : Wd} (ha : IsTerm 2 a) (hb : IsTerm 2 b) : IsForm d (.node .same "" [a, b]) := by rw [IsForm]; exact ⟨rfl, a, b, rfl, ha, hb⟩
theorem IsForm.rel {d : Nat} {nm : Str} {ps : List Wd} (hn : IsName nm) (hl : ps.length ≤ 3) (hp : ∀ p ∈ ps, IsTerm 2 p) : IsForm d (.node .rel nm ps) := by rw [IsForm]; exact ⟨hn, hl, hp⟩
theorem IsForm.cond {d : Nat} {a b : Wd} (ha : IsForm d a) (hb : IsForm d b) : IsForm (d + 1) (.node .cond "" [a, b]) := by rw [IsForm]; exact ⟨rfl, a, b, rfl, ha, hb⟩
theorem IsForm.all {d : Nat} {a : Wd} (ha : IsForm d a) : IsForm (d + 1) (.node .all "" [a]) := by rw [IsForm]; exact ⟨rfl, a, rfl, ha⟩
theorem tag_no (t : Tag) : decide (V.str t.s = V.str "no") = decide (t = .no) := by cases t <;> decide +kernel
theorem tag_all (t : Tag) : decide (V.str t.s = V.str "all") = decide (t = .all) := by cases t <;> decide +kernel
theorem tag_same (t : Tag) : decide (V.str t.s = V.str "same") = decide (t = .same) := by cases t <;> decide +kernel
theorem tag_if (t : Tag) : decide (V.str t.s = V.str "if") = decide (t = .cond) := by cases t <;> decide +kernel

/-! ### what holds of every word within a word -/
mutual
def Her (p : Wd → Prop) : Wd → Prop
  | .var n => p (.var n)
  | .node t nm ps => p (.node t nm ps) ∧ HerL p ps
def HerL (p : Wd → Prop) : List Wd → Prop
  | [] => True
  | w :: ws => Her p w ∧ HerL p ws
end
theorem herL_of {p : Wd → Prop} : ∀ {ws : List Wd}, (∀ w ∈ ws, Her p w) → HerL p ws
  | [], _ => True.intro
  | w :: r, h => ⟨h w (List.mem_cons_self ..), herL_of fun u hu => h u (List.mem_cons_of_mem _ hu)⟩
end Sh

end
section
set_option Elab.async false
set_option linter.all false
set_option maxRecDepth 100000
set_option maxHeartbeats 4000000
namespace Sh
open PySem PySem.Spec PyProof.Rows L2

/-! ### things that are known by their very object; laying them by, taking them back -/
def Is (a : Addr) (o : Obj) : Heap → Prop := fun h => h.get? a = some o
section
variable {H : Hp} {cs : List (Addr × Obj)} {b : Addr} {o : Obj}
end
section
variable {P : Program} {w : World} {H H' : Hp} {h h' : Heap} {cs : List (Addr × Obj)}
end

/-! ### the table of a def's inner defs: empty, or with the one code in it -/
def CodeIn (H : Hp) (c : Addr) (q : Str) : Prop := ∃ co vs t, H c = some (.ext (Is c co)) ∧ co.data = .fields vs ∧ vs[1]? = some (.str q t)
/-- which tables there are: the place and the name of the one inner def -/
class Inn where
  at_ : Addr → Option (Pos × Str)
variable [Inn]
def TabI (H : Hp) (T : Addr) : Prop :=
  ∃ pos q, Inn.at_ T = some (pos, q) ∧ ∃ ps, H T = some (.tbl ps) ∧ (ps = #[] ∨ ∃ c, ps = #[rawInt pos.line, rawInt pos.col, .ref c] ∧ CodeIn H c q)
def Fx : HO → Bool
  | .tbl _ => false
  | _ => true
/-- all that was tracked is as it was; tables may have grown -/
structure Same (H H' : Hp) : Prop where
  fix : ∀ b o, H b = some o → Fx o = true → H' b = some o
  tab : ∀ T, TabI H T → TabI H' T
theorem Same.refl (H : Hp) : Same H H := ⟨fun _ _ h _ => h, fun _ h => h⟩
theorem Same.trans {H H1 H2 : Hp} (a : Same H H1) (b : Same H1 H2) : Same H H2 := ⟨fun c o h f => b.fix c o (a.fix c o h f) f, fun T h => b.tab T (a.tab T h)⟩
theorem Same.at {H H' : Hp} (s : Same H H') {b : Addr} {o : HO} (h : H b = some o) (f : Fx o = true := by rfl) : H' b = some o := s.fix b o h f
theorem CodeIn.mono {H H' : Hp} {c : Addr} {q : Str} (h : CodeIn H c q) (k : ∀ b o, H b = some (.ext (Is b o)) → H' b = some (.ext (Is b o))) : CodeIn H' c q := by
  obtain ⟨co, vs, t, e, r⟩ := h
  exact ⟨co, vs, t, k _ _ e, r⟩
theorem TabI.mono {H H' : Hp} {T : Addr} (h : TabI H T) (kt : ∀ ps, H T = some (.tbl ps) → H' T = some (.tbl ps)) (k : ∀ b o, H b = some (.ext (Is b o)) → H' b = some (.ext (Is b o))) : TabI H' T := by
  obtain ⟨pos, q, hi, ps, e, r⟩ := h
  refine ⟨pos, q, hi, ps, kt ps e, ?_⟩
  rcases r with r | ⟨c, r, z⟩
  · exact .inl r
  · exact .inr ⟨c, r, z.mono k⟩
theorem same_of {H H' : Hp} (k : ∀ b o, H b = some o → H' b = some o) : Same H H' := ⟨fun b o h _ => k b o h, fun T h => h.mono (fun ps e => k _ _ e) fun b o e => k _ _ e⟩
theorem same_new {H : Hp} {p : Addr} (h : H p = none) (o : HO) : Same H (upd H p o) := same_of fun b u q => by rw [upd_ne (ne_of_none q h)]; exact q
theorem same_own {H0 H : Hp} {p : Addr} {xs : List V} (s : Same H0 H) (h : H0 p = none) (hx : H p = some (.lst xs)) (o : HO) : Same H0 (upd H p o) :=
  ⟨fun b u q f => by rw [upd_ne (ne_of_none q h)]; exact s.fix b u q f, fun T z => (s.tab T z).mono (fun ps e => by rw [upd_ne (ne_of e hx (by intro z; cases z))]; exact e) fun b o' e => by rw [upd_ne (ne_of e hx (by intro z; cases z))]; exact e⟩
theorem tk_of {H H' : Hp} (h : Same H H') : Tk H H' := fun b xs e => h.at e
theorem Same.seq {K : PySem.W.Frag} {H H' : Hp} {a : Addr} {xs : List V} (e : Same H H') (h : SqL K H a xs) : SqL K H' a xs := by
  rcases h with (h | ⟨o, h⟩) | h
  · exact .inl (.inl (e.at h))
  · exact .inl (.inr ⟨o, e.at h⟩)
  · exact .inr h
/-! ### a closure: what of it stands in the heap -/
/-! ### the body of a closure -/
end Sh

end
section
set_option Elab.async false
set_option linter.all false
set_option maxRecDepth 100000
set_option maxHeartbeats 4000000
namespace Sh
open PySem PySem.Spec PyProof.Rows L2
variable [Inn]

/-! ### where a def of the text keeps the codes of its inner defs -/
structure Tab (base : Heap) (mg : Str → Option Value) (c T : Addr) : Prop where
  code : PySem.W.CodeHd base c T
  blt : base.BuiltinsAt mg T
  gl : mainGlobals ≠ T
section
variable {X : Cx} {pins : List (Addr × Obj)} {σ : L2.St} {H : Hp} {s : Shared} {c T : Addr}
end

/-! ### a lambda; an inner def -/
section
variable {X : Cx} {params : Arguments} {scope : Scope} {pos : Pos} {c T : Addr} {clos : List (Str × Addr)}
end

/-! ### a call of a def that is given a closure: the cells that the closure has are laid by for the callee -/
section
variable {X : Cx} {x : Str} {ps : List Str} {k j : Nat} {cap : List (Nat × Str)} {p pos : Pos} {e : Expr} {es : List Expr} {t : TA}
end

/-! ### a call of a function that a name holds -/
section
variable {X : Cx} {x : Str} {i k j : Nat} {p pos : Pos} {e : Expr} {es : List Expr} {t : TA}
end
end Sh

end
section
set_option Elab.async false
set_option linter.all false
set_option maxRecDepth 100000
set_option maxHeartbeats 4000000
namespace Sh
open PySem PySem.Spec PyProof.Rows L2

/-! ### [elt for x in iter] -/
def clOf (scope : Scope) (env : Env) : List (Str × Addr) := (scope.names.filterMap fun y => if y.2 == .free then (env.cells.lookup y.1).map fun c => (y.1, c) else none).reverse
theorem clOf_mem {scope : Scope} {env : Env} {x : Str} {c : Addr} (h : (x, c) ∈ clOf scope env) : env.cells.lookup x = some c := by
  unfold clOf at h
  rw [List.mem_reverse] at h
  obtain ⟨⟨n, k⟩, _, e⟩ := List.mem_filterMap.mp h
  split at e
  · cases q : env.cells.lookup n with
    | none => simp only [q] at e; cases e
    | some d =>
      simp only [q] at e
      cases e
      exact q
  · cases e
theorem clOf_some {scope : Scope} {env : Env} {x : Str} {c : Addr} (h : (clOf scope env).lookup x = some c) : env.cells.lookup x = some c := clOf_mem (PySem.mem_of_lookup h)
theorem lookup_of_key {α : Type} {x : Str} : ∀ {l : List (Str × α)}, (∃ v, (x, v) ∈ l) → ∃ v, l.lookup x = some v
  | [], ⟨v, h⟩ => by cases h
  | (y, u) :: r, ⟨v, h⟩ => by
    rw [List.lookup_cons]
    by_cases e : x = y
    · rw [e, beq_self_eq_true]; exact ⟨u, rfl⟩
    · rw [beq_eq_false_iff_ne.mpr e]
      rcases List.mem_cons.mp h with z | z
      · cases z; exact absurd rfl e
      · exact lookup_of_key ⟨v, z⟩
theorem clOf_has {scope : Scope} {env : Env} {x : Str} {c : Addr} (h : (x, NameKind.free) ∈ scope.names) (hc : env.cells.lookup x = some c) : (clOf scope env).lookup x = some c := by
  obtain ⟨v, hv⟩ := lookup_of_key (l := clOf scope env) (x := x) ⟨c, by
    unfold clOf
    rw [List.mem_reverse]
    refine List.mem_filterMap.mpr ⟨(x, .free), h, ?_⟩
    simp [hc]⟩
  have := clOf_some hv
  rw [hc] at this; cases this
  exact hv
/-- the scope of a comprehension within a def's: closed facts -/
structure LcScope (x : Str) (fr : List Str) (sc scope : Scope) : Prop where
  kind : scope.kind = .function
  nocell : ∀ y ∈ scope.names, y.2 ≠ .cell
  loc : scope.names.lookup x = some .local
  names : ∀ y ∈ scope.names, y.2 = .local → scope.names.lookup y.1 = some .local
  sub : ∀ y ∈ scope.names, y.2 = .free → sc.names.lookup y.1 = some .cell ∨ sc.names.lookup y.1 = some .free
  fre : ∀ y ∈ fr, scope.names.lookup y = some .free
  nd : (x :: fr).Nodup
theorem relabel_kind {scope : Scope} {env : Env} {y : Str} : (relabel scope env).names.lookup y = (scope.names.lookup y).map fun k => if (k == .free && env.scope.kind == .function && env.kindOf y == some .cell) = true then .cell else k := by
  unfold relabel
  simp only
  induction scope.names with
  | nil => rfl
  | cons p r ih =>
    obtain ⟨n, k⟩ := p
    simp only [List.map_cons]
    by_cases hc : (k == .free && env.scope.kind == .function && env.kindOf n == some .cell) = true
    · rw [if_pos hc, List.lookup_cons, List.lookup_cons]
      by_cases e : y = n
      · subst e
        rw [beq_self_eq_true]
        show some NameKind.cell = some (if _ then _ else _)
        rw [if_pos hc]
      · rw [beq_eq_false_iff_ne.mpr e]; exact ih
    · rw [if_neg hc, List.lookup_cons, List.lookup_cons]
      by_cases e : y = n
      · subst e
        rw [beq_self_eq_true]
        show some k = some (if _ then _ else _)
        rw [if_neg hc]
      · rw [beq_eq_false_iff_ne.mpr e]; exact ih
/-- the captured names' values -/
def capS (σ : L2.St) (ix : List Nat) : L2.St := ix.map fun i => (σ[i]?).join
/-- the block's context -/
def cxLc (X : Cx) (x : Str) (fr : List Str) (scope : Scope) (C : Addr) (s₃ : Shared) (H₃ : Hp) (fp : List Addr) (pins : List (Addr × Obj)) : Cx :=
  { X with N := x :: fr, s₀ := s₃, H₀ := H₃, env := compEnvC scope (clOf scope X.env) C X.env, outer := X.stack, stack := X.stack, ex := fp, fn := fun _ => false, pn := X.pn ++ pins, xe := fun _ _ => False }
section
variable {X : Cx} {x : Str} {fr : List Str} {scope : Scope} {pins : List (Addr × Obj)} {σ : L2.St} {H : Hp} {s₃ : Shared} {h₁ : Heap} {tk : Nat} {fp : List Addr} {ix : List Nat}
theorem inv_lc (I : Inv X pins σ H s₃) (S : LcScope x fr X.env.scope scope) (hix : ix.length = fr.length) (hN : ∀ (j : Nat) (i : Nat) (y : Str), ix[j]? = some i → fr[j]? = some y → X.N[i]? = some y)
    (hf : ∀ b ∈ fp, FpOk X pins H b ∧ b < s₃.heap.objs.size) (hns : h₁.Ns s₃.heap.objs.size fun _ => none) (hk : ∀ b o, s₃.heap.get? b = some o → h₁.get? b = some o) :
    Inv (cxLc X x fr scope s₃.heap.objs.size s₃ H fp pins) [] (none :: capS σ ix) H { s₃ with heap := h₁, toks := tk } := by
  have cl : ∀ y c, (clOf scope X.env).lookup y = some c → X.env.cells.lookup y = some c := fun y c e => clOf_some e
  have has : ∀ y, scope.names.lookup y = some .free → ∃ c, (clOf scope X.env).lookup y = some c := fun y e => by
    have hm := PySem.mem_of_lookup e
    obtain ⟨c, hc⟩ := I.ok.has y (S.sub _ hm rfl)
    exact ⟨c, clOf_has hm hc⟩
  have rel : ∀ y, (relabel scope X.env).names.lookup y = some .cell ∨ (relabel scope X.env).names.lookup y = some .free → scope.names.lookup y = some .free := fun y h => by
    rw [relabel_kind] at h
    cases e : scope.names.lookup y with
    | none => rw [e] at h; rcases h with h | h <;> cases h
    | some k =>
      cases k with
      | free => rfl
      | cell => exact absurd rfl (S.nocell _ (PySem.mem_of_lookup e))
      | _ => rw [e] at h; rcases h with h | h <;> simp at h
  refine ⟨⟨I.ok.mod, S.kind, I.ok.glob, I.ok.blt, Nat.le_refl _, fun y z c h1 h2 => I.ok.inj y z c (cl _ _ h1) (cl _ _ h2), fun y hy => has y (rel y hy), (fun y c z _ => absurd z Bool.false_ne_true), I.ok.hd, I.ok.frames, .inl rfl,
    fun b hb => ⟨Nat.ne_of_lt (hf b hb).2, fun y c e => (hf b hb).1.2.2.2.2.1 y c (cl y c e)⟩, I.bs, Nat.le_trans I.ok.bsz I.sz, fun b o e hb => ?_, fun b hb hs => ?_, I.stack, I.stkFree⟩,
    rfl, I.bare, Un.kept hk, ⟨_, hns, fun j y v h1 h2 h3 => ?_⟩, fun y c e => ?_, I.hok.fresh (Nat.le_refl _), fun y c e => I.freeC y c (cl y c e), fun p hp => ?_, I.hok.kept hk, ?_⟩
  · rcases (hf b hb).1.2.2.2.1 with z | z
    · exact I.ok.noex b o e z
    · exact absurd (Nat.lt_of_lt_of_le (Heap.lt_size e) (Nat.le_trans I.ok.bsz z)) (Nat.lt_irrefl _)
  · rcases List.mem_cons.mp (I.stkSub b hs) with z | z
    · exact (hf b hb).1.2.1 z
    · exact (hf b hb).1.2.2.1 z
  · cases j with
    | zero => simp at h2
    | succ j =>
      have h1' : fr[j]? = some y := by simpa [cxLc] using h1
      have h2' : (capS σ ix)[j]? = some (some v) := by simpa using h2
      unfold capS at h2'
      rw [List.getElem?_map] at h2'
      cases e : ix[j]? with
      | none => rw [e] at h2'; cases h2'
      | some i =>
        rw [e] at h2'
        have h4 : (σ[i]?).join = some v := Option.some.inj h2'
        have h5 : σ[i]? = some (some v) := by
          cases q : σ[i]? with
          | none => rw [q] at h4; cases h4
          | some o => rw [q] at h4; rw [show o = some v from h4]
        have hy := S.fre y (List.mem_of_getElem? h1')
        have hm := PySem.mem_of_lookup hy
        have hv : Vis X.env.scope y := by rcases S.sub _ hm rfl with z | z; exact .inr (.inl z); exact .inr (.inr z)
        obtain ⟨m, _, hl⟩ := I.loc
        obtain ⟨u, ru, lk⟩ := hl i y v (hN j i y e h1') h5 hv
        refine ⟨u, ru, .inr ⟨?_, ?_⟩⟩
        · show (relabel scope X.env).names.lookup y = some .cell ∨ (relabel scope X.env).names.lookup y = some .free
          rw [relabel_kind, hy]
          simp only [Option.map_some]
          split
          · exact .inl rfl
          · exact .inr rfl
        · rcases lk with ⟨z, _⟩ | ⟨_, c, e1, e2⟩
          · rcases S.sub _ hm rfl with z2 | z2
            · have z' : X.env.scope.names.lookup y = some .local := z
              rw [z2] at z'; cases z'
            · have z' : X.env.scope.names.lookup y = some .local := z
              rw [z2] at z'; cases z'
          · exact ⟨c, clOf_has hm e1, e2.keeps hk⟩
  · obtain ⟨v, z⟩ := I.cell y c (cl y c e)
    exact ⟨v, z.keeps hk⟩
  · have hp' : p ∈ X.pn ++ pins := by simpa [cxLc] using hp
    obtain ⟨q1, q2, q3, q4, q5⟩ := I.pin p hp'
    refine ⟨hk _ _ q1, q2, Nat.ne_of_lt (Heap.lt_size q1), fun hs => ?_, q5⟩
    rcases List.mem_cons.mp (I.stkSub _ hs) with z | z
    · exact q3 z
    · exact q4 z
  · show (capS σ ix).length + 1 = fr.length + 1
    unfold capS
    rw [List.length_map, hix]
/-- behind the block -/
theorem inv_lc_end {σ' : L2.St} {H' : Hp} {s' : Shared} {h' : Heap} (I : Inv X pins σ H s₃) (J : Inv (cxLc X x fr scope s₃.heap.objs.size s₃ H fp pins) [] σ' H' s') (hf : ∀ b ∈ fp, FpOk X pins H b) (hs : Heap.SameBut s₃.heap.objs.size s'.heap h') :
    Inv X pins σ H' { s' with heap := h' } := by
  have ne : ∀ b o, s₃.heap.get? b = some o → b ≠ s₃.heap.objs.size := fun b o e => Nat.ne_of_lt (Heap.lt_size e)
  have to : ∀ b o, b ≠ s₃.heap.objs.size → s'.heap.get? b = some o → h'.get? b = some o := fun b o hb e => (hs.2 b hb).trans e
  have u : Un (frs X.stack) fp H H' s₃.heap s'.heap := J.base
  have hC : H' s₃.heap.objs.size = none := J.free
  refine I.call' (s' := { s' with heap := h' }) (ch := fp) J.os ⟨fun b o e n hb hx => to b o (ne b o e) (u.keep b o e n hb hx), fun b o e n hb hx => ?_, u.free, fun b o e hx => ?_, u.tups, u.frzs, u.tbls⟩ (fun a v e => ?_) J.bare fun b hb => ⟨(hf b hb).2.2.2.1, (hf b hb).2.1, (hf b hb).2.2.2.2.1, (hf b hb).2.2.2.2.2⟩
  · obtain ⟨sl, z⟩ := u.slot b o e n hb hx
    exact ⟨sl, to b _ (ne b o e) z⟩
  · obtain ⟨o', z⟩ := u.there b o e hx
    exact ⟨o', to b _ (ne b o e) z⟩
  · have J2 : HOk X.prog X.w H' s'.heap := J.hok
    refine (J2 a v e).stay (fun b w' hb z => to b w' (fun y => ?_) z) (fun _ z => z) fun _ _ z => z
    rcases hb with rfl | hb
    · rw [y, hC] at e; cases e
    · rw [y, hC] at hb; cases hb
end
def tLC (wi : TI) (ix : List Nat) (te : TE) : TE := fun σ H Q => wi σ H fun J H1 => ∀ D, H1 D = none → ∃ W : Nat → Nat → Hp → Prop, (∃ m, W 0 m (upd H1 D (.lst []))) ∧ ∀ i m H, W i m H →
  (J.stop i H ∧ Q (.ref D) H) ∨ (J.go i H ∧ ∃ N : Hp → Prop, (∀ H', N H' → ∃ m', m' < m ∧ W (i + 1) m' H') ∧ ∀ x H', J.yld i H x H' → te (some x :: capS σ ix) H' fun y H2 => rAppend (.ref D) [y] H2 fun _ H3 => N H3)
section
variable {X : Cx} {x : Str} {fr : List Str} {scope : Scope} {iter elt : Expr} {px pos : Pos} {wi : TI} {te : TE} {ix : List Nat}
/-- the loop of a comprehension, whatever its list is used for -/
theorem lc_loop {use : Option (Value → Sem Unit)} {PQ : Value → Shared → Prop} (hcalm : X.calm = true) (S : LcScope x fr X.env.scope scope) (he : ∀ s₃ H₃ fp pins, PE (cxLc X x fr scope s₃.heap.objs.size s₃ H₃ fp pins) elt te)
    {pins : List (Addr × Obj)} {σ : L2.St} {H3 : Hp} {D it : Addr} {s3 : Shared} {fp : List Addr} {J : It} {tn : Nat → Heap → Prop} {W : Nat → Nat → Hp → Prop} {R : Hp → Prop} {m0 : Nat} (I3 : Inv X pins σ H3 s3) (T : Turn X.prog X.w X.K (.Name x px) J fp it tn)
    (hfp3 : ∀ b ∈ fp, FpOk X pins H3 b ∧ b < s3.heap.objs.size) (hW0 : W 0 m0 H3)
    (hW : ∀ i m H, W i m H → (J.stop i H ∧ R H) ∨ (J.go i H ∧ ∃ N : Hp → Prop, (∀ H', N H' → ∃ m', m' < m ∧ W (i + 1) m' H') ∧ ∀ x H', J.yld i H x H' → te (some x :: capS σ ix) H' fun y H2 => rAppend (.ref D) [y] H2 fun _ H3 => N H3))
    (fin : ∀ (s6 : Shared) (H5 : Hp) (o : Option V), Inv (cxLc X x fr scope s3.heap.objs.size s3 H3 fp pins) [] (o :: capS σ ix) H5 s6 → R H5 → compPost (model X.prog X.w) X.A (fun _ _ => False) use PQ (.ref D) s3.heap.objs.size (.ok .next) s6) :
    ∀ s4, Inv (cxLc X x fr scope s3.heap.objs.size s3 H3 fp pins) [] (none :: capS σ ix) H3 s4 → tn 0 s4.heap →
      codeAny (model X.prog X.w) X.A (.compLoop (.ListComp elt [⟨.Name x px, iter, [], 0⟩] scope pos) 0 (.ref it) (.ref D) (compEnvC scope (clOf scope X.env) s3.heap.objs.size X.env)) (compPost (model X.prog X.w) X.A (fun _ _ => False) use PQ (.ref D) s3.heap.objs.size) s4 := by
  intro s4 J4 ht4
  have hpg : PG (cxLc X x fr scope s3.heap.objs.size s3 H3 fp pins) (.Name x px) (gName 0) := pg_name (i := 0) S.nd rfl (Or.inl (by
    show (relabel scope X.env).names.lookup x = some .local
    rw [relabel_kind, S.loc]; rfl)) (Or.inr (by
    show (relabel scope X.env).names.lookup x = some .local
    rw [relabel_kind, S.loc]; rfl))
  have stat : ∀ {H' : Hp}, (∀ b ∈ fp, H' b = none) → ∀ b ∈ fp, FpOk (cxLc X x fr scope s3.heap.objs.size s3 H3 fp pins) [] H' b := fun hn b hb => by
    obtain ⟨⟨f0, f1, f2, f3, f4, f5⟩, hlt⟩ := hfp3 b hb
    have hlt' := hlt
    refine ⟨hn b hb, Nat.ne_of_lt hlt', fun hs => ?_, .inl hb, fun y c e => f4 y c (clOf_some e), fun p hp => f5 p (by simpa [cxLc] using hp)⟩
    rcases List.mem_cons.mp (I3.stkSub b hs) with z | z
    · exact f1 z
    · exact f2 z
  refine codeAny_loop rfl (fun n s5 => ∃ i H5 o, Inv (cxLc X x fr scope s3.heap.objs.size s3 H3 fp pins) [] (o :: capS σ ix) H5 s5 ∧ tn i s5.heap ∧ (∀ b ∈ fp, H5 b = none) ∧ W i n H5) (fun n s5 hI => ?_) m0
    ⟨0, _, none, J4, ht4, fun b hb => (hfp3 b hb).1.1, hW0⟩
  obtain ⟨i, H5, o, J5, ht5, fr5, w5⟩ := hI
  show wpAny _ X.A ((compTurn (.ListComp elt [⟨.Name x px, iter, [], 0⟩] scope pos) 0 (.ref it) (.ref D) (compEnvC scope (clOf scope X.env) s3.heap.objs.size X.env)).onRaise _) _ _ s5
  refine wpAny_noted ?_
  rw [compTurn_list1]
  refine wpAny_bind (wpAny_standAt (wpAny_bind ?_))
  rcases hW i n H5 w5 with ⟨stop, q⟩ | ⟨go, N, hN', step⟩
  · refine wpAny_mono (T.done (cxLc X x fr scope s3.heap.objs.size s3 H3 fp pins) rfl rfl rfl hcalm i [] s5 _ H5 (fun _ _ => False) J5 (stat fr5) ht5 stop) (fun r s6 ⟨hr, J6⟩ => ?_) fun _ _ z => z.elim
    subst hr
    exact wpAny_pure (fin _ _ _ J6 q)
  · refine wpAny_mono (T.item (cxLc X x fr scope s3.heap.objs.size s3 H3 fp pins) rfl rfl rfl hcalm i [] s5 _ H5 (fun _ _ => False) J5 (stat fr5) ht5 go) (fun r s6 ⟨u, hr, h6⟩ => ?_) fun _ _ z => z.elim
    subst hr
    refine wpAny_bind (wpAny_mono h6 (fun _ s7 ⟨v, H7, J7, r7, y7, ht7, fr7⟩ => ?_) fun _ _ z => z.elim)
    have J7' := J7.pinned (stat fr7) (T.obj _ _ ht7)
    refine wpAny_bind (wpAny_mono (hpg _ s7 _ H7 v u (fun σ' H' => σ' = some v :: capS σ ix ∧ H' = H7) J7' r7 ⟨rfl, rfl⟩) (fun _ s8 ⟨σ8, H8, J8, e8, e9⟩ => ?_) fun _ _ z => False.elim z)
    subst e8; subst e9
    refine wpAny_bind (wpAny_bind (wpAny_mono (he _ _ _ _ _ s8 _ H8 _ J8 (step v H8 y7)) (fun yv s9 ⟨y, H9, J9, r9, q9⟩ => ?_) fun _ _ z => False.elim z))
    refine wpAny_bind (wpAny_mono (mt_append (X := cxLc X x fr scope s3.heap.objs.size s3 H3 fp pins) _ s9 _ H9 (.ref D) [y] (.ref D) [yv] _ J9 rfl (.cons r9 .nil) q9) (fun _ s10 ⟨z, H10, J10, _, q10⟩ => ?_) fun _ _ z => False.elim z)
    obtain ⟨m', hm, w10⟩ := hN' _ q10
    refine wpAny_pure (wpAny_pure ⟨rfl, m', hm, i + 1, H10, some v, J10.unpinned, T.keep _ _ _ ht7 fun b hb ob e => (J10.pin (b, ob) (List.mem_append_right _ (List.mem_append_right _ (mem_pinsAt hb e)))).1, fun b hb => ?_, w10⟩)
    obtain ⟨ob, e, d⟩ := T.obj _ _ ht7 b hb
    exact (J10.pin (b, ob) (List.mem_append_right _ (List.mem_append_right _ (mem_pinsAt hb e)))).2.1
theorem pe_lcomp (hxe : X.xe = fun _ _ => False) (hcalm : X.calm = true) (S : LcScope x fr X.env.scope scope) (hix : ix.length = fr.length) (hN : ∀ (j : Nat) (i : Nat) (y : Str), ix[j]? = some i → fr[j]? = some y → X.N[i]? = some y)
    (hi : PI X (.Name x px) iter wi) (he : ∀ s₃ H₃ fp pins, PE (cxLc X x fr scope s₃.heap.objs.size s₃ H₃ fp pins) elt te) (hcl : closureFor scope X.env = pure (clOf scope X.env) := by rfl) (hs : ∀ v, foldedSetIterable iter X.env v = pure v := by intro _; rfl) :
    PE X (.ListComp elt [⟨.Name x px, iter, [], 0⟩] scope pos) (tLC wi ix te) := by
  intro pins s σ H Q I h
  rw [eval_ListComp]
  have hi' := hi pins s σ H _ I h
  rw [hxe] at hi' ⊢
  refine wpAny_comprehension_free (use := none) rfl hs hcl S.kind S.names (wpAny_mono hi' (fun v s1 h1 => wpAny_mono h1 (fun itv s2 h2 => ?_) fun _ _ e => e) fun _ _ e => e)
  obtain ⟨it, fp, tn, J, H1, rfl, I2, T, ht0, hfp, hR⟩ := h2
  have hD0 : H1 s2.heap.objs.size = none := I2.fresh
  obtain ⟨W, ⟨m0, hW0⟩, hW⟩ := hR s2.heap.objs.size hD0
  have I3 : Inv X pins σ (upd H1 s2.heap.objs.size (.lst [])) { s2 with heap := s2.heap.push { cls := .type "list", data := .seq ([] : List Value).toArray } } := I2.lnew (t' := s2.toks) (ys := []) (its := []) .nil (Nat.zero_le _)
  refine wpAny_newObj_type (wpAny_newFunctionEnv S.nocell (by intro y hy; simp at hy) (fun h₁ hns hsb => ?_) S.kind)
  have hk : ∀ b o, (s2.heap.push { cls := .type "list", data := .seq ([] : List Value).toArray }).get? b = some o → h₁.get? b = some o := fun b o e => hsb.extBut b o (Nat.ne_of_lt (Heap.lt_size e)) (Heap.get?_push_of_some _ e)
  have hfp3 : ∀ b ∈ fp, FpOk X pins (upd H1 s2.heap.objs.size (.lst [])) b ∧ b < (s2.heap.push { cls := .type "list", data := .seq ([] : List Value).toArray }).objs.size := fun b hb => by
    obtain ⟨o, ho, _⟩ := T.obj 0 _ ht0 b hb
    have hlt := Heap.lt_size ho
    obtain ⟨f0, f1, f2, f3, f4, f5⟩ := hfp b hb
    exact ⟨⟨by rw [upd_ne (Nat.ne_of_lt hlt)]; exact f0, f1, f2, f3, f4, f5⟩, Nat.lt_of_lt_of_le hlt (by rw [Heap.size_push]; exact Nat.le_succ _)⟩
  have J4 := inv_lc (tk := s2.toks + ([] : List (Str × Value)).length) I3 S hix hN hfp3 hns hk
  generalize hs3 : ({ s2 with heap := s2.heap.push { cls := .type "list", data := .seq ([] : List Value).toArray } } : Shared) = s3 at *
  have ht1 : tn 0 h₁ := T.keep 0 _ _ ht0 fun b hb o e => hk b o (Heap.get?_push_of_some _ e)
  -- the loop
  have loop := lc_loop (use := none) (PQ := EP X pins σ Q) (iter := iter) (pos := pos) hcalm S he I3 T (fun b hb => ⟨(hfp3 b hb).1, by rw [← hs3]; exact (hfp3 b hb).2⟩) hW0 hW fun s6 H5 o J6 q => by
    obtain ⟨m, hn, _⟩ := id J6.loc
    exact ⟨m, hn, fun h' hs => ⟨.ref s2.heap.objs.size, H5, inv_lc_end I3 J6 (fun b hb => (hfp3 b hb).1) hs, rfl, q⟩⟩
  subst hs3
  exact codeAny_compStart_list (loop _ J4 ht1) (T.self _ 0 _ _ _ ht1 (loop _ J4 ht1))
end
end Sh

end
section
set_option Elab.async false
set_option linter.all false
set_option maxRecDepth 100000
set_option maxHeartbeats 4000000
namespace Sh
open PySem PySem.Spec PyProof.Rows L2

/-! ### zip of two tuples, in a for with two names -/
section
variable {P : Program} {w : World} {A : Around} {E : Value → Shared → Prop} {s : Shared}
theorem nx_item {j t : Addr} {n : Nat} {its : Array Value} {y : Value} {Q : Value → Shared → Prop} (hj : s.heap.IsTupleIter j t n) (ht : s.heap.IsTuple t its) (hy : its[n]? = some y)
    (q : ∀ h2, h2.IsTupleIter j t (n + 1) → Heap.SameBut j s.heap h2 → Q y { s with heap := h2 }) : wpAny (model P w) A (Builtin.SmallTypes.nextOf (.ref j)) Q E s := by
  obtain ⟨oj, ej, cj, dj⟩ := id hj
  obtain ⟨ot, et, _, nt, dt⟩ := ht
  unfold Builtin.SmallTypes.nextOf
  refine wpAny_bind (wpAny_callSpecial?_slot (name := Str.ofString "__next__") hj.typeIs F.slot_tuple_iterator_next (wpAny_call_entry F.slot_tuple_iterator_next hj.typeIs F.entry_tuple_iterator_next ?_ (F.args_tuple_iterator_next_1 _)))
  show wpAny _ _ (field (.ref j) 0 >>= _) _ _ s
  refine wpAny_bind (wpAny_field ej dj (x := .ref t) rfl ?_)
  show wpAny (model P w) _ (if (Value.ref t == Value.none) = true then _ else _) _ _ s
  rw [if_neg (show ¬ ((Value.ref t == Value.none) = true) by exact Bool.false_ne_true)]
  show wpAny _ _ (field (.ref j) 1 >>= _) _ _ s
  refine wpAny_bind (wpAny_field ej dj (x := .int n 0) rfl ?_)
  show wpAny (model P w) _ (seqItems? (.ref t) >>= _) _ _ s
  refine wpAny_bind (wpAny_seqItems et dt ?_)
  simp only [Int.toNat_natCast, hy]
  refine wpAny_bind (wpAny_setField ej dj (by simp) (wpAny_pure ⟨y, rfl, wpAny_pure (q _ ?_ (Heap.SameBut.update ..))⟩))
  exact ⟨_, Heap.get?_update_self _ ej (Obj.isFreed_of_fields (Obj.data_mapFields dj _)), (Obj.cls_mapFields ..).trans cj, (by rw [Obj.data_mapFields dj]; simp [rawInt])⟩
theorem nx_end {j t : Addr} {n : Nat} {its : Array Value} {Q : Value → Shared → Prop} (hc : A.handled = none) (hj : s.heap.IsTupleIter j t n) (ht : s.heap.IsTuple t its) (hy : its[n]? = none)
    (q : ∀ h2 e, Heap.ExtBut j s.heap h2 → (∃ o, h2.get? e = some o ∧ o.cls = .type "StopIteration") → E (.ref e) { s with heap := h2 }) : wpAny (model P w) A (Builtin.SmallTypes.nextOf (.ref j)) Q E s := by
  obtain ⟨oj, ej, cj, dj⟩ := id hj
  obtain ⟨ot, et, _, nt, dt⟩ := ht
  unfold Builtin.SmallTypes.nextOf
  refine wpAny_bind (wpAny_callSpecial?_slot (name := Str.ofString "__next__") hj.typeIs F.slot_tuple_iterator_next (wpAny_call_entry F.slot_tuple_iterator_next hj.typeIs F.entry_tuple_iterator_next ?_ (F.args_tuple_iterator_next_1 _)))
  show wpAny _ _ (field (.ref j) 0 >>= _) _ _ s
  refine wpAny_bind (wpAny_field ej dj (x := .ref t) rfl ?_)
  show wpAny (model P w) _ (if (Value.ref t == Value.none) = true then _ else _) _ _ s
  rw [if_neg (show ¬ ((Value.ref t == Value.none) = true) by exact Bool.false_ne_true)]
  show wpAny _ _ (field (.ref j) 1 >>= _) _ _ s
  refine wpAny_bind (wpAny_field ej dj (x := .int n 0) rfl ?_)
  show wpAny (model P w) _ (seqItems? (.ref t) >>= _) _ _ s
  refine wpAny_bind (wpAny_seqItems et dt ?_)
  simp only [Int.toNat_natCast, hy]
  refine wpAny_bind (wpAny_rule (wpAny_bind (wpAny_setField ej dj (by simp) ?_)))
  show wpAny (model P w) _ (newExc (.type "StopIteration") [] >>= _) _ _ _
  refine wpAny_bind ?_
  simp only [newExc, newTuple]
  refine wpAny_bind (wpAny_newObj_type ?_ (show _ from by size_fits))
  refine wpAny_bind (m := firstArgMember _ _) (wpAny_of_eq (a := Value.none) (by first | rfl | (simp only [firstArgMember]; rfl)) (wpAny_newObj_type ?_ (by size_fits)))
  simp only [raiseNew]
  refine wpAny_bind (wpAny_handled ?_)
  first | rw [show A.in1.handled = none from hc] | rw [hc]
  exact wpAny_bind (wpAny_pure (wpAny_throw (q _ _ (((Heap.SameBut.update ..).extBut.push _).push _) ⟨_, Heap.get?_push_size _ rfl, rfl⟩)))

/-- the five things of a zip over the tuples t1, t2: all apart -/
structure Zp (z ti to i1 i2 t1 t2 : Addr) : Prop where
  a1 : ti ≠ z
  a2 : to ≠ z
  a3 : i1 ≠ z
  a4 : i2 ≠ z
  a5 : ti ≠ to
  a6 : ti ≠ i1
  a7 : ti ≠ i2
  a8 : to ≠ i1
  a9 : to ≠ i2
  b1 : i1 ≠ i2
  b2 : t1 ≠ z
  b3 : t1 ≠ to
  b4 : t1 ≠ i1
  b5 : t1 ≠ i2
  b6 : t2 ≠ z
  b7 : t2 ≠ to
  b8 : t2 ≠ i1
  b9 : t2 ≠ i2
/-- a zip after n turns -/
structure Zs (h : Heap) (z ti to i1 i2 t1 t2 : Addr) (f : Value) (n : Nat) : Prop where
  zip : IsZip h z ti to f
  its : IsPair h ti (.ref i1) (.ref i2)
  out : ∃ a b, IsPair h to a b
  it1 : h.IsTupleIter i1 t1 n
  it2 : h.IsTupleIter i2 t2 n
variable {z ti to i1 i2 t1 t2 : Addr} {n : Nat} {xs ys : Array Value} {x y : Value}
theorem zp_item {Q : Value → Shared → Prop} (D : Zp z ti to i1 i2 t1 t2) (S : Zs s.heap z ti to i1 i2 t1 t2 .none n) (ht1 : s.heap.IsTuple t1 xs) (ht2 : s.heap.IsTuple t2 ys) (hx : xs[n]? = some x) (hy : ys[n]? = some y)
    (hQ : ∀ h2, Zs h2 z ti to i1 i2 t1 t2 (rawInt s.heap.objs.size) (n + 1) → IsPair h2 s.heap.objs.size x y → h2.objs.size = s.heap.objs.size + 1 → (∀ c o, c ≠ z → c ≠ to → c ≠ i1 → c ≠ i2 → s.heap.get? c = some o → h2.get? c = some o) →
      Q (.ref s.heap.objs.size) { s with heap := h2 }) : wpAny (model P w) A (Builtin.«zip.__next__» ⟨[.ref z], []⟩) (fun fin s' => ∃ v, fin = .done (.ret v) ∧ Q v s') E s := by
  obtain ⟨hz, hti, ⟨a, b, hto⟩, h1, h2⟩ := S
  show wpAny (model P w) _ (field (.ref z) 2 >>= _) _ _ _
  refine wpAny_bind (wpAny_field hz rfl (x := .bool false) (by rfl) ?_)
  show wpAny (model P w) _ (field (.ref z) 3 >>= _) _ _ _
  refine wpAny_bind (wpAny_field hz rfl (x := .ref ti) rfl (wpAny_bind (wpAny_seqItems hti rfl ?_)))
  show wpAny (model P w) _ (Builtin.SmallTypes.ownedTupleIsFree (.ref z) >>= _) _ _ _
  refine wpAny_bind ?_
  unfold Builtin.SmallTypes.ownedTupleIsFree
  refine wpAny_bind (wpAny_field hz rfl (x := .none) (by rfl) (wpAny_pure ?_))
  simp only [if_true]
  refine wpAny_bind (wpAny_rule (wpAny_bind (wpAny_field hz rfl (x := .ref to) rfl (wpAny_bind (wpAny_setField_rec hz (by simp) fun g1 hz1 e1 => ?_)))))
  replace hz1 : IsZip g1 z ti to .ellipsis := by exact hz1
  refine wpAny_bind ?_
  simp only [List.zipIdx_cons, List.zipIdx_nil, List.forIn_cons, List.forIn_nil]
  refine wpAny_bind (wpAny_bind (wpAny_onRaise ?_))
  show wpAny (model P w) _ (Builtin.SmallTypes.nextOf (.ref i1) >>= _) _ _ _
  refine wpAny_bind (nx_item (h1.extBut e1.extBut D.a3) (ht1.extBut e1.extBut D.b2) hx fun g2 j1 e2 => wpAny_pure ?_)
  have o2 : IsPair g2 to a b := e2.extBut _ _ D.a8 (e1.extBut _ _ D.a2 hto)
  refine wpAny_bind (wpAny_seqItems o2 rfl (wpAny_bind (wpAny_updateSeq_pair o2 fun g3 o3 e3 => ?_)))
  replace o3 : IsPair g3 to x b := by exact o3
  refine wpAny_bind (wpAny_letGo (wpAny_pure (wpAny_bind (wpAny_bind (wpAny_onRaise ?_)))))
  show wpAny (model P w) _ (Builtin.SmallTypes.nextOf (.ref i2) >>= _) _ _ _
  refine wpAny_bind (nx_item (((h2.extBut e1.extBut D.a4).extBut e2.extBut D.b1.symm).extBut e3.extBut D.a9.symm) (((ht2.extBut e1.extBut D.b6).extBut e2.extBut D.b8).extBut e3.extBut D.b7) hy fun g4 j2 e4 => wpAny_pure ?_)
  have o4 : IsPair g4 to x b := e4.extBut _ _ D.a9 o3
  refine wpAny_bind (wpAny_seqItems o4 rfl (wpAny_bind (wpAny_updateSeq_pair o4 fun g5 o5 e5 => ?_)))
  replace o5 : IsPair g5 to x y := by exact o5
  refine wpAny_bind (wpAny_letGo (wpAny_pure (wpAny_pure (wpAny_bind (wpAny_seqItems o5 rfl (wpAny_bind (wpAny_newTuple ?_)))))))
  have hsz : g5.objs.size = s.heap.objs.size := by rw [e5.1, e4.1, e3.1, e2.1, e1.1]
  have hz5 : IsZip g5 z ti to .ellipsis := e5.extBut _ _ D.a2.symm (e4.extBut _ _ D.a4.symm (e3.extBut _ _ D.a2.symm (e2.extBut _ _ D.a3.symm hz1)))
  have k5 : ∀ c o, c ≠ z → c ≠ to → c ≠ i1 → c ≠ i2 → s.heap.get? c = some o → g5.get? c = some o := fun c o c1 c2 c3 c4 e => e5.extBut _ _ c2 (e4.extBut _ _ c4 (e3.extBut _ _ c2 (e2.extBut _ _ c3 (e1.extBut _ _ c1 e))))
  have k1 : g5.IsTupleIter i1 t1 (n + 1) := ((j1.extBut e3.extBut D.a8.symm).extBut e4.extBut D.b1).extBut e5.extBut D.a8.symm
  have k2 : g5.IsTupleIter i2 t2 (n + 1) := j2.extBut e5.extBut D.a9.symm
  have zlt : z < g5.objs.size := Heap.lt_size hz5
  show wpAny (model P w) _ (Builtin.SmallTypes.ownedTupleHandOut (.ref z) (.ref g5.objs.size) >>= _) _ _ _
  refine wpAny_bind ?_
  unfold Builtin.SmallTypes.ownedTupleHandOut
  have hz6 : IsZip (g5.push { cls := .type "tuple", data := .seq #[x, y] }) z ti to .ellipsis := Heap.get?_push_of_some _ hz5
  refine wpAny_bind (wpAny_setField_rec hz6 (by simp) fun g7 hz7 e7 => ?_)
  replace hz7 : IsZip g7 z ti to (rawInt g5.objs.size) := by exact hz7
  refine wpAny_setField_rec hz7 (by simp) fun g8 hz8 e8 => ?_
  replace hz8 : IsZip g8 z ti to (rawInt g5.objs.size) := by exact hz8
  have up : ∀ c o, c ≠ z → g5.get? c = some o → g8.get? c = some o := fun c o c1 e => e8.extBut _ _ c1 (e7.extBut _ _ c1 (Heap.get?_push_of_some _ e))
  have p8 : IsPair g8 g5.objs.size x y := e8.extBut _ _ (Nat.ne_of_gt zlt) (e7.extBut _ _ (Nat.ne_of_gt zlt) (Heap.get?_push_size _ rfl))
  have z8 : g8.objs.size = g5.objs.size + 1 := by rw [e8.1, e7.1, Heap.size_push]
  rw [hsz] at hz8 p8 z8
  refine wpAny_pure ⟨_, rfl, ?_⟩
  show Q (.ref g5.objs.size) _
  rw [hsz]
  exact hQ g8 ⟨hz8, up _ _ D.a1 (k5 _ _ D.a1 D.a5 D.a6 D.a7 hti), ⟨x, y, up _ _ D.a2 o5⟩, k1.extBut (b := z) (fun c o c1 e => up c o c1 e) D.a3, k2.extBut (b := z) (fun c o c1 e => up c o c1 e) D.a4⟩ p8 z8 fun c o c1 c2 c3 c4 e => up c o c1 (k5 c o c1 c2 c3 c4 e)
theorem zp_end {Q : Fin → Shared → Prop} (hh : A.handled = none) (D : Zp z ti to i1 i2 t1 t2) (S : Zs s.heap z ti to i1 i2 t1 t2 .none n) (ht1 : s.heap.IsTuple t1 xs) (hx : xs[n]? = none)
    (hE : ∀ h2 e, (∀ c o, c ≠ z → c ≠ i1 → s.heap.get? c = some o → h2.get? c = some o) → (∃ o, h2.get? e = some o ∧ o.cls = .type "StopIteration") → E (.ref e) { s with heap := h2 }) :
    wpAny (model P w) A (Builtin.«zip.__next__» ⟨[.ref z], []⟩) Q E s := by
  obtain ⟨hz, hti, ⟨a, b, hto⟩, h1, h2⟩ := S
  show wpAny (model P w) _ (field (.ref z) 2 >>= _) _ _ _
  refine wpAny_bind (wpAny_field hz rfl (x := .bool false) (by rfl) ?_)
  show wpAny (model P w) _ (field (.ref z) 3 >>= _) _ _ _
  refine wpAny_bind (wpAny_field hz rfl (x := .ref ti) rfl (wpAny_bind (wpAny_seqItems hti rfl ?_)))
  show wpAny (model P w) _ (Builtin.SmallTypes.ownedTupleIsFree (.ref z) >>= _) _ _ _
  refine wpAny_bind ?_
  unfold Builtin.SmallTypes.ownedTupleIsFree
  refine wpAny_bind (wpAny_field hz rfl (x := .none) (by rfl) (wpAny_pure ?_))
  simp only [if_true]
  refine wpAny_bind (wpAny_rule (wpAny_bind (wpAny_field hz rfl (x := .ref to) rfl (wpAny_bind (wpAny_setField_rec hz (by simp) fun g1 hz1 e1 => ?_)))))
  replace hz1 : IsZip g1 z ti to .ellipsis := by exact hz1
  refine wpAny_bind ?_
  simp only [List.zipIdx_cons, List.zipIdx_nil, List.forIn_cons, List.forIn_nil]
  refine wpAny_bind (wpAny_bind (wpAny_onRaise ?_))
  show wpAny (model P w) _ (Builtin.SmallTypes.nextOf (.ref i1) >>= _) _ _ _
  refine wpAny_bind (nx_end hh (h1.extBut e1.extBut D.a3) (ht1.extBut e1.extBut D.b2) hx fun g2 e e2 he => ?_)
  obtain ⟨oe, he1, he2⟩ := he
  have hz2 : IsZip g2 z ti to .ellipsis := e2 _ _ D.a3.symm hz1
  have hez : e ≠ z := fun q => by subst q; rw [hz2] at he1; cases he1; simp at he2
  exact wpAny_setField_rec hz2 (by simp) fun g3 _ e3 => hE g3 e (fun c o c1 c3 q => e3.extBut _ _ c1 (e2 _ _ c3 (e1.extBut _ _ c1 q))) ⟨oe, e3.extBut _ _ hez he1, he2⟩
theorem zp_next {Q : Option Value → Shared → Prop} (D : Zp z ti to i1 i2 t1 t2) (S : Zs s.heap z ti to i1 i2 t1 t2 .none n) (ht1 : s.heap.IsTuple t1 xs) (ht2 : s.heap.IsTuple t2 ys) (hx : xs[n]? = some x) (hy : ys[n]? = some y)
    (hQ : ∀ h2, Zs h2 z ti to i1 i2 t1 t2 (rawInt s.heap.objs.size) (n + 1) → IsPair h2 s.heap.objs.size x y → h2.objs.size = s.heap.objs.size + 1 → (∀ c o, c ≠ z → c ≠ to → c ≠ i1 → c ≠ i2 → s.heap.get? c = some o → h2.get? c = some o) →
      Q (some (.ref s.heap.objs.size)) { s with heap := h2 }) : wpAny (model P w) A (pyNext (.ref z)) Q E s := by
  have hT : s.TypeIs (.ref z) "zip" := ⟨_, S.zip, rfl⟩
  unfold pyNext
  exact wpAny_bind (wpAny_attempt (wpAny_callSpecial?_slot (name := Str.ofString "__next__") hT F.slot_zip_next (wpAny_call_entry F.slot_zip_next hT F.entry_zip_next (zp_item D S ht1 ht2 hx hy fun h2 q1 q2 q3 q4 => wpAny_pure (hQ h2 q1 q2 q3 q4)) (F.args_zip_next_1 _))))
theorem zp_done {Q : Option Value → Shared → Prop} (hh : A.handled = none) (D : Zp z ti to i1 i2 t1 t2) (S : Zs s.heap z ti to i1 i2 t1 t2 .none n) (ht1 : s.heap.IsTuple t1 xs) (hx : xs[n]? = none)
    (hQ : ∀ h2, (∀ c o, c ≠ z → c ≠ i1 → s.heap.get? c = some o → h2.get? c = some o) → Q none { s with heap := h2 }) : wpAny (model P w) A (pyNext (.ref z)) Q E s := by
  have hT : s.TypeIs (.ref z) "zip" := ⟨_, S.zip, rfl⟩
  unfold pyNext
  refine wpAny_bind (wpAny_attempt (wpAny_callSpecial?_slot (name := Str.ofString "__next__") hT F.slot_zip_next (wpAny_call_entry F.slot_zip_next hT F.entry_zip_next (zp_end hh D S ht1 hx fun h2 e hk he => ?_) (F.args_zip_next_1 _))))
  obtain ⟨o, ho, hc⟩ := he
  exact wpAny_bind (wpAny_isInstance (T := "StopIteration") (b := true) ⟨o, ho, hc⟩ isSubtype_stop (wpAny_pure (hQ _ hk)))
end
section
abbrev zq1 (h : Heap) (t : Addr) : Heap := h.push { cls := .type "tuple_iterator", data := .fields #[.ref t, .int 0 0] }
abbrev zq3 (h : Heap) (t1 t2 : Addr) : Heap := (zq1 (zq1 h t1) t2).push { cls := .type "tuple", data := .seq #[.ref h.objs.size, .ref (zq1 h t1).objs.size] }
abbrev zq4 (h : Heap) (t1 t2 : Addr) : Heap := (zq3 h t1 t2).push { cls := .type "tuple", data := .seq #[.none, .none] }
abbrev zq5 (h : Heap) (t1 t2 : Addr) : Heap := (zq4 h t1 t2).push { cls := .type "zip", data := .fields #[.none, .bool false, .bool false, .ref (zq1 (zq1 h t1) t2).objs.size, .ref (zq3 h t1 t2).objs.size] }
theorem zip_new (t1 t2 : Addr) (xs ys : Array Value) :
    Meets (Builtin.«zip.__new__» ⟨[.type "zip", .ref t1, .ref t2], []⟩) (fun _ R s => s.heap.IsTuple t1 xs ∧ s.heap.IsTuple t2 ys ∧ R (.ok (.ret (.ref (zq4 s.heap t1 t2).objs.size))) { s with heap := zq5 s.heap t1 t2 }) :=
  .of_wp fun P w A R s h => by
    obtain ⟨hp, g, d, tk, os⟩ := s; obtain ⟨ht1, ht2, h⟩ := h
    have hsub := sub_zip
    have q1 : Heap.IsTuple (Shared.heap ⟨hp, g, d, tk, os⟩) t1 xs := ht1
    have q2 : Heap.IsTuple (Shared.heap ⟨hp.push { cls := .type "tuple_iterator", data := .fields #[.ref t1, .int 0 0] }, g, d, tk, os⟩) t2 ys := Heap.IsTuple.push ht2 _
    wp_walk using wpAny_pyIter_tuple q1, wpAny_pyIter_tuple q2
    exact ⟨_, rfl, h⟩
variable {P : Program} {w : World} {A : Around} {E : Value → Shared → Prop} {s : Shared}
theorem zip_call {t1 t2 : Addr} {xs ys : Array Value} {Q : Value → Shared → Prop} (ht1 : s.heap.IsTuple t1 xs) (ht2 : s.heap.IsTuple t2 ys)
    (h : ∀ h2, Zs h2 (s.heap.objs.size + 4) (s.heap.objs.size + 2) (s.heap.objs.size + 3) s.heap.objs.size (s.heap.objs.size + 1) t1 t2 .none 0 → (∀ c o, s.heap.get? c = some o → h2.get? c = some o) → Q (.ref (s.heap.objs.size + 4)) { s with heap := h2 }) :
    wpAny (model P w) A (call (.type "zip") [.ref t1, .ref t2]) Q E s := by
  refine callType_new F.called_zip (by decide) (F.typeCall_zip_2 _ _) (F.newCall_zip_2 _ _) (fun obj => F.args_object_init_3 obj _ _) F.entry_zip_new (zip_new t1 t2 xs ys) ⟨ht1, ht2, ?_⟩
  have z1 : (zq1 s.heap t1).objs.size = s.heap.objs.size + 1 := Heap.size_push ..
  have z2 : (zq1 (zq1 s.heap t1) t2).objs.size = s.heap.objs.size + 2 := by rw [Heap.size_push, z1]
  have z3 : (zq3 s.heap t1 t2).objs.size = s.heap.objs.size + 3 := by rw [Heap.size_push, z2]
  have z4 : (zq4 s.heap t1 t2).objs.size = s.heap.objs.size + 4 := by rw [Heap.size_push, z3]
  have p : ∀ {h : Heap} {b : Addr} {o o' : Obj}, h.get? b = some o → (h.push o').get? b = some o := fun e => Heap.get?_push_of_some _ e
  have g5 : (zq5 s.heap t1 t2).get? (zq4 s.heap t1 t2).objs.size = some _ := Heap.get?_push_size _ rfl
  have g4 : (zq5 s.heap t1 t2).get? (zq3 s.heap t1 t2).objs.size = some _ := p (Heap.get?_push_size _ rfl)
  have g3 : (zq5 s.heap t1 t2).get? (zq1 (zq1 s.heap t1) t2).objs.size = some _ := p (p (Heap.get?_push_size _ rfl))
  have g2 : (zq5 s.heap t1 t2).get? (zq1 s.heap t1).objs.size = some _ := p (p (p (Heap.get?_push_size _ rfl)))
  have g1 : (zq5 s.heap t1 t2).get? s.heap.objs.size = some _ := p (p (p (p (Heap.get?_push_size _ rfl))))
  show _ ∧ _
  rw [z2, z3, z4] at g5
  rw [z1, z2] at g3
  rw [z3] at g4
  rw [z1] at g2
  rw [z4]
  exact ⟨⟨_, g5, rfl⟩, h _ ⟨g5, g3, ⟨_, _, g4⟩, ⟨_, g1, rfl, rfl⟩, ⟨_, g2, rfl, rfl⟩⟩ fun c o x => p (p (p (p (p x))))⟩
end
/-! ### as a walk of the layer -/
/-- the pairs of the tuples t1 and t2 -/
def Itz (K : PySem.W.Frag) (t1 t2 : Addr) : It :=
  ⟨fun i H => ∃ xs ys x y, H t1 = some (.tup xs) ∧ H t2 = some (.tup ys) ∧ xs[i]? = some x ∧ ys[i]? = some y,
   fun i H v H' => ∃ p x y, v = .ref p ∧ H p = none ∧ H' = upd H p (.tup [x, y]) ∧ (∀ xs, H t1 = some (.tup xs) → xs[i]? = some x) ∧ (∀ ys, H t2 = some (.tup ys) → ys[i]? = some y),
   fun i H => ∃ xs, H t1 = some (.tup xs) ∧ xs.length ≤ i⟩
section
variable {X : Cx} {pins : List (Addr × Obj)} {σ : L2.St} {H : Hp} {s : Shared}
/-- several untracked records of ours have turned, a new thing is laid -/
theorem _root_.L2.Inv.turnedN {h' : Heap} {t' : Nat} {ch : List Addr} {p : Addr} {ob : HO} (I : Inv X pins σ H s) (k : ∀ b o, b ∉ ch → s.heap.get? b = some o → h'.get? b = some o) (hf : ∀ b ∈ ch, FpOk X pins H b) (hp : s.heap.objs.size ≤ p)
    (new : ObjOk X.prog X.w (upd H p ob) h' p ob) : Inv X pins σ (upd H p ob) { s with heap := h', toks := t' } := by
  have nt : ∀ a o, H a = some o → a ∉ ch := fun a o e z => by rw [(hf a z).1] at e; cases e
  have hL : X.env.locals ∉ ch := fun z => (hf _ z).2.1 rfl
  have hp0 : H p = none := I.hok.fresh hp
  have old : ∀ b v, H b = some v → upd H p ob b = some v := fun b v e => by rw [upd_ne (ne_of_none e hp0)]; exact e
  refine I.step (ch := ch) (g' := s.gens) (d' := s.drawn) (fun b hb => ⟨(hf b hb).2.2.2.1, (hf b hb).2.1, (hf b hb).2.2.2.2.1, (hf b hb).2.2.2.2.2⟩) (fun b o _ _ hb e _ => k b o hb e) (fun b o _ _ hb e _ => ⟨o.slots, k b o hb e⟩)
    (fun b o _ e n => by rw [upd_ne (Nat.ne_of_lt (Nat.lt_of_lt_of_le (Heap.lt_size e) hp))]; exact n) (fun b o hb e => ⟨o, k b o hb e⟩) (fun b xs e => old b _ e) (fun b o u e => old b _ e) (fun b ps e => ⟨#[], by rw [old b _ e]; simp⟩) (fun m hm => ?_) (fun b u e => ?_) I.bare
  · obtain ⟨o, es, ep, ho, r⟩ := hm
    exact ⟨o, es, ep, k _ o hL ho, r⟩
  · by_cases hb : b = p
    · subst hb
      rw [upd_same] at e; cases e
      exact new
    · rw [upd_ne hb] at e
      refine (I.hok b u e).stay (fun c v hc q => k c v ?_ q) (fun c q => old c _ q) fun c xs q => old c _ q
      rcases hc with z | z
      · rw [z]; exact nt b u e
      · exact nt c _ z
theorem _root_.L2.Inv.turnedL {h' : Heap} {t' : Nat} {ch : List Addr} (I : Inv X pins σ H s) (k : ∀ b o, b ∉ ch → s.heap.get? b = some o → h'.get? b = some o) (hf : ∀ b ∈ ch, FpOk X pins H b) : Inv X pins σ H { s with heap := h', toks := t' } := by
  have nt : ∀ a o, H a = some o → a ∉ ch := fun a o e z => by rw [(hf a z).1] at e; cases e
  have hL : X.env.locals ∉ ch := fun z => (hf _ z).2.1 rfl
  refine I.step (ch := ch) (g' := s.gens) (d' := s.drawn) (fun b hb => ⟨(hf b hb).2.2.2.1, (hf b hb).2.1, (hf b hb).2.2.2.2.1, (hf b hb).2.2.2.2.2⟩) (fun b o _ _ hb e _ => k b o hb e) (fun b o _ _ hb e _ => ⟨o.slots, k b o hb e⟩)
    (fun b o _ e n => n) (fun b o hb e => ⟨o, k b o hb e⟩) (fun b xs e => e) (fun b o u e => e) (fun b ps e => ⟨#[], by rw [e]; simp⟩) (fun m hm => ?_) (fun b u e => ?_) I.bare
  · obtain ⟨o, es, ep, ho, r⟩ := hm
    exact ⟨o, es, ep, k _ o hL ho, r⟩
  · refine (I.hok b u e).stay (fun c v hc q => k c v ?_ q) (fun c q => q) fun c xs q => q
    rcases hc with z | z
    · rw [z]; exact nt b u e
    · exact nt c _ z
theorem _root_.L2.Inv.tup1 {a : Addr} {xs : List V} (I : Inv X pins σ H s) (h : H a = some (.tup xs)) : ∃ its : List Value, Vals xs its ∧ IsTup s.heap a its.toArray ∧ xs.length ≤ sizeLine := I.tuple (SqT.of h)
end
theorem turn_zip {P : Program} {w : World} {K : PySem.W.Frag} {elts : List Expr} {k : Nat} {pos : Pos} {z ti to i1 i2 t1 t2 : Addr} (D : Zp z ti to i1 i2 t1 t2) :
    Turn P w K (.Tuple elts k pos) (Itz K t1 t2) [z, ti, to, i1, i2] z (fun i h => Zs h z ti to i1 i2 t1 t2 .none i) where
  mem := by simp
  obj := fun i h S b hb => by
    obtain ⟨hz, hti, ⟨a, b', hto⟩, ⟨o1, e1, _, d1⟩, ⟨o2, e2, _, d2⟩⟩ := S
    simp only [List.mem_cons, List.not_mem_nil, or_false] at hb
    rcases hb with rfl | rfl | rfl | rfl | rfl
    · exact ⟨_, hz, fun v q => nomatch q⟩
    · exact ⟨_, hti, fun v q => nomatch q⟩
    · exact ⟨_, hto, fun v q => nomatch q⟩
    · exact ⟨_, e1, fun v q => by rw [d1] at q; cases q⟩
    · exact ⟨_, e2, fun v q => by rw [d2] at q; cases q⟩
  keep := fun i h h' S kk => by
    obtain ⟨hz, hti, ⟨a, b', hto⟩, ⟨o1, e1, r1⟩, ⟨o2, e2, r2⟩⟩ := S
    exact ⟨kk z (by simp) _ hz, kk ti (by simp) _ hti, ⟨a, b', kk to (by simp) _ hto⟩, ⟨o1, kk i1 (by simp) _ e1, r1⟩, ⟨o2, kk i2 (by simp) _ e2, r2⟩⟩
  item := by
    intro X hP hw hK hc i pins s σ H E I hf S hg
    subst hP hw hK
    obtain ⟨xs, ys, x, y, h1, h2, hx, hy⟩ := hg
    obtain ⟨us, ru, pu, hu⟩ := I.tup1 h1
    obtain ⟨vs, rv, pv, hv⟩ := I.tup1 h2
    obtain ⟨u, eu, rxu⟩ := ru.get hx
    obtain ⟨v, ev, ryv⟩ := rv.get hy
    refine zp_next D S (show s.heap.IsTuple t1 us.toArray from pu) (show s.heap.IsTuple t2 vs.toArray from pv) (x := u) (y := v) (by simpa using eu) (by simpa using ev) fun g S2 pr hsz kk => ⟨_, rfl, ?_⟩
    have hch : ∀ b ∈ [z, to, i1, i2], FpOk X pins H b := fun b hb => hf b (by simp at hb ⊢; rcases hb with rfl | rfl | rfl | rfl <;> simp)
    have I1 : Inv X pins σ (upd H s.heap.objs.size (.tup [x, y])) { s with heap := g } := I.turnedN (t' := s.toks) (ch := [z, to, i1, i2]) (fun b o hb e => by simp at hb; exact kk b o hb.1 hb.2.1 hb.2.2.1 hb.2.2.2 e) hch (Nat.le_refl _)
      ⟨by show 2 ≤ sizeLine; decide, [u, v], .cons rxu (.cons ryv .nil), ⟨_, pr, rfl, _, rfl⟩⟩
    have lt : ∀ b ∈ [z, ti, to, i1, i2], b ≠ s.heap.objs.size := fun b hb => by
      obtain ⟨hz, hti, ⟨a, b', hto⟩, ⟨o1, e1, _⟩, ⟨o2, e2, _⟩⟩ := S
      simp only [List.mem_cons, List.not_mem_nil, or_false] at hb
      rcases hb with rfl | rfl | rfl | rfl | rfl
      · exact Nat.ne_of_lt (Heap.lt_size hz)
      · exact Nat.ne_of_lt (Heap.lt_size hti)
      · exact Nat.ne_of_lt (Heap.lt_size hto)
      · exact Nat.ne_of_lt (Heap.lt_size e1)
      · exact Nat.ne_of_lt (Heap.lt_size e2)
    refine wpAny_letOwnedTupleGo_zip S2.zip fun g2 hz2 sb => ?_
    have hp0 : H s.heap.objs.size = none := I.fresh
    obtain ⟨f0, f1, f2, f3, f4, f5⟩ := hf z (by simp)
    have I2 : Inv X pins σ (upd H s.heap.objs.size (.tup [x, y])) { s with heap := g2 } := I1.turned (t' := s.toks) (fun b o hb e => (sb.2 b hb).trans e) (by rw [upd_ne (lt z (by simp))]; exact f0) f1 f3 f4 f5
    obtain ⟨_, q2, ⟨a, b', q3⟩, q4, q5⟩ := S2
    refine ⟨.ref s.heap.objs.size, _, I2, rfl, ⟨_, x, y, rfl, hp0, rfl, fun xs' e => ?_, fun ys' e => ?_⟩, ⟨hz2, sb.extBut _ _ D.a1 q2, ⟨a, b', sb.extBut _ _ D.a2 q3⟩, q4.extBut sb.extBut D.a3, q5.extBut sb.extBut D.a4⟩, fun b hb => ?_⟩
    · rw [h1] at e; cases e; exact hx
    · rw [h2] at e; cases e; exact hy
    · rw [upd_ne (lt b hb)]; exact (hf b hb).1
  done := by
    intro X hP hw hK hc i pins s σ H E I hf S hg
    subst hP hw hK
    obtain ⟨xs, h1, hx⟩ := hg
    obtain ⟨us, ru, pu, hu⟩ := I.tup1 h1
    have hl := ru.length
    refine zp_done (I.ok.hd hc) D S (show s.heap.IsTuple t1 us.toArray from pu) (by simp; omega) fun g kk => ⟨rfl, ?_⟩
    exact I.turnedL (t' := s.toks) (ch := [z, i1]) (fun b o hb e => by simp at hb; exact kk b o hb.1 hb.2 e) fun b hb => hf b (by simp at hb ⊢; rcases hb with rfl | rfl <;> simp)
  self := fun _ _ _ _ _ S h => wpAny_pyIter_zip S.zip h
/-- for a, b in zip(t, u) -/
def iZip (K : PySem.W.Frag) (ta : TA) : TI := fun σ H R => ta σ H fun vs H1 => ∃ t1 t2 xs ys, vs = [.ref t1, .ref t2] ∧ H1 t1 = some (.tup xs) ∧ H1 t2 = some (.tup ys) ∧ R (Itz K t1 t2) H1
theorem pi_zip {X : Cx} {elts : List Expr} {k : Nat} {tpos : Pos} {a b : Expr} {ta : TA} {p pos : Pos} (hg : Gl X "zip") (hm : X.mg "zip" = none) (ha : PA X [a, b] ta) (hs : starEach [a, b] X.env = [(false, eval a X.env), (false, eval b X.env)] := by rfl) (hs2 : starEach [b] X.env = [(false, eval b X.env)] := by rfl) :
    PI X (.Tuple elts k tpos) (.Call (.Name "zip" p) [a, b] [] pos) (iZip X.K ta) := by
  intro pins s σ H R I h
  refine Call_ (ld_blt I hg hm boot_zip (PyProof.Rows.callWith_type1 (thn (ha pos pins s σ H _ I h) fun us s1 ⟨vs, H1, I1, r1, q1⟩ => ?_) (by rw [hs, hs2]) (by rw [hs2]; rfl)))
  obtain ⟨t1, t2, xs, ys, e, h1, h2, q⟩ := q1
  subst e
  obtain ⟨u1, u2, rfl, e1, e2⟩ := vals2 r1
  cases (show u1 = Value.ref t1 from e1)
  cases (show u2 = Value.ref t2 from e2)
  obtain ⟨us, ru, pu, _⟩ := I1.tup1 h1
  obtain ⟨vs, rv, pv, _⟩ := I1.tup1 h2
  refine zip_call (show s1.heap.IsTuple t1 us.toArray from pu) (show s1.heap.IsTuple t2 vs.toArray from pv) fun g S kk => ?_
  refine wpAny_pyIter_zip S.zip ?_
  have l1 := I1.hok.lt h1
  have l2 := I1.hok.lt h2
  have n1 : ∀ j, t1 ≠ s1.heap.objs.size + j := fun j => Nat.ne_of_lt (Nat.lt_of_lt_of_le l1 (Nat.le_add_right _ j))
  have n2 : ∀ j, t2 ≠ s1.heap.objs.size + j := fun j => Nat.ne_of_lt (Nat.lt_of_lt_of_le l2 (Nat.le_add_right _ j))
  have ne : ∀ (m i j : Nat), i ≠ j → m + i ≠ m + j := fun m i j h => by omega
  have D : Zp (s1.heap.objs.size + 4) (s1.heap.objs.size + 2) (s1.heap.objs.size + 3) s1.heap.objs.size (s1.heap.objs.size + 1) t1 t2 :=
    ⟨ne _ 2 4 (by decide), ne _ 3 4 (by decide), ne _ 0 4 (by decide), ne _ 1 4 (by decide), ne _ 2 3 (by decide), ne _ 2 0 (by decide), ne _ 2 1 (by decide), ne _ 3 0 (by decide), ne _ 3 1 (by decide), ne _ 0 1 (by decide), n1 4, n1 3, n1 0, n1 1, n2 4, n2 3, n2 0, n2 1⟩
  refine ⟨s1.heap.objs.size + 4, _, _, Itz X.K t1 t2, H1, rfl, I1.kept (t' := s1.toks) kk, turn_zip D, S, fun b hb => ?_, q⟩
  have up : ∀ j, FpOk X pins H1 (s1.heap.objs.size + j) := fun j => I1.fpOk (Nat.le_add_right _ j) (I1.hok.fresh (Nat.le_add_right _ j))
  simp only [List.mem_cons, List.not_mem_nil, or_false] at hb
  rcases hb with rfl | rfl | rfl | rfl | rfl
  · exact up 4
  · exact up 2
  · exact up 3
  · exact up 0
  · exact up 1
theorem for_zip {K : PySem.W.Frag} {t1 t2 : Addr} {xs ys : List V} {g : TG} {tb : TS} {D : Ends} {σ : L2.St} {H : Hp} (hlen : xs.length = ys.length) (Pv : Nat → L2.St → Hp → Prop) (h0 : Pv 0 σ H) (hl : ∀ i σ H, Pv i σ H → H t1 = some (.tup xs) ∧ H t2 = some (.tup ys))
    (hs : ∀ i x y p σ H, xs[i]? = some x → ys[i]? = some y → H p = none → Pv i σ H → g (.ref p) σ (upd H p (.tup [x, y])) fun σ2 H2 => tb { D with nx := Pv (i + 1), ct := Pv (i + 1), bk := D.nx } σ2 H2) (hd : ∀ σ H, Pv xs.length σ H → D.nx σ H) :
    ∃ W : Nat → Nat → L2.St → Hp → Prop, (∃ m, W 0 m σ H) ∧ ∀ i m σ H, W i m σ H →
      ((Itz K t1 t2).stop i H ∧ D.nx σ H) ∨ ((Itz K t1 t2).go i H ∧ ∃ N : L2.St → Hp → Prop, (∀ σ' H', N σ' H' → ∃ m', m' < m ∧ W (i + 1) m' σ' H') ∧ ∀ x H', (Itz K t1 t2).yld i H x H' → g x σ H' fun σ2 H2 => tb { D with nx := N, ct := N, bk := D.nx } σ2 H2) := by
  refine ⟨fun i m σ H => m = xs.length - i ∧ i ≤ xs.length ∧ Pv i σ H, ⟨xs.length, by simp, Nat.zero_le _, h0⟩, ?_⟩
  rintro i m σ H ⟨rfl, hi, p⟩
  obtain ⟨q1, q2⟩ := hl i σ H p
  by_cases hlt : i < xs.length
  · have hlt2 : i < ys.length := by omega
    refine .inr ⟨⟨xs, ys, xs[i], ys[i], q1, q2, by simp [hlt], by simp [hlt2]⟩, Pv (i + 1), fun σ' H' p' => ⟨xs.length - (i + 1), by omega, rfl, hlt, p'⟩, fun v H' y => ?_⟩
    obtain ⟨a, x, y, rfl, ha, rfl, e1, e2⟩ := y
    exact hs i x y a σ H (e1 xs q1) (e2 ys q2) ha p
  · have e : i = xs.length := by omega
    subst e
    exact .inl ⟨⟨xs, q1, Nat.le_refl _⟩, hd σ H p⟩
end Sh

end
section
set_option Elab.async false
set_option linter.all false
set_option maxRecDepth 100000
set_option maxHeartbeats 4000000
namespace Sh
open PySem PySem.Spec PyProof.Rows L2

/-! ### the head, where defs of the text make inner defs -/
def TabK (K : PySem.W.Frag) (x : Str) (c T : Addr) : Prop := ∃ f oc od osl fd occ odc vs slc, PySem.W.nsIn K mainGlobals x = some (some (.ref f)) ∧ K.lookup f = some ⟨oc, od, .func fd, osl⟩ ∧ fd.code = .ref c ∧ K.lookup c = some ⟨occ, odc, .fields vs, slc⟩ ∧ vs[11]? = some (.ref T)
end Sh

end
section
set_option Elab.async false
set_option linter.all false
set_option maxRecDepth 100000
set_option maxHeartbeats 4000000
namespace Sh
open PySem PySem.Spec PyProof.Rows L2

/-! ### a def whose code is known -/
section
variable {P : Program} {w : World} {K : PySem.W.Frag} {mg : Str → Option Value} {base : Heap} {x : Str} {st : Stmt} {N ps : List Str} {k : Nat} {sp : Sp} {c : Addr}
end
/-! ### parts of the text -/
def dumE : Expr := .Constant .none 0 ⟨0, 0, 0, 0⟩
def dumS : Scope := { kind := .function, names := [], isGenerator := false, isCoroutine := false }
def stE (st : Stmt) : Expr := match st with
  | .Return (some e) _ => e
  | .Assign _ e _ => e
  | .Expr e _ => e
  | .If e _ _ _ => e
  | _ => dumE
def stB (st : Stmt) (i : Nat) : Stmt := match st with
  | .FunctionDef _ _ b _ _ _ _ _ _ _ => b.getD i (.Pass ⟨0, 0, 0, 0⟩)
  | .If _ b _ _ => b.getD i (.Pass ⟨0, 0, 0, 0⟩)
  | .For _ _ b _ _ => b.getD i (.Pass ⟨0, 0, 0, 0⟩)
  | _ => .Pass ⟨0, 0, 0, 0⟩
def exA (e : Expr) (i : Nat) : Expr := match e with
  | .Call _ a _ _ => a.getD i dumE
  | .Tuple a _ _ => a.getD i dumE
  | .List a _ => a.getD i dumE
  | _ => dumE
def exL (e : Expr) : Expr := match e with
  | .BinOp a _ _ _ => a
  | _ => dumE
def exR (e : Expr) : Expr := match e with
  | .BinOp _ _ b _ => b
  | _ => dumE
def lcS (e : Expr) : Scope := match e with
  | .ListComp _ _ sc _ => sc
  | _ => dumS
/-! ### one cell -/
/-! ### words with their vars changed -/
def dw : Wd → Int → Int
  | .var _, d => d
  | .node t _ _, d => if t = .all then d + 1 else d
/-! ### data: ints, texts, tuples -/
inductive Dt where
  | int (i : Int)
  | str (x : Str)
  | tup (ds : List Dt)
mutual
def Rd (H : Hp) : Dt → V → Prop
  | .int i, v => v = .int i
  | .str x, v => v = .str x
  | .tup ds, v => ∃ a vs, v = .ref a ∧ H a = some (.tup vs) ∧ Rds H ds vs
def Rds (H : Hp) : List Dt → List V → Prop
  | [], vs => vs = []
  | d :: ds, vs => ∃ v r, vs = v :: r ∧ Rd H d v ∧ Rds H ds r
end
mutual
def ddep : Dt → Nat
  | .int _ => 1
  | .str _ => 1
  | .tup ds => 1 + ddepL ds
def ddepL : List Dt → Nat
  | [] => 0
  | d :: ds => max (ddep d) (ddepL ds)
end
theorem ddep_pos : ∀ d : Dt, 1 ≤ ddep d
  | .int _ => by rw [ddep]; exact Nat.le_refl _
  | .str _ => by rw [ddep]; exact Nat.le_refl _
  | .tup ds => by rw [ddep]; omega
theorem ddepL_mem : ∀ {ds : List Dt} {d : Dt}, d ∈ ds → ddep d ≤ ddepL ds
  | [], d, h => by cases h
  | e :: r, d, h => by
    rw [ddepL]
    rcases List.mem_cons.mp h with rfl | h
    · omega
    · have := ddepL_mem h; omega
mutual
theorem Rd.mono {H H' : Hp} (k : Tk H H') : ∀ {d : Dt} {v : V}, Rd H d v → Rd H' d v
  | .int i, v, h => by rw [Rd] at h ⊢; exact h
  | .str x, v, h => by rw [Rd] at h ⊢; exact h
  | .tup ds, v, h => by
    rw [Rd] at h ⊢
    obtain ⟨a, vs, e, q, r⟩ := h
    exact ⟨a, vs, e, k _ _ q, Rds.mono k r⟩
theorem Rds.mono {H H' : Hp} (k : Tk H H') : ∀ {ds : List Dt} {vs : List V}, Rds H ds vs → Rds H' ds vs
  | [], vs, h => by rw [Rds] at h ⊢; exact h
  | d :: ds, vs, h => by
    rw [Rds] at h ⊢
    obtain ⟨v, r, e, q, z⟩ := h
    exact ⟨v, r, e, Rd.mono k q, Rds.mono k z⟩
end
theorem Rds.length {H : Hp} : ∀ {ds : List Dt} {vs : List V}, Rds H ds vs → vs.length = ds.length
  | [], vs, h => by rw [Rds] at h; rw [h]; rfl
  | d :: ds, vs, h => by
    rw [Rds] at h
    obtain ⟨v, r, rfl, _, z⟩ := h
    rw [List.length_cons, List.length_cons, Rds.length z]
theorem Rds.get {H : Hp} : ∀ {ds : List Dt} {vs : List V} {i : Nat} {v : V}, Rds H ds vs → vs[i]? = some v → ∃ d, ds[i]? = some d ∧ Rd H d v
  | [], vs, i, v, h, e => by rw [Rds] at h; subst h; cases e
  | d :: ds, vs, i, v, h, e => by
    rw [Rds] at h
    obtain ⟨u, r, rfl, q, z⟩ := h
    cases i with
    | zero =>
      have e' : u = v := Option.some.inj (by simpa using e)
      subst e'
      exact ⟨d, rfl, q⟩
    | succ i => exact Rds.get (i := i) z (by simpa using e)
mutual
def Wd.toD : Wd → Dt
  | .var n => .tup [.str "var", .int n]
  | .node t nm ps => if t.named then .tup [.str t.s, .str nm, .tup (toDL ps)] else .tup (.str t.s :: toDL ps)
def toDL : List Wd → List Dt
  | [] => []
  | w :: ws => w.toD :: toDL ws
end
mutual
theorem Rw.data {H : Hp} : ∀ {w : Wd} {v : V}, Rw H w v → Rd H w.toD v
  | .var n, v, h => by
    rw [Rw] at h
    obtain ⟨a, rfl, e⟩ := h
    rw [Wd.toD]
    simp only [Rd, Rds]
    exact ⟨a, _, rfl, e, _, _, rfl, rfl, _, _, rfl, rfl, rfl⟩
  | .node t nm ps, v, h => by
    rw [Rw] at h
    obtain ⟨a, vs, rfl, r, s⟩ := h
    have rd := Rws.data r
    rw [Wd.toD]
    cases s with
    | named b hn ha hb =>
      rw [if_pos hn]
      simp only [Rd, Rds]
      exact ⟨a, _, rfl, ha, _, _, rfl, rfl, _, _, rfl, rfl, _, _, rfl, ⟨b, vs, rfl, hb, rd⟩, rfl⟩
    | plain hn ha hm =>
      rw [if_neg (by rw [hn]; exact Bool.false_ne_true)]
      simp only [Rd, Rds]
      exact ⟨a, _, rfl, ha, _, _, rfl, rfl, rd⟩
theorem Rws.data {H : Hp} : ∀ {ws : List Wd} {vs : List V}, Rws H ws vs → Rds H (toDL ws) vs
  | [], vs, h => by rw [Rws] at h; rw [toDL, Rds]; exact h
  | w :: ws, vs, h => by
    rw [Rws] at h
    obtain ⟨v, r, e, q, z⟩ := h
    rw [toDL, Rds]
    exact ⟨v, r, e, Rw.data q, Rws.data z⟩
end
mutual
theorem ddep_toD : ∀ w : Wd, ddep w.toD ≤ 2 * dep w
  | .var n => by rw [Wd.toD, dep]; simp only [ddep, ddepL]; omega
  | .node t nm ps => by
    have := ddep_toDL ps
    rw [Wd.toD, dep]
    split
    · simp only [ddep, ddepL]; omega
    · simp only [ddep, ddepL]; omega
theorem ddep_toDL : ∀ ws : List Wd, ddepL (toDL ws) ≤ 2 * depL ws
  | [] => by rw [toDL, ddepL]; omega
  | w :: ws => by
    have h1 := ddep_toD w
    have h2 := ddep_toDL ws
    rw [toDL, ddepL, depL]; omega
end
theorem kit_tup_tup {K : PySem.W.Frag} : PySem.W.kitOne K (.type "tuple") (.type "tuple") = some true := by with_unfolding_all rfl
theorem kit_int_tup {K : PySem.W.Frag} : PySem.W.kitOne K (.type "int") (.type "tuple") = some false := by with_unfolding_all rfl
theorem kit_str_tup {K : PySem.W.Frag} : PySem.W.kitOne K (.type "str") (.type "tuple") = some false := by with_unfolding_all rfl
theorem kit_str_str {K : PySem.W.Frag} : PySem.W.kitOne K (.type "str") (.type "str") = some true := by with_unfolding_all rfl
theorem kit_int_str {K : PySem.W.Frag} : PySem.W.kitOne K (.type "int") (.type "str") = some false := by with_unfolding_all rfl
theorem Rw.head {H : Hp} {t : Tag} {nm : Str} {ps : List Wd} {v : V} (h : Rw H (.node t nm ps) v) : ∃ a ys, v = .ref a ∧ H a = some (.tup (.str t.s :: ys)) := by
  rw [Rw] at h
  obtain ⟨a, vs, rfl, _, s⟩ := h
  cases s with
  | named b hn ha hb => exact ⟨a, _, rfl, ha⟩
  | plain hn ha hm => exact ⟨a, _, rfl, ha⟩
theorem Rw.named {H : Hp} {t : Tag} {nm : Str} {ps : List Wd} {v : V} (h : Rw H (.node t nm ps) v) (hn : t.named = true) : ∃ a b xs, v = .ref a ∧ H a = some (.tup [.str t.s, .str nm, .ref b]) ∧ H b = some (.tup xs) ∧ Rws H ps xs := by
  rw [Rw] at h
  obtain ⟨a, vs, rfl, r, s⟩ := h
  cases s with
  | named b _ ha hb => exact ⟨a, b, vs, rfl, ha, hb, r⟩
  | plain hn' ha hm => rw [hn] at hn'; cases hn'
theorem Rw.plain {H : Hp} {t : Tag} {nm : Str} {ps : List Wd} {v : V} (h : Rw H (.node t nm ps) v) (hn : t.named = false) : ∃ a xs, v = .ref a ∧ H a = some (.tup (.str t.s :: xs)) ∧ Rws H ps xs ∧ nm = "" := by
  rw [Rw] at h
  obtain ⟨a, vs, rfl, r, s⟩ := h
  cases s with
  | named b hn' ha hb => rw [hn] at hn'; cases hn'
  | plain _ ha hm => exact ⟨a, vs, rfl, ha, r, hm⟩
end Sh
namespace Sh
open PySem PySem.Spec PyProof.Rows L2
theorem knotsL_mem : ∀ {ws : List Wd} {w : Wd}, w ∈ ws → knots w ≤ knotsL ws
  | [], w, h => by cases h
  | u :: r, w, h => by
    rw [knotsL]
    rcases List.mem_cons.mp h with rfl | h
    · omega
    · have := knotsL_mem h; omega
theorem lcN {N : List Str} {ix : List Nat} {fr : List Str} (h : ∀ p ∈ ix.zip fr, N[p.1]? = some p.2) : ∀ (j : Nat) (i : Nat) (y : Str), ix[j]? = some i → fr[j]? = some y → N[i]? = some y := fun j i y h1 h2 =>
  h (i, y) (List.mem_of_getElem? (i := j) (by rw [List.getElem?_zip_eq_some]; exact ⟨h1, h2⟩))
end Sh

end
section
set_option Elab.async false
set_option linter.all false
set_option maxRecDepth 100000
set_option maxHeartbeats 4000000
namespace Sh
open PySem PySem.Spec PyProof.Rows L2
variable [Inn]

/-! ### promises that several defs share -/
/-- two data that are alike -/
def spLike (n : Nat) : Sp := fun vs H Q _ => ∃ v u d, vs = [v, u] ∧ Rd H d v ∧ Rd H d u ∧ ddep d ≤ n ∧ ∀ H', Same H H' → Q (.bl true) H'
theorem Rw.like {H : Hp} {w : Wd} {v u : V} {n : Nat} (h1 : Rw H w v) (h2 : Rw H w u) (hd : 2 * dep w ≤ n) : ∃ d, Rd H d v ∧ Rd H d u ∧ ddep d ≤ n :=
  ⟨w.toD, h1.data, h2.data, Nat.le_trans (ddep_toD w) hd⟩
/-- a comprehension over a tuple that its block leaves as it is -/
theorem lc_tup2 {K : PySem.W.Frag} {a : Addr} {xs : List V} {te : V → Hp → VK → Prop} {H : Hp} {R : Addr → Hp → Prop} (Pv : Nat → Addr → Hp → Prop) (h0 : ∀ D, H D = none → Pv 0 D (upd H D (.lst []))) (hl : ∀ i D H, i ≤ xs.length → Pv i D H → SqT K H a xs)
    (hs : ∀ i D x H, xs[i]? = some x → Pv i D H → te x H fun y H2 => rAppend (.ref D) [y] H2 fun _ H3 => Pv (i + 1) D H3) (hd : ∀ D H, Pv xs.length D H → R D H) :
    ∀ D, H D = none → ∃ W : Nat → Nat → Hp → Prop, (∃ m, W 0 m (upd H D (.lst []))) ∧ ∀ i m H, W i m H →
      ((Itt K a).stop i H ∧ R D H) ∨ ((Itt K a).go i H ∧ ∃ N : Hp → Prop, (∀ H', N H' → ∃ m', m' < m ∧ W (i + 1) m' H') ∧ ∀ x H', (Itt K a).yld i H x H' → te x H' fun y H2 => rAppend (.ref D) [y] H2 fun _ H3 => N H3) := by
  intro D hD
  refine ⟨fun i m H => i + m = xs.length ∧ Pv i D H, ⟨xs.length, by omega, h0 D hD⟩, fun i m H ⟨hm, hP⟩ => ?_⟩
  have hq := hl i D H (by omega) hP
  cases e : xs[i]? with
  | none =>
    have hi : xs.length ≤ i := by rw [List.getElem?_eq_none_iff] at e; exact e
    have hi2 : i = xs.length := by omega
    subst hi2
    exact .inl ⟨⟨xs, hq, Nat.le_refl _⟩, hd D H hP⟩
  | some x =>
    have hi : i < xs.length := (List.getElem?_eq_some_iff.mp e).1
    refine .inr ⟨⟨xs, x, hq, e⟩, Pv (i + 1) D, fun H' hP' => ⟨m - 1, by omega, by omega, hP'⟩, fun y H' ⟨e1, e2⟩ => ?_⟩
    subst e1
    have e3 := e2 xs hq
    rw [e] at e3; cases e3
    exact hs i D x H' e hP
/-- over a list that its block leaves as it is -/
theorem lc_list2 {K : PySem.W.Frag} {a : Addr} {xs : List V} {te : V → Hp → VK → Prop} {H : Hp} {R : Addr → Hp → Prop} (Pv : Nat → Addr → Hp → Prop) (h0 : ∀ D, H D = none → Pv 0 D (upd H D (.lst []))) (hl : ∀ i D H, i ≤ xs.length → Pv i D H → SqL K H a xs)
    (hs : ∀ i D x H, xs[i]? = some x → Pv i D H → te x H fun y H2 => rAppend (.ref D) [y] H2 fun _ H3 => Pv (i + 1) D H3) (hd : ∀ D H, Pv xs.length D H → R D H) :
    ∀ D, H D = none → ∃ W : Nat → Nat → Hp → Prop, (∃ m, W 0 m (upd H D (.lst []))) ∧ ∀ i m H, W i m H →
      ((Itl K a).stop i H ∧ R D H) ∨ ((Itl K a).go i H ∧ ∃ N : Hp → Prop, (∀ H', N H' → ∃ m', m' < m ∧ W (i + 1) m' H') ∧ ∀ x H', (Itl K a).yld i H x H' → te x H' fun y H2 => rAppend (.ref D) [y] H2 fun _ H3 => N H3) := by
  intro D hD
  refine ⟨fun i m H => i + m = xs.length ∧ Pv i D H, ⟨xs.length, by omega, h0 D hD⟩, fun i m H ⟨hm, hP⟩ => ?_⟩
  have hq := hl i D H (by omega) hP
  cases e : xs[i]? with
  | none =>
    have hi : xs.length ≤ i := by rw [List.getElem?_eq_none_iff] at e; exact e
    have hi2 : i = xs.length := by omega
    subst hi2
    exact .inl ⟨⟨xs, hq, Nat.le_refl _⟩, hd D H hP⟩
  | some x =>
    have hi : i < xs.length := (List.getElem?_eq_some_iff.mp e).1
    refine .inr ⟨⟨xs, x, hq, e⟩, Pv (i + 1) D, fun H' hP' => ⟨m - 1, by omega, by omega, hP'⟩, fun y H' ⟨e1, e2⟩ => ?_⟩
    subst e1
    have e3 := e2 xs hq
    rw [e] at e3; cases e3
    exact hs i D x H' e hP
end Sh
namespace Sh
open PySem PySem.Spec PyProof.Rows L2
/-! ### words that are changed only in their vars -/
/-! ### the head of a law -/
def tabAt (l : List (Addr × (Pos × Str))) (a : Addr) : Option (Pos × Str) := l.lookup a
variable [Inn]
def spLawT (K : PySem.W.Frag) (Ts : List Addr) : Sp := fun vs H Q _ => ∃ (a : Addr) (ns : List Int), vs = [.ref a] ∧ SqL K H a (ns.map V.int) ∧ ns.length ≤ 63 ∧ (∀ T ∈ Ts, TabI H T) ∧ ∀ H', Q (.bl true) H'
end Sh
namespace Sh
open PySem
end Sh
namespace Sh
open PySem PySem.Spec PyProof.Rows L2
/-! ### free numbers -/
variable [Inn]
end Sh
namespace Sh
open PySem PySem.Spec PyProof.Rows L2
/-! ### a statement whose ways join behind it -/
def tCut (t u : TS) : TS := fun D σ H => ∃ J : L2.St → Hp → Prop, t { D with nx := J } σ H ∧ ∀ σ' H', J σ' H' → u D σ' H'
theorem pss_cut {X : Cx} {st : Stmt} {rest : List Stmt} {t u : TS} (h1 : PS X st t) (h2 : PSs X rest u) : PSs X (st :: rest) (tCut t u) := by
  intro pins s σ H D I ⟨J, h, k⟩
  refine wpAny_execs_cons (thn (h1 pins s σ H { D with nx := J } I h) fun f s1 q => ?_)
  cases f with
  | next =>
    obtain ⟨σ', H', I', q⟩ := q
    exact h2 pins s1 σ' H' D I' (k σ' H' q)
  | ret v => exact q
  | brk => exact q
  | cont => exact q
end Sh
namespace Sh
open PySem PySem.Spec PyProof.Rows L2
/-! ### a term put into a form -/
variable [Inn]
end Sh

end
section
set_option Elab.async false
set_option linter.all false
set_option maxRecDepth 100000
set_option maxHeartbeats 4000000
namespace Sh
open PySem PySem.Spec PyProof.Rows L2
/-! ### for c in text -/
end Sh
namespace Sh
open PySem PySem.Spec PyProof.Rows L2
/-! ### y = [elt for x in iter], y a local name -/
section
variable {X : Cx} {x : Str} {fr : List Str} {scope : Scope} {iter elt : Expr} {px pos : Pos} {wi : TI} {te : TE} {ix : List Nat}
theorem ps_setLC {y : Str} {py spos : Pos} {k : Nat} (hNd : X.N.Nodup) (hk0 : X.N[k]? = some y) (hyL : Loc X.env.scope y) (hxe : X.xe = fun _ _ => False) (hcalm : X.calm = true) (S : LcScope x fr X.env.scope scope) (hix : ix.length = fr.length) (hN : ∀ (j : Nat) (i : Nat) (y : Str), ix[j]? = some i → fr[j]? = some y → X.N[i]? = some y)
    (hi : PI X (.Name x px) iter wi) (he : ∀ s₃ H₃ fp pins, PE (cxLc X x fr scope s₃.heap.objs.size s₃ H₃ fp pins) elt te) (hcl : closureFor scope X.env = pure (clOf scope X.env) := by rfl) (hs : ∀ v, foldedSetIterable iter X.env v = pure v := by intro _; rfl)
    (hsw : swapsWith (.ListComp elt [⟨.Name x px, iter, [], 0⟩] scope pos) (some (.Name y py)) spos.line X.env = pure true := by rfl) (hfy : X.fn y = true ∨ X.env.scope.names.lookup y = some .local := by first | exact .inl rfl | exact .inr rfl | assumption) :
    PS X (.Assign [.Name y py] (.ListComp elt [⟨.Name x px, iter, [], 0⟩] scope pos) spos) (tAsg (tLC wi ix te) (gName k)) := by
  intro pins s σ H Dn I h
  rw [exec_Assign_Name_used _ _ _ _ hsw]
  refine wpAny_bind (wpAny_standAt (wpAny_bind ?_))
  show wpAny _ X.A (do let _ ← comprehension (.ListComp elt [⟨.Name x px, iter, [], 0⟩] scope pos) scope X.env _ (newList []) false (eval iter X.env) (some (assign (.Name y py) X.env))) _ _ s
  have hi' := hi pins s σ H _ I h
  rw [hxe] at hi' ⊢
  refine wpAny_bind (wpAny_mono (wpAny_comprehension_free (use := some (assign (.Name y py) X.env)) (Q := fun _ s' => SP X pins Dn .next s') rfl hs hcl S.kind S.names (wpAny_mono hi' (fun v s1 h1 => wpAny_mono h1 (fun itv s2 h2 => ?_) fun _ _ e => e) fun _ _ e => e)) (fun _ s' hq => wpAny_pure (wpAny_pure hq)) fun _ _ e => e)
  obtain ⟨it, fp, tn, J, H1, rfl, I2, T, ht0, hfp, hR⟩ := h2
  have hD0 : H1 s2.heap.objs.size = none := I2.fresh
  obtain ⟨W, ⟨m0, hW0⟩, hW⟩ := hR s2.heap.objs.size hD0
  have I3 : Inv X pins σ (upd H1 s2.heap.objs.size (.lst [])) { s2 with heap := s2.heap.push { cls := .type "list", data := .seq ([] : List Value).toArray } } := I2.lnew (t' := s2.toks) (ys := []) (its := []) .nil (Nat.zero_le _)
  refine wpAny_newObj_type (wpAny_newFunctionEnv S.nocell (by intro y hy; simp at hy) (fun h₁ hns hsb => ?_) S.kind)
  have hk : ∀ b o, (s2.heap.push { cls := .type "list", data := .seq ([] : List Value).toArray }).get? b = some o → h₁.get? b = some o := fun b o e => hsb.extBut b o (Nat.ne_of_lt (Heap.lt_size e)) (Heap.get?_push_of_some _ e)
  have hfp3 : ∀ b ∈ fp, FpOk X pins (upd H1 s2.heap.objs.size (.lst [])) b ∧ b < (s2.heap.push { cls := .type "list", data := .seq ([] : List Value).toArray }).objs.size := fun b hb => by
    obtain ⟨o, ho, _⟩ := T.obj 0 _ ht0 b hb
    have hlt := Heap.lt_size ho
    obtain ⟨f0, f1, f2, f3, f4, f5⟩ := hfp b hb
    exact ⟨⟨by rw [upd_ne (Nat.ne_of_lt hlt)]; exact f0, f1, f2, f3, f4, f5⟩, Nat.lt_of_lt_of_le hlt (by rw [Heap.size_push]; exact Nat.le_succ _)⟩
  have J4 := inv_lc (tk := s2.toks + ([] : List (Str × Value)).length) I3 S hix hN hfp3 hns hk
  generalize hs3 : ({ s2 with heap := s2.heap.push { cls := .type "list", data := .seq ([] : List Value).toArray } } : Shared) = s3 at *
  have ht1 : tn 0 h₁ := T.keep 0 _ _ ht0 fun b hb o e => hk b o (Heap.get?_push_of_some _ e)
  -- the loop
  have loop := lc_loop (use := some (assign (.Name y py) X.env)) (PQ := fun _ s' => SP X pins Dn .next s') (iter := iter) (pos := pos) hcalm S he I3 T (fun b hb => ⟨(hfp3 b hb).1, by rw [← hs3]; exact (hfp3 b hb).2⟩) hW0 hW fun s6 H5 o J6 q => by
    obtain ⟨m, hn, _⟩ := id J6.loc
    have I6 : Inv X pins σ H5 s6 := inv_lc_end I3 J6 (fun b hb => (hfp3 b hb).1) (Heap.SameBut.refl ..)
    have hC5 : H5 s3.heap.objs.size = none := J6.free
    have fC := I3.fpOk (H' := H5) (Nat.le_refl _) hC5
    refine (show wpAny _ X.A (assign (.Name y py) X.env (.ref s2.heap.objs.size)) _ _ s6 from wpAny_assign_Name (store_ok2 (v := .ref s2.heap.objs.size) I6 hNd hk0 hyL rfl (fun s7 I7 ⟨a, sb, ha⟩ => ?_) hfy))
    have hCa : s3.heap.objs.size ≠ a := fun z => by
      rcases ha with e | e
      · exact fC.2.1 (z.trans e)
      · exact fC.2.2.2.2.1 _ _ e z.symm
    exact ⟨m, hn.sameBut sb hCa, fun h' hs => ⟨_, H5, I7.turned (t' := s7.toks) (fun b o hb e => (hs.2 b hb).trans e) fC.1 fC.2.1 fC.2.2.2.1 fC.2.2.2.2.1 fC.2.2.2.2.2, q⟩⟩
  subst hs3
  exact codeAny_compStart_list (loop _ J4 ht1) (T.self _ 0 _ _ _ ht1 (loop _ J4 ht1))
end
end Sh

end
section
set_option Elab.async false
set_option linter.all false
set_option maxRecDepth 100000
set_option maxHeartbeats 4000000
namespace Sh
open PySem PySem.Spec PyProof.Rows L2
/-! ### worlds that a number makes: what a term means, whether a form is true -/
def nxt (s : Int) : Int := (s * 48271 + 12345) % 2147483647
/-! ### terms and forms as the worlds take them -/
/-! ### putting keeps what is meant -/
end Sh

end
section
set_option Elab.async false
set_option linter.all false
set_option maxRecDepth 100000
set_option maxHeartbeats 4000000
namespace Sh
open PySem PySem.Spec PyProof.Rows L2
/-! ### an exception on its way: B is all that stands, less the frames that run -/
structure Fl (X : Cx) (pins : List (Addr × Obj)) (H : Hp) (B : Heap) : Prop where
  hok : HOk X.prog X.w H B
  lnk : ∀ b o, X.s₀.heap.get? b = some o → b ∉ frs X.stack → ∃ o', B.get? b = some o'
  pin : ∀ p ∈ X.pn ++ pins, ∃ o', B.get? p.1 = some o'
inductive XSt (X : Cx) (B : Heap) (ea : Addr) (cls : Value) (h : Heap) : Prop
  | made (h0 : Heap) (args : List Value) (m : Heap.MadeExcOf h0 h ea cls args) (st : B.StaysIn h0) (ff : h0.FunFrames B X.stack)
  | fly (a0 : Value) (f : Heap.FlyingW B X.stack ea cls a0 h)
  | held (a0 : Value) (f : Heap.HeldW B X.stack ea cls a0 X.env.locals h)
theorem XSt.stays {X : Cx} {B h : Heap} {ea : Addr} {cls : Value} (x : XSt X B ea cls h) : B.StaysIn h := by
  cases x with
  | made h0 args m st ff => exact fun b o e => m.keeps b o (st b o e)
  | fly a0 f => exact f.1
  | held a0 f => exact f.1
/-- what is wanted of an exception in X: it is on its way, and R holds of its class, the locals and the abstract heap -/
def XS (X : Cx) (R : Value → L2.St → Hp → Prop) : Value → Shared → Prop := fun e s => ∃ ea cls σ H B, e = .ref ea ∧ Inv X [] σ H s ∧ Fl X [] H B ∧ XSt X B ea cls s.heap ∧ R cls σ H
section
variable {X : Cx} {pins : List (Addr × Obj)} {σ : L2.St} {H : Hp} {s : Shared} {B h' : Heap} {ea : Addr} {cls a0 : Value}
theorem _root_.L2.Inv.nopins (I : Inv X pins σ H s) : Inv X [] σ H s := I.pins_of fun p hp => nomatch hp
theorem nostk (I : Inv X pins σ H s) {b : Addr} (h1 : b ≠ X.env.locals) (h2 : b ∉ X.fs) : b ∉ frs X.stack := fun z => (List.mem_cons.mp (I.stkSub b z)).elim h1 h2
/-- the exception's own records and the frames' slots may turn: all that X speaks of stays -/
theorem _root_.L2.Inv.flown (I : Inv X pins σ H s) (F : Fl X pins H B) (sb : B.StaysIn s.heap) (st : B.StaysIn h') (up : s.heap.UpToSlots h') : Inv X pins σ H { s with heap := h' } := by
  have neL : ∀ b o, X.s₀.heap.get? b = some o → b ≠ X.env.locals := fun b o e => Nat.ne_of_lt (Nat.lt_of_lt_of_le (Heap.lt_size e) I.ok.above)
  have cellK : ∀ c v, s.heap.IsCell c v → h'.IsCell c v := fun c v ⟨o, ho, hd⟩ => by
    obtain ⟨sl, q⟩ := up c o ho fun vs z => by rw [hd] at z; cases z
    exact ⟨_, q, hd⟩
  have viaB : ∀ b o, (∃ o', B.get? b = some o') → s.heap.get? b = some o → h'.get? b = some o := fun b o ⟨o', e'⟩ e => by
    have e2 := sb b o' e'
    rw [e] at e2; cases e2
    exact st b o e'
  refine ⟨I.ok, I.os, I.bare, ⟨fun b o e n hb hx => ?_, fun b o e n hb hx => ?_, I.base.free, fun b o e hx => ?_, I.base.tups, I.base.frzs, I.base.tbls⟩, ?_, fun x c e => ?_, I.free, I.freeC, fun p hp => ?_, F.hok.kept st, I.len⟩
  · exact viaB b o (F.lnk b o e (nostk I (neL b o e) hb)) (I.base.keep b o e n hb hx)
  · obtain ⟨sl, e1⟩ := I.base.slot b o e n hb hx
    obtain ⟨_, o2, ho2, nf⟩ := I.ok.funs.mem hb
    rw [e] at ho2; cases ho2
    obtain ⟨sl', e2⟩ := up b _ e1 nf
    exact ⟨sl', e2⟩
  · obtain ⟨o', e1⟩ := I.base.there b o e hx
    by_cases hb : b ∈ X.fs
    · obtain ⟨_, o2, ho2, nf⟩ := I.funs.mem hb
      obtain ⟨sl, e2⟩ := up b o2 ho2 nf
      exact ⟨_, e2⟩
    · exact ⟨o', viaB b o' (F.lnk b o e (nostk I (neL b o e) hb)) e1⟩
  · obtain ⟨m, hn, hl⟩ := I.loc
    refine ⟨m, up.ns hn, fun i x v e1 e2 e3 => ?_⟩
    obtain ⟨u, r, l⟩ := hl i x v e1 e2 e3
    refine ⟨u, r, ?_⟩
    rcases l with l | ⟨k, c, e, z⟩
    · exact .inl l
    · exact .inr ⟨k, c, e, cellK c _ z⟩
  · obtain ⟨v, z⟩ := I.cell x c e
    exact ⟨v, cellK c v z⟩
  · obtain ⟨e, n, ne, nf, d⟩ := I.pin p hp
    exact ⟨viaB p.1 p.2 (F.pin p hp) e, n, ne, nf, d⟩
end

/-! ### noting, holding, leaving -/
section
variable {M : Model} {A : Around} {E : Value → Shared → Prop} {s : Shared}
theorem noteFrame_made {base h0 : Heap} {env : Env} {outer : List Env} {L e : Addr} {cls : Value} {args : List Value} {Q : Unit → Shared → Prop}
    (hfr : A.frames = some (env :: outer)) (hf : env.frame = some L) (m : Heap.MadeExcOf h0 s.heap e cls args) (st : base.StaysIn h0) (ff : h0.FunFrames base (env :: outer))
    (hQ : ∀ h' t, Heap.HeldW base (env :: outer) e cls (.ref t) L h' → s.heap.UpToSlots h' → Q () { s with heap := h' }) : wpAny M A (noteFrame (.ref e) env) Q E s := by
  obtain ⟨t, he, htn, ht⟩ := m.there
  have hen : base.get? e = none := by
    cases hq : base.get? e with
    | none => rfl
    | some o' => have := st e o' hq; rw [m.new] at this; cases this
  unfold noteFrame
  simp only [hf]
  refine wpAny_bind (wpAny_field he rfl (x := .none) rfl ?_)
  rw [if_neg (by decide)]
  refine wpAny_entryW (vs := #[.ref t, .none, .none, .none, .bool false, .none]) (a0 := .ref t) hfr (ff.of_keeps fun b o hb _ => ⟨o, m.keeps b o hb, rfl⟩) hf he (fun b o hb => m.keeps b o (st b o hb)) hen rfl (by show 1 < 6; decide) rfl fun h' hN => ?_
  obtain ⟨k1, k2, k3, k4⟩ := hN
  exact hQ h' t ⟨k1, hen, k2, k3⟩ k4
/-- one field of a record is written: every other address reads as before -/
theorem rec_put {h : Heap} {a : Addr} {o : Obj} {fs : Array Value} (at_ : h.get? a = some o) (rec_ : o.data = .fields fs) (f : Array Value → Array Value) :
    (∀ c, c ≠ a → (h.update a (Obj.mapFields f)).get? c = h.get? c) ∧ ∃ o', (h.update a (Obj.mapFields f)).get? a = some o' ∧ o'.data = .fields (f fs) := by
  have d := Obj.data_mapFields rec_ f
  exact ⟨fun c n => Heap.get?_update_other _ _ n.symm, o.mapFields f, Heap.get?_update_self _ at_ (Obj.isFreed_of_fields d), d⟩
theorem setFlight_held {base : Heap} {l : List Env} {e L : Addr} {cls a0 : Value} {Q : Unit → Shared → Prop} (R : Heap.HeldW base l e cls a0 L s.heap)
    (fin : ∀ g, Heap.HeldW base l e cls a0 L g → s.heap.UpToSlots g → Q () { s with heap := g }) : wpAny M A (setFlight (.ref e) (some L)) Q E s := by
  rcases R with ⟨below, new, frames, ox, xs, tb, ot, ys, gx, kx, dx, toTb, newTb, apart, gt, dt, place⟩
  have room : 3 < ys.size := by
    rcases Array.getElem?_eq_some_iff.mp place with ⟨r, _⟩
    exact r
  rcases rec_put gt dt (fun v => v.setIfInBounds 3 (rawInt L)) with ⟨rest, ot', gt', dt'⟩
  have plain : ∀ c o, s.heap.get? c = some o → (∀ v, o.data ≠ .fields v) → c ≠ tb := by
    rintro c o g n rfl
    exact n ys ((Option.some.inj (g.symm.trans gt)) ▸ dt)
  have go := fin (s.heap.update tb (Obj.mapFields fun v => v.setIfInBounds 3 (rawInt L)))
    ⟨fun c o g => (rest c (by rintro rfl; rw [newTb] at g; cases g)).trans (below c o g), new, frames.of_keeps fun c o g n => ⟨o, (rest c (plain c o g n)).trans g, rfl⟩,
      ox, xs, tb, ot', _, (rest e apart.symm).trans gx, kx, dx, toTb, newTb, apart, gt', dt', by simp [room]⟩
    (fun c o g n => ⟨o.slots, (rest c (plain c o g n)).trans g⟩)
  unfold setFlight
  refine wpAny_bind (wpAny_field gx dx toTb ?_)
  have some_ : (Value.ref tb != Value.none) = true := rfl
  rw [some_]
  exact wpAny_setField gt dt room go
/-- a noted exception comes back to its own frame -/
theorem cameBack_held {base : Heap} {env : Env} {l : List Env} {e L : Addr} {cls a0 : Value} (hf : env.frame = some L) (R : Heap.HeldW base l e cls a0 L s.heap) (h : ∀ h', Heap.HeldW base l e cls a0 L h' → s.heap.UpToSlots h' → E (.ref e) { s with heap := h' }) :
    cameBackBy M A env E (.ref e) s := by
  rcases id R with ⟨_, _, _, ox, xs, tb, _, _, gx, _, dx, toTb, _⟩
  unfold cameBackBy
  refine wpAny_bind (wpAny_field gx dx toTb ?_)
  have none_ : (Value.ref tb == Value.none) = false := rfl
  rw [none_, if_neg Bool.false_ne_true, hf]
  first
    | exact wpAny_bind (wpAny_pure (setFlight_held R h))
    | exact setFlight_held R h
end

section
variable {X : Cx} {R : Value → L2.St → Hp → Prop}
/-- X is a def's body: its frame stands on top -/
structure Top1 (X : Cx) : Prop where
  stk : X.stack = X.env :: X.outer
  frm : X.env.frame = some X.env.locals
/-- the exception is held by X's frame -/
theorem XS.note {e : Value} {s : Shared} {M : Model} {E : Value → Shared → Prop} {Q : Unit → Shared → Prop} (T : Top1 X) (x : XS X R e s)
    (h : ∀ h' ea cls a0 σ H B, e = .ref ea → Inv X [] σ H { s with heap := h' } → Fl X [] H B → Heap.HeldW B X.stack ea cls a0 X.env.locals h' → R cls σ H → Q () { s with heap := h' }) : wpAny M X.A (noteFrame e X.env) Q E s := by
  obtain ⟨ea, cls, σ, H, B, rfl, I, F, st, r⟩ := x
  have sb := st.stays
  have hfr : X.A.frames = some (X.env :: X.outer) := by rw [← T.stk]; exact I.ok.frames
  cases st with
  | made h0 args m s0 ff =>
    rw [T.stk] at ff
    exact noteFrame_made hfr T.frm m s0 ff fun h' t hh up => h h' ea cls _ σ H B rfl (I.flown F sb hh.1 up) F (by rw [T.stk]; exact hh) r
  | fly a0 f =>
    rw [T.stk] at f
    exact wpAny_looks_onW hfr T.frm f fun h' hh up => h h' ea cls _ σ H B rfl (I.flown F sb hh.1 up) F (by rw [T.stk]; exact hh) r
  | held a0 f => exact wpAny_noteFrame_againW T.frm f.2.2.2 (h s.heap ea cls a0 σ H B rfl I F f r)
theorem passes_XS {M : Model} (T : Top1 X) : PassesOwn M X.A X.env (XS X R) := fun e s x => by
  refine XS.note T x fun h' ea cls a0 σ H B e1 I F hh r => ?_
  subst e1
  exact cameBack_held T.frm hh fun h2 hh2 up => ⟨ea, cls, σ, H, B, rfl, I.flown F hh.1 hh2.1 up, F, .held a0 hh2, r⟩
end

/-! ### how an exception lies behind a call -/
def CX1 (P : Program) (w : World) : CXT := fun outer H s E e s' => ∃ (ea : Addr) (cls a0 : Value) (H' : Hp) (B : Heap), e = .ref ea ∧ s'.os = s.os ∧ AllBare s'.gens ∧ Heap.FlyingW B outer ea cls a0 s'.heap ∧ Un (frs outer) [] H H' s.heap s'.heap ∧ HOk P w H' B ∧
  (∀ b o, s.heap.get? b = some o → b ∉ frs outer → ∃ o', B.get? b = some o') ∧ E cls none H'
section
variable {X : Cx} {R : Value → L2.St → Hp → Prop} {pins : List (Addr × Obj)} {σ : L2.St} {H : Hp} {s s' : Shared} {e : Value}
/-- a callee's exception reaches X -/
theorem XS.of_call (I : Inv X pins σ H s) (hex : X.ex = []) (x : CX1 X.prog X.w X.stack H s (fun cls _ H' => R cls σ H') e s') : XS X R e s' := by
  obtain ⟨ea, cls, a0, H', B, rfl, os, bare, f, un, hok, lnk, r⟩ := x
  have I' : Inv X [] σ H' s' := I.nopins.call' (ch := []) os un (hok.kept f.1) bare fun b z => nomatch z
  refine ⟨ea, cls, σ, H', B, rfl, I', ⟨hok, fun b o q hb => ?_, fun p hp => ?_⟩, .fly a0 f, r⟩
  · obtain ⟨o', e1⟩ := I.base.there b o q (by rw [hex]; simp)
    exact lnk b o' e1 hb
  · have hp' : p ∈ X.pn ++ [] := hp
    obtain ⟨q, n, ne, nf, _⟩ := I.nopins.pin p hp'
    exact lnk p.1 p.2 q (nostk I ne nf)
/-- an exception leaves X's frame -/
theorem XS.leave {M : Model} {E : Value → Shared → Prop} {E' : XK} (T : Top1 X) (hex : X.ex = []) (x : XS X (fun cls _ H' => E' cls none H') e s) : wpAny M X.A (leaving X.env e) (fun _ s' => CX1 X.prog X.w X.outer X.H₀ X.s₀ E' e s') E s := by
  unfold leaving
  refine wpAny_bind (XS.note T x fun h' ea cls a0 σ H B e1 I F hh r => ?_)
  subst e1
  refine wpAny_landsW hh fun h2 f up => ?_
  have J := I.flown F hh.1 f.1 up
  rw [T.stk] at f
  obtain ⟨k1, k2, ⟨_, _, k3⟩, k4⟩ := f
  refine ⟨ea, cls, a0, H, B, rfl, J.os, J.bare, ⟨k1, k2, k3, k4⟩, ?_, F.hok, fun b o q hb => F.lnk b o q ?_, r⟩
  · have u := J.base
    rw [hex] at u
    exact u
  · exact nostk I (Nat.ne_of_lt (Nat.lt_of_lt_of_le (Heap.lt_size q) I.ok.above)) hb
end
end Sh
namespace Sh
open PySem PySem.Spec PyProof.Rows L2
/-! ### defs that may raise -/
def OkX (P : Program) (w : World) (K : PySem.W.Frag) (mg : Str → Option Value) (base : Heap) (x : Str) (ps : List Str) (k : Nat) (sp : Sp) : Prop :=
  ∃ f fd, FnOk P w K mg base (CX1 P w) k f fd ps sp ∧ Binds K fd ps [] ∧ mg x = some (.ref f) ∧ PySem.W.keepIn K (.ref f) = true
/-- the context of a def's body, an exception wanted as XS says -/
abbrev cxX (P : Program) (w : World) (K : PySem.W.Frag) (mg : Str → Option Value) (base : Heap) (N : List Str) (x : Str) (scope : Scope) (f : Addr) (cd : Value) (A : Around) (outer : List Env) (s : Shared) (H : Hp) (E : XK) : Cx :=
  (cxOf (CX1 P w) P w K mg base N x scope f cd A outer s H E).wish (XS (cxOf (CX1 P w) P w K mg base N x scope f cd A outer s H E) fun cls _ H' => E cls none H')
theorem top_cxOf {CX : CXT} {P : Program} {w : World} {K : PySem.W.Frag} {mg : Str → Option Value} {base : Heap} {N : List Str} {x : Str} {scope : Scope} {f : Addr} {cd : Value} {A : Around} {outer : List Env} {s : Shared} {H : Hp} {E : XK} :
    Top1 (cxOf CX P w K mg base N x scope f cd A outer s H E) := ⟨rfl, rfl⟩
section
variable {P : Program} {w : World} {K : PySem.W.Frag} {mg : Str → Option Value} {base : Heap} {x : Str} {st : Stmt} {N ps : List Str} {k : Nat} {sp : Sp}
theorem Def.okX (D : Def K mg x st ps) (S : FnScope N ps (defScope st)) (len : ∀ vs H Q E, sp vs H Q E → vs.length = ps.length)
    (hbody : ∀ (f : Addr) (cdv : Value) (A : Around) (outer : List Env) (s : Shared) (H : Hp) (vs : List V) (Q : VK) (E : XK), Room k (A.deeper (envOfC x (defScope st) s.heap.objs.size f cdv)) → sp vs H Q E →
      ∃ t, PSs (cxX P w K mg base N x (defScope st) f cdv A outer s H E) (defBody st) t ∧ t { nx := fun _ H' => Q .non H', rt := Q } (start N vs) H) : OkX P w K mg base x ps (k + 1) sp := by
  obtain ⟨f, fd, F, b, m⟩ := D
  refine ⟨f, fd, ?_, b, m, F.kp⟩
  obtain ⟨oc, od, kV, doc, pm, an, cdv, ct, osl, rfl, lk, hcd⟩ := F.ex
  refine fn_of lk hcd S len fun A outer s H vs Q E hr hsp => ?_
  obtain ⟨t, h, q⟩ := hbody f cdv A outer s H vs Q E hr hsp
  refine ⟨t, fun pins s1 σ H1 D1 I hq => ?_, q⟩
  refine wpAny_mono (h pins s1 σ H1 D1 (I.wish _) hq) (fun fl s2 z => z.unwish) fun e s2 z => ?_
  exact XS.leave top_cxOf rfl z
end
/-! ### a call that may raise, within X.wish (XS X R) -/
def tCallX (sp : Sp) (R : Value → L2.St → Hp → Prop) (t : TA) : TE := fun σ H Q => t σ H fun vs H1 => sp vs H1 Q fun cls _ H' => R cls σ H'
section
variable {X : Cx} {R : Value → L2.St → Hp → Prop} {x : Str} {ps : List Str} {k j : Nat} {sp : Sp} {p pos : Pos} {e : Expr} {es : List Expr} {t : TA}
theorem pe_okX (G : OkX X.prog X.w X.K X.mg X.base x ps k sp) (hex : X.ex = []) (hr : Room j X.A) (hk : k ≤ j) (hg : Gl X x) (ha : PA (X.wish (XS X R)) (e :: es) t) (hdb : (x == ("__debug__" : Str)) = false := by decide)
    (he : starEach (e :: es) X.env = (false, eval e X.env) :: starEach es X.env := by rfl) (hpl : (backTo pos (starEach es X.env)).any (·.1) = false := by rfl) : PE (X.wish (XS X R)) (.Call (.Name x p) (e :: es) [] pos) (tCallX sp R t) := by
  obtain ⟨f, fd, F, b, m, kp⟩ := G
  intro pins s σ H Q I h
  refine wpAny_Call_Name_kw (ld_glob I hg m ?_ hdb)
  refine PySem.W.callWith_K (h₀ := X.base) I.ok.mod.kin kp (thn (ha pos pins s σ H _ I h) fun us s1 ⟨vs, H1, I1, r, q⟩ => ⟨I1.kIn, ?_⟩) he hpl
  have hl : us.length = ps.length := by rw [← r.length]; exact F.len _ _ _ _ q
  have b' := b s1 us I1.kIn (by rw [List.append_nil]; exact hl)
  rw [List.append_nil] at b'
  refine wpAny_call (codeAny_mono (F.run X.A X.stack s1 H1 ⟨us, []⟩ us vs Q _ (hr.mono hk) I1.unwish.env0 b' r q) fun rs s' hq => ?_)
  cases rs with
  | error e => exact XS.of_call I1.unwish hex hq
  | ok fl =>
    cases fl with
    | ret u =>
      obtain ⟨v, H2, I2, rv, q2⟩ := I1.unwish.after hq
      exact ⟨v, H2, I2.wish _, rv, q2⟩
    | next => exact False.elim hq
    | brk => exact False.elim hq
    | cont => exact False.elim hq
/-! ### raise C(..) -/
/-- C is an error class of the program's own, under ValueError -/
structure Exc (K : PySem.W.Frag) (mg : Str → Option Value) (base : Heap) (x : Str) (C : Addr) : Prop where
  own : OwnCls x C [.type "ValueError", .type "Exception", .type "BaseException", .type "object"] "ValueError.__new__" mg base
def tRaise (C : Addr) (R : Value → L2.St → Hp → Prop) (t : TA) : TS := fun _ σ H => t σ H fun vs H1 => vs.length ≤ sizeLine ∧ R (.ref C) σ H1
theorem ps_raise {C : Addr} (O : Exc X.K X.mg X.base x C) (hex : X.ex = []) (hc : X.calm = true) (hg : Gl X x) (ha : PA (X.wish (XS X R)) (e :: es) t) (hdb : (x == ("__debug__" : Str)) = false := by decide)
    (he : starEach (e :: es) X.env = (false, eval e X.env) :: starEach es X.env := by rfl) (hpl : (backTo pos (starEach es X.env)).any (·.1) = false := by rfl) {rpos : Pos} :
    PS (X.wish (XS X R)) (.Raise (some (.Call (.Name x p) (e :: es) [] pos)) none rpos) (tRaise C R t) := by
  intro pins s σ H D I h
  have O' := O.own
  obtain ⟨tl, N, nm, q, bs, hdct, sn, sub, ab, col, dd, k0, k1, k2, k3, k5, mN, hC, hN, hni, T⟩ := O'.obj
  have base_ := PySem.F.excBase_ValueError
  have plain_ : (backTo pos (starEach (e :: es) X.env)).any (·.1) = false := by
    rw [he]
    exact hpl
  refine @wpAny_Raise_call_subT _ _ _ _ _ _ nm q C N bs tl _ hdct sn sub ab col dd k0 k1 k2 k3 k5 _ _ _ base_ mN _ _ _ _ _ _ (T.hasType base_.hasBase) (I.ok.hd hc) plain_ hni (ld_glob I hg O'.bound ⟨rfl, ?_⟩ hdb)
  have ha' := ha pos pins s σ H _ I h
  have he' : starEach (e :: es) (X.wish (XS X R)).env = (false, eval e (X.wish (XS X R)).env) :: starEach es (X.wish (XS X R)).env := he
  rw [he'] at ha' ⊢
  refine Calls.evalArgs_plain (wpAny_mono ha' (fun us s1 ⟨vs, H1, I1, r, hl, q1⟩ => ?_) fun _ _ y => y)
  have J := I1.unwish
  refine ⟨rfl, by rw [← r.length]; exact hl, J.bk _ _ hC, hN.keeps J.bk, T.keeps J.bk, fun h' ea m => ?_⟩
  have J' : Inv X [] σ H1 { s1 with heap := h' } := J.nopins.kept (t' := s1.toks) m.keeps
  have stk : ∀ b o, s1.heap.get? b = some o → b ∉ frs X.stack → (PySem.W.hideAll s1.heap (frs X.stack)).get? b = some o := fun b o z hb => PySem.W.hideAll_get _ z hb
  refine ⟨ea, _, σ, H1, PySem.W.hideAll s1.heap (frs X.stack), rfl, J', ⟨fun a o z => ?_, fun b o z hb => ?_, fun p hp => ?_⟩, .made s1.heap us m (fun b o z => PySem.W.of_hideAll _ z) (PySem.W.funFrames_hide J.stack fun env henv a hf => List.mem_filterMap.mpr ⟨env, henv, hf⟩), q1⟩
  · have nf : ∀ b u, H1 b = some u → b ∉ frs X.stack := fun b u z hb => by rw [J.stkFree b hb] at z; cases z
    refine (J.hok a o z).stay (fun b u hb y => stk b u y ?_) (fun _ y => y) fun _ _ y => y
    rcases hb with rfl | hb
    · exact nf _ _ z
    · exact nf _ _ hb
  · obtain ⟨o', e1⟩ := J.base.there b o z (by rw [hex]; simp)
    exact ⟨o', stk b o' e1 hb⟩
  · obtain ⟨q, n, ne, nf, _⟩ := J.nopins.pin p hp
    exact ⟨p.2, stk p.1 p.2 q (nostk J ne nf)⟩
end
end Sh

end
section
set_option Elab.async false
set_option linter.all false
set_option maxRecDepth 100000
set_option maxHeartbeats 4000000
namespace Sh
open PySem PySem.Spec PySem.Calls PyProof.Rows L2 PySem.W PySem.Builtin PySem.Builtin.ObjectAttr PySem.Builtin.Getset_descriptor
/-! ### isinstance of an exception of an own class: what its class answers, by the written part K -/
def IsEx (ea : Addr) (cls : Value) (h : Heap) : Prop := ∃ o, h.get? ea = some o ∧ o.cls = cls
structure ExK (K : Frag) (C : Addr) : Prop where
  ga : findIn K (.ref C) "__getattribute__" = some (some (.builtin "BaseException.__getattribute__"))
  gn : findIn K (.ref C) "__getattr__" = some none
  ca : findIn K (.ref C) "__class__" = some (some (.builtin "object.__class__"))
  ob : mroIn K C (.type "object") = some true
  be : mroIn K C (.type "BaseException") = some true
  it : (clsIn K C).isSome = true
section
variable {prog : Program} {w : World} {A : Around} {E : Value → Shared → Prop} {s : Shared} {K : Frag} {ea C : Addr}
theorem IsEx.ty {M : Model} {cls : Value} {h : Heap} (x : IsEx ea cls h) : Looks M h (typeOf (.ref ea)) cls := by
  rcases x with ⟨o, g, c⟩
  rw [← c]
  exact (Looks.ld g).andThen .now
/-- e.__class__ by the descriptor of object -/
theorem ex_descr {R : Result → Shared → Prop} {tp : Value} (X : K.In s.heap) (I : IsEx ea (.ref C) s.heap) (k : ExK K C) (fin : R (.ok (.ret (.ref C))) s) :
    codeAny (model prog w) A (.call (.builtin "getset_descriptor.__get__") ⟨[.builtin "object.__class__", .ref ea, tp], []⟩) R s := by
  cases s with
  | mk hp gn dw tk os =>
    have ty := I.ty (M := model prog w)
    have up := looks_mroIn (M := model prog w) X k.ob
    have up' : Looks (model prog w) hp (isSubtype (.ref C) (.type (".".intercalate ("object.__class__".cutAt '.').dropLast))) true := by
      have ow : (".".intercalate ("object.__class__".cutAt '.').dropLast) = "object" := by decide +kernel
      rw [ow]
      exact up
    refine codeAny_call_builtin KF.slot_gs.plain KF.entry_gs ?_
    refine KF.slot_gs.check _ _ _ _ _ _ _ _ KF.type_class (KF.args_gs _ _ _) ?_
    repeat (any_goals (first | assumption | with_reducible refine Looks.at ty ?_ | with_reducible refine Looks.at up' ?_ | wp_step))
    refine ⟨Code.quiet_builtin _ (by decide +kernel), ?_⟩
    refine codeAny_builtin KF.entry_class ?_
    repeat (any_goals (first | exact fin | with_reducible refine Looks.at ty ?_ | wp_step))
/-- the slot takes e -/
theorem ex_checked {M : Model} {v : Value} {Q : Unit → Shared → Prop} (X : K.In s.heap) (I : IsEx ea (.ref C) s.heap) (k : ExK K C) (fin : Q () s) : wpAny M A (checkBuiltinCall "BaseException.__getattribute__" ⟨[.ref ea, v], []⟩) Q E s := by
  cases s with
  | mk hp gn dw tk os =>
    have ty := I.ty (M := M)
    have up := looks_mroIn (M := M) X k.be
    have ar := F.args_bexc_ga (.ref ea) v
    simp only [checkBuiltinCall, show builtinKind "BaseException.__getattribute__" = some .slot from by decide +kernel, show splitId "BaseException.__getattribute__" = some ("BaseException", "__getattribute__") from by decide +kernel, isInstance]
    repeat (any_goals (first | exact fin | assumption | with_reducible refine Looks.at ty ?_ | with_reducible refine Looks.at up ?_ | wp_step))
/-- e.__class__ -/
theorem ex_class {Q : Option Value → Shared → Prop} (X : K.In s.heap) (I : IsEx ea (.ref C) s.heap) (k : ExK K C) (fin : Q (some (.ref C)) { s with toks := s.toks + 1 }) : wpAny (model prog w) A (getAttr? (.ref ea) "__class__") Q E s := by
  cases s with
  | mk hp gn dw tk os =>
    have ty := I.ty (M := model prog w)
    have l1 := looks_findIn (M := model prog w) X k.ga
    have l2 := looks_findIn (M := model prog w) X k.gn
    have l3 := looks_findIn (M := model prog w) X k.ca
    have l4 := looks_mroIn (M := model prog w) X k.be
    have sl := F.excAttr_ValueError.ga
    have bd := sl.bind (.ref ea)
    have t1 := F.typeOf_object_class
    have t2 : (⟨hp, gn, dw, tk + 1, os⟩ : Shared).TypeIs (.builtin "object.__class__") "getset_descriptor" := t1
    have d1 := F.slot_gs_get.lookup
    have d2 := F.slot_gs_set.lookup
    have ne : (Value.builtin "BaseException.__getattribute__" == .builtin "object.__getattribute__") = false := by decide +kernel
    have ne' : (onTheHeap (.ref C) && Value.builtin "BaseException.__getattribute__" == .builtin "object.__getattribute__") = false := by rw [ne, Bool.and_false]
    unfold getAttr? getAttrBy? getAttrBy
    repeat (any_goals (first | exact fin | assumption | with_reducible refine Looks.at ty ?_ | with_reducible refine Looks.at l1 ?_ | with_reducible refine Looks.at l2 ?_ | wp_step))
    refine codeAny_call_builtin sl.plain F.entry_bexc_ga (ex_checked (s := ⟨hp, gn, dw, tk + 1, os⟩) X I k ?_)
    repeat (any_goals (first | exact fin | assumption | with_reducible refine Looks.at ty ?_ | with_reducible refine Looks.at l4 ?_ | with_reducible refine Looks.at l3 ?_ | with_reducible refine ex_descr (s := ⟨hp, gn, dw, tk + 1, os⟩) X I k ?_ | wp_step))
theorem kitx_ex (k : ExK K C) : KitX K (.ref ea) (.ref C) (IsEx ea (.ref C)) := by
  have cls : ∃ o cd, K.lookup C = some o ∧ o.data = .cls cd := by
    have q := k.it
    unfold clsIn at q
    split at q
    · exact ⟨_, _, by assumption, rfl⟩
    · cases q
  obtain ⟨o, cd, lo, dc⟩ := cls
  refine ⟨fun _ _ _ I => I.ty, fun M h X _ => ?_, fun h tp dd its n sl X at_ => ?_, fun X I fin => ex_class X I k fin⟩
  · intro A' Q' E' s' up fin
    obtain ⟨c', d', da', sl'⟩ := o
    cases dc
    exact wpAny_bind (wpAny_loadPart (up _ _ (X _ _ lo)) (wpAny_pure fin))
  · by_cases e : C = tp
    · subst e
      have z := X _ _ lo
      rw [at_] at z
      cases z
      cases dc
    · exact beq_eq_false_iff_ne.mpr fun q => e (Value.ref.inj q)
end
end Sh

end
section
set_option Elab.async false
set_option linter.all false
set_option maxRecDepth 100000
set_option maxHeartbeats 4000000
namespace Sh
open PySem PySem.Spec PyProof.Rows L2
/-- a tracked thing stands in the heap -/
theorem obj_has {P : Program} {w : World} {H : Hp} {h : Heap} {a : Addr} {o : HO} (x : ObjOk P w H h a o) : ∃ ob, h.get? a = some ob := by
  cases o with
  | lst xs => obtain ⟨_, _, _, _, e⟩ := x; exact ⟨_, e⟩
  | tup xs => obtain ⟨_, _, _, ob, e, _⟩ := x; exact ⟨_, e⟩
  | dK kvs => obtain ⟨_, _, _, _, ob, _, _, e, _⟩ := x; exact ⟨_, e⟩
  | dT kvs => obtain ⟨_, _, _, _, ob, _, _, e, _⟩ := x; exact ⟨_, e⟩
  | set S n => obtain ⟨ob, _, _, _, e, _⟩ := x; exact ⟨_, e⟩
  | ins C dx fs => obtain ⟨_, _, _, e, _⟩ := x; exact ⟨_, e⟩
  | own y => exact x
  | xd fs => obtain ⟨_, ⟨_, _, _, e, _⟩, _⟩ := x; exact ⟨_, e⟩
  | rng lo hi => obtain ⟨_, _, _, e⟩ := x; exact ⟨_, e⟩
  | frz ob u => exact ⟨_, x.1⟩
  | tbl ps => exact ⟨_, show h.get? a = some _ from x⟩
  | met f y => exact ⟨_, show h.get? a = some _ from x⟩
  | ext φ => exact x.2.1
/-! ### the context of an except suite: the exception at ea is handled, none leaves -/
abbrev cxH (X : Cx) (ea : Addr) : Cx := { X with A := X.A.mark (some (.ref ea)), calm := false, xe := fun _ _ => False }
section
variable {X : Cx} {pins : List (Addr × Obj)} {σ σ' : L2.St} {H : Hp} {s : Shared} {h' : Heap} {ea : Addr} {cls : Value}
theorem _root_.L2.Inv.toH (I : Inv X pins σ H s) : Inv (cxH X ea) pins σ H s :=
  have o := I.ok
  ⟨⟨o.mod, o.kind, o.glob, o.blt, o.above, o.inj, o.has, o.cab, (fun z => by cases z), o.frames, o.stk, o.exf, o.bs, o.bsz, o.noex, o.exfs, o.funs, o.frf⟩, I.os, I.bare, I.base, I.loc, I.cell, I.free, I.freeC, I.pin, I.hok, I.len⟩
theorem _root_.L2.Inv.ofH (J : Inv (cxH X ea) pins σ H s) (o : X.Ok) : Inv X pins σ H s := ⟨o, J.os, J.bare, J.base, J.loc, J.cell, J.free, J.freeC, J.pin, J.hok, J.len⟩
/-- the frame's own map has turned -/
theorem _root_.L2.Inv.nsTurn {t' : Nat} (I : Inv X pins σ H s) (hs : Heap.SameBut X.env.locals s.heap h') (hl : σ'.length = σ.length)
    (loc : ∃ m, h'.Ns X.env.locals m ∧ ∀ (i : Nat) (x : Str) (v : V), X.N[i]? = some x → σ'[i]? = some (some v) → Vis X.env.scope x → ∃ u, RelV v u ∧ Look X.env h' m x u) : Inv X pins σ' H { s with heap := h', toks := t' } := by
  have neL : ∀ b o, X.s₀.heap.get? b = some o → b ≠ X.env.locals := fun b o e => Nat.ne_of_lt (Nat.lt_of_lt_of_le (Heap.lt_size e) I.ok.above)
  have to : ∀ b o, b ≠ X.env.locals → s.heap.get? b = some o → h'.get? b = some o := fun b o n e => (hs.2 b n).trans e
  refine ⟨I.ok, I.os, I.bare, ⟨fun b o e n hb hx => to b o (neL b o e) (I.base.keep b o e n hb hx), fun b o e n hb hx => ?_, I.base.free, fun b o e hx => ?_, I.base.tups, I.base.frzs, I.base.tbls⟩, loc, fun y c e => ?_, I.free, I.freeC, fun p hp => ?_, fun a o e => ?_, hl.trans I.len⟩
  · obtain ⟨sl, z⟩ := I.base.slot b o e n hb hx
    exact ⟨sl, to b _ (neL b o e) z⟩
  · obtain ⟨o', z⟩ := I.base.there b o e hx
    exact ⟨o', to b o' (neL b o e) z⟩
  · obtain ⟨v, o, z, d⟩ := I.cell y c e
    exact ⟨v, o, to c o (I.cne y c e) z, d⟩
  · obtain ⟨e, n, ne, nf, d⟩ := I.pin p hp
    exact ⟨to p.1 p.2 ne e, n, ne, nf, d⟩
  · refine (I.hok a o e).stay (fun b u hb z => to b u (fun q => ?_) z) (fun _ z => z) fun _ _ z => z
    rcases hb with rfl | hb
    · rw [q, I.free] at e; cases e
    · rw [q, I.free] at hb; cases hb
/-- except .. as n: the name goes -/
theorem nameGoes_ok {M : Model} {A : Around} {E : Value → Shared → Prop} {i : Nat} {n : Str} {pos : Pos} {Q : Unit → Shared → Prop} (I : Inv X pins σ H s) (hN : X.N.Nodup) (hi : X.N[i]? = some n) (hx : X.env.kindOf n = some .local)
    (h : ∀ s', Inv X pins (σ.set i none) H s' → Q () s') : wpAny M A (do bindName X.env n .none; unbindBehindTheSuite X.env n pos) Q E s := by
  obtain ⟨m, hn, hl⟩ := id I.loc
  refine wpAny_nameGoes_keeps hx hn (by rw [I.ok.kind]; rfl) fun g v hn' hs => h _ (I.nsTurn hs (by rw [List.length_set]) ⟨_, hn', fun j y u e1 e2 e3 => ?_⟩)
  have hj : j ≠ i := fun e => by
    subst e
    have hlt : j < σ.length := by rw [I.len]; exact (List.getElem?_eq_some_iff.mp e1).1
    rw [List.getElem?_set_self hlt] at e2
    cases e2
  rw [List.getElem?_set_ne hj.symm] at e2
  obtain ⟨w, r, l⟩ := hl j y u e1 e2 e3
  refine ⟨w, r, ?_⟩
  rcases l with ⟨k, z⟩ | ⟨k, c, e, o, z, d⟩
  · refine .inl ⟨k, ?_⟩
    have hy : y ≠ n := fun e => hj (nodup_ix hN e1 (e ▸ hi))
    show (if y = n then v else m y) = some w
    rw [if_neg hy]; exact z
  · exact .inr ⟨k, c, e, o, (hs.2 c (I.cne y c e)).trans z, d⟩
/-- an object that nobody spoke of is tracked -/
theorem _root_.L2.Inv.adopt {o : HO} (I : Inv X pins σ H s) (h0 : H ea = none) (h1 : X.s₀.heap.get? ea = none) (h2 : ea ≠ X.env.locals) (h3 : ∀ x c, X.env.cells.lookup x = some c → c ≠ ea) (h4 : ∀ p ∈ X.pn ++ pins, p.1 ≠ ea) (hn : ObjOk X.prog X.w (upd H ea o) s.heap ea o) :
    Inv X pins σ (upd H ea o) s := by
  have old : ∀ b u, H b = some u → upd H ea o b = some u := fun b u e => by rw [upd_ne (ne_of_none e h0)]; exact e
  have no : ∀ b, b ≠ ea → H b = none → upd H ea o b = none := fun b n e => by rw [upd_ne n]; exact e
  refine ⟨I.ok, I.os, I.bare, ⟨I.base.keep, I.base.slot, fun b u e n hx => no b (fun z => by rw [z, h1] at e; cases e) (I.base.free b u e n hx), I.base.there, fun b xs e => old b _ (I.base.tups b xs e), fun b u v e => old b _ (I.base.frzs b u v e), fun b ps e => ?_⟩, I.loc, I.cell, no _ (Ne.symm h2) I.free, fun x c e => no c (h3 x c e) (I.freeC x c e), fun p hp => ?_, fun b u e => ?_, I.len⟩
  · obtain ⟨more, z⟩ := I.base.tbls b ps e
    exact ⟨more, old b _ z⟩
  · obtain ⟨e, n, r⟩ := I.pin p hp
    exact ⟨e, no p.1 (h4 p hp) n, r⟩
  · by_cases hb : b = ea
    · subst hb
      rw [upd_same] at e; cases e
      exact hn
    · rw [upd_ne hb] at e
      exact (I.hok b u e).stay (fun _ _ _ z => z) (fun c z => old c _ z) fun c xs z => old c _ z
theorem exc_new {B : Heap} {a0 : Value} (I : Inv X pins σ H s) (F : Fl X pins H B) (f : Heap.FlyingW B X.stack ea cls a0 s.heap) : H ea = none ∧ X.s₀.heap.get? ea = none ∧ ea ≠ X.env.locals ∧ (∀ x c, X.env.cells.lookup x = some c → c ≠ ea) ∧ (∀ p ∈ X.pn ++ pins, p.1 ≠ ea) ∧ IsEx ea cls s.heap := by
  obtain ⟨f1, f2, f3, oe, vs, tb, ot, ts, he, hc, hd, _⟩ := id f
  have ns : ea ∉ frs X.stack := fun z => by
    obtain ⟨_, o, ho, nf⟩ := f3.mem z
    rw [he] at ho; cases ho
    exact nf vs hd
  refine ⟨?_, ?_, fun z => ?_, fun x c e z => ?_, fun p hp z => ?_, oe, he, hc.1⟩
  · cases e : H ea with
    | none => rfl
    | some u =>
      obtain ⟨o, q⟩ := obj_has (F.hok ea u e)
      rw [f2] at q; cases q
  · cases e : X.s₀.heap.get? ea with
    | none => rfl
    | some o =>
      obtain ⟨o', q⟩ := F.lnk ea o e ns
      rw [f2] at q; cases q
  · obtain ⟨m, ⟨o, es, ep, ho, hd', _⟩, _⟩ := I.loc
    rw [← z, he] at ho; cases ho
    rw [hd] at hd'; cases hd'
  · obtain ⟨v, o, ho, hd'⟩ := I.cell x c e
    rw [z, he] at ho; cases ho
    rw [hd] at hd'; cases hd'
  · obtain ⟨o', q⟩ := F.pin p hp
    rw [z, f2] at q; cases q
end
end Sh
namespace Sh
open PySem PySem.Spec PyProof.Rows L2
/-! ### try, except -/
abbrev TH := Value → Ends → L2.St → Hp → Prop
/-- the handlers take an exception that flies -/
def PH (X : Cx) (hs : List ExceptHandler) (t : TH) : Prop := ∀ (pins : List (Addr × Obj)) (s : Shared) (σ : L2.St) (H : Hp) (D : Ends) (ea : Addr) (cls a0 : Value) (B : Heap), Inv X pins σ H s → Fl X pins H B → Heap.FlyingW B X.stack ea cls a0 s.heap → t cls D σ H →
  wpAny (model X.prog X.w) X.A (handleBy (.ref ea) X.env hs) (SP X pins D) X.xe s
section
variable {X : Cx} {x n : Str} {c : Value} {np hpos : Pos} {b₀ : Stmt} {suite : List Stmt} {rest : List ExceptHandler} {ts : TS} {tr : TH}
theorem ph_nil : PH X [] fun _ _ _ _ => False := fun _ _ _ _ _ _ _ _ _ _ _ _ h => h.elim
/-- what is known of the exception: its class -/
def hAs (K : PySem.W.Frag) (c : Value) (i : Nat) (ts : TS) (tr : TH) : TH := fun cls D σ H => ∃ b, PySem.W.exmOne K cls c = some b ∧
  if b = true then ∀ ea, H ea = none → ts { D with nx := fun σ' H' => D.nx (σ'.set i none) H', bk := fun σ' H' => D.bk (σ'.set i none) H', ct := fun σ' H' => D.ct (σ'.set i none) H' } (σ.set i (some (.ref ea))) (upd H ea (.ext (IsEx ea cls))) else tr cls D σ H
/-- except C as n: suite -/
theorem ph_as {i : Nat} (hN : X.N.Nodup) (hi : X.N[i]? = some n) (hl : X.env.kindOf n = some .local) (hg : Gl X x) (hm : X.mg x = some c) (hS : ∀ ea, PSs (cxH X ea) (b₀ :: suite) ts) (hr : PH X rest tr) (hdb : (x == ("__debug__" : Str)) = false := by decide) :
    PH X (.ExceptHandler (some (.Name x np)) (some n) (b₀ :: suite) hpos :: rest) (hAs X.K c i ts tr) := by
  intro pins s σ H D ea cls a0 B I F f h
  obtain ⟨b, e, h⟩ := h
  have ex := (exc_new I F f).2.2.2.2.2
  refine wpAny_handleBy_cons (codeAny_handlers_test (ld_glob (I.toH (ea := ea)) hg hm ?_ hdb)) (by intro q; cases q)
  refine (PySem.W.exm_one I.kIn ex.ty e).here ?_
  cases b with
  | false => exact hr pins s σ H D ea cls a0 B I F f h
  | true =>
    refine codeAny_handlers_suite_as (lands_againW f fun h' f' up => ?_)
    have J := I.flown F f.1 f'.1 up
    obtain ⟨n0, n1, n2, n3, n4, ex'⟩ := exc_new J F f'
    have J1 : Inv X pins σ (upd H ea (.ext (IsEx ea cls))) { s with heap := h' } := J.adopt n0 n1 n2 n3 n4 ⟨ex', (let ⟨o, g, _⟩ := ex'; ⟨o, g⟩), fun h1 h2 ⟨o, g, k⟩ up => ⟨o, up o g, k⟩⟩
    refine store_ok (v := .ref ea) J1 hN hi (.inl hl) rfl (fun s2 J2 => ?_) (.inr hl)
    refine wpAny_mono (hS ea pins s2 _ _ _ J2.toH (h ea n0)) (fun fl s3 q => ?_) fun _ _ q => q.elim
    have fin : ∀ {σ' : L2.St} {H' : Hp} {Qf : Flow → Shared → Prop}, Inv (cxH X ea) pins σ' H' s3 → (∀ s4, Inv X pins (σ'.set i none) H' s4 → Qf fl s4) →
        wpAny (model X.prog X.w) X.A (do bindName X.env n .none; unbindBehindTheSuite X.env n hpos) (fun _ s4 => Qf fl s4) X.xe s3 := fun {σ' H' Qf} J3 k => nameGoes_ok (J3.ofH I.ok) hN hi hl fun s4 J4 => k s4 J4
    cases fl with
    | next => obtain ⟨σ', H', J3, q⟩ := q; exact fin J3 fun s4 J4 => ⟨_, H', J4, q⟩
    | brk => obtain ⟨σ', H', J3, q⟩ := q; exact fin J3 fun s4 J4 => ⟨_, H', J4, q⟩
    | cont => obtain ⟨σ', H', J3, q⟩ := q; exact fin J3 fun s4 J4 => ⟨_, H', J4, q⟩
    | ret u => obtain ⟨v, σ', H', J3, r, q⟩ := q; exact fin J3 fun s4 J4 => ⟨v, _, H', J4, r, q⟩
end
/-- the body's context: what is pinned around stays pinned -/
abbrev cxP (X : Cx) (pins : List (Addr × Obj)) : Cx := { X with pn := X.pn ++ pins }
section
variable {X : Cx} {pins : List (Addr × Obj)} {σ : L2.St} {H : Hp} {s : Shared}
theorem okP (o : X.Ok) : (cxP X pins).Ok := ⟨o.mod, o.kind, o.glob, o.blt, o.above, o.inj, o.has, o.cab, o.hd, o.frames, o.stk, o.exf, o.bs, o.bsz, o.noex, o.exfs, o.funs, o.frf⟩
theorem _root_.L2.Inv.toP (I : Inv X pins σ H s) : Inv (cxP X pins) [] σ H s := ⟨okP I.ok, I.os, I.bare, I.base, I.loc, I.cell, I.free, I.freeC, fun p hp => I.pin p (by simpa using hp), I.hok, I.len⟩
theorem _root_.L2.Inv.ofP (J : Inv (cxP X pins) [] σ H s) (o : X.Ok) : Inv X pins σ H s := ⟨o, J.os, J.bare, J.base, J.loc, J.cell, J.free, J.freeC, fun p hp => J.pin p (by simpa using hp), J.hok, J.len⟩
end
def tTry (tb : (Value → L2.St → Hp → Prop) → TS) (th : TH) : TS := fun D σ H => tb (fun cls σ' H' => th cls D σ' H') D σ H
theorem ps_try {X : Cx} {body : List Stmt} {h₀ : ExceptHandler} {hs : List ExceptHandler} {pos : Pos} {tb : (Value → L2.St → Hp → Prop) → TS} {th : TH} (T : Top1 X) (hex : X.ex = [])
    (hb : ∀ (pins : List (Addr × Obj)) (R : Value → L2.St → Hp → Prop), PSs ((cxP X pins).wish (XS (cxP X pins) R)) body (tb R)) (hh : PH X (h₀ :: hs) th) : PS X (.Try body (h₀ :: hs) [] [] pos) (tTry tb th) := by
  intro pins s σ H D I h
  have back : ∀ {σ' : L2.St} {H' : Hp} {s' : Shared} {E : Value → Shared → Prop}, Inv ((cxP X pins).wish E) [] σ' H' s' → Inv X pins σ' H' s' := fun J => (J.unwish).ofP I.ok
  refine wpAny_Try_except (wpAny_mono (hb pins (fun cls σ' H' => th cls D σ' H') [] s σ H D ((I.toP).wish _) h) (fun f s1 q => ?_) fun e s1 q => ?_)
  · cases f with
    | next =>
      obtain ⟨σ', H', J, q⟩ := q
      exact wpAny_execs_nil ⟨σ', H', back J, q⟩
    | brk => obtain ⟨σ', H', J, q⟩ := q; exact ⟨σ', H', back J, q⟩
    | cont => obtain ⟨σ', H', J, q⟩ := q; exact ⟨σ', H', back J, q⟩
    | ret u => obtain ⟨v, σ', H', J, r, q⟩ := q; exact ⟨v, σ', H', back J, r, q⟩
  · refine XS.note (X := cxP X pins) ⟨T.stk, T.frm⟩ q fun g ea cls a0 σ' H' B e1 J F hh' r => ?_
    subst e1
    refine wpAny_landsW hh' fun g2 f up => ?_
    have F' : Fl X pins H' B := ⟨F.hok, F.lnk, fun p hp => F.pin p (by simpa using hp)⟩
    have J' : Inv X pins σ' H' { s1 with heap := g2 } := (J.flown F hh'.1 f.1 up).ofP I.ok
    exact hh pins _ σ' H' D ea cls a0 B J' F' f r
/-! ### isinstance(e, C) -/
def clsV : V → Option Value
  | .ty T => some (.type T)
  | .ref C => some (.ref C)
  | _ => none
theorem call_isinstX {X : Cx} {K : PySem.W.Frag} (hK : X.K = K) : CallR X (.builtin "isinstance") (fun xs H Q => ∃ ea C cv c b, xs = [.ref ea, cv] ∧ H ea = some (.ext (IsEx ea (.ref C))) ∧ clsV cv = some c ∧ ExK K C ∧ PySem.W.kitOne K (.ref C) c = some b ∧ Q (.bl b) H) := by
  subst hK
  intro pins s σ H xs us Q I r h
  obtain ⟨ea, C, cv, c, b, rfl, he, hc, k, e, q⟩ := h
  obtain ⟨u, v, rfl, rx, rc⟩ := vals2 r
  cases (show u = Value.ref ea from rx)
  have ex : IsEx ea (.ref C) s.heap := (show ObjOk X.prog X.w H s.heap ea (.ext _) from I.hok ea _ he).1
  have ev : v = c := by
    cases cv <;> first | cases hc | skip
    all_goals exact rc
  subst ev
  exact PySem.W.kia_one (kitx_ex k) I.kIn ex e (fun z => nomatch z) fun tk => ⟨.bl b, H, I.tok tk, rfl, q⟩
/-- the name of an own class -/
theorem pe_cls {X : Cx} {x : Str} {C : Addr} {p : Pos} (hg : Gl X x) (hm : X.mg x = some (.ref C)) (hdb : (x == ("__debug__" : Str)) = false := by decide) : PE X (.Name x p) (tC (.ref C)) := pe_glob (v := .ref C) hg hm rfl hdb
end Sh

end
section
set_option Elab.async false
set_option linter.all false
set_option maxRecDepth 100000
set_option maxHeartbeats 4000000
namespace Sh
open PySem PySem.Spec PyProof.Rows L2
/-! ### the program's own error classes -/
abbrev veMro : List Value := [.type "ValueError", .type "Exception", .type "BaseException", .type "object"]
structure ECls (K : PySem.W.Frag) (mg : Str → Option Value) (base : Heap) (x : Str) (C : Addr) : Prop where
  own : OwnCls x C veMro "ValueError.__new__" mg base
  exk : ExK K C
theorem ECls.exc {K : PySem.W.Frag} {mg : Str → Option Value} {base : Heap} {x : Str} {C : Addr} (E : ECls K mg base x C) : Exc K mg base x C := ⟨E.own⟩
theorem ECls.bound {K : PySem.W.Frag} {mg : Str → Option Value} {base : Heap} {x : Str} {C : Addr} (E : ECls K mg base x C) : mg x = some (.ref C) := E.own.bound
theorem boot_ValueError : bootBuiltins "ValueError" = some (.type "ValueError") := by decide +kernel
theorem pe_ty_ValueError {X : Cx} {p : Pos} (h : X.mg "ValueError" = none) (hg : Gl X "ValueError") : PE X (.Name "ValueError" p) (tC (.ty "ValueError")) := pe_bltn hg h boot_ValueError rfl
/-! ### words that come back -/
end Sh

end
section
set_option Elab.async false
set_option linter.all false
set_option maxRecDepth 100000
set_option maxHeartbeats 4000000
namespace Sh
open PySem PySem.Spec PyProof.Rows L2
/-! ### methods that may raise, called within X.wish (XS X R) -/
section
variable {X : Cx} {R : Value → L2.St → Hp → Prop} {pins : List (Addr × Obj)} {σ : L2.St} {H : Hp} {s : Shared} {k : Nat} {f C : Addr} {fd : FuncData} {ps : List Str} {sp : Sp} {ds : List Value} {dvs : List V} {m : Str} {pos apos : Pos} {e o : Expr} {es : List Expr} {ta : TE} {t : TA}
/-- the callee runs; what it raises reaches X -/
theorem run_fnX {Q : VK} {us : List Value} {vs : List V} (F : FnOk X.prog X.w X.K X.mg X.base (CX1 X.prog X.w) k f fd ps sp) (hex : X.ex = []) (hr : Room k X.A) (hb : Binds X.K fd ps ds) (hd : Vals dvs ds) (I : Inv (X.wish (XS X R)) pins σ H s) (r : Vals vs us)
    (h : sp (vs ++ dvs) H Q fun cls _ H' => R cls σ H') : wpAny (model X.prog X.w) X.A (call (.ref f) us) (EP (X.wish (XS X R)) pins σ Q) (XS X R) s := by
  have r2 : Vals (vs ++ dvs) (us ++ ds) := r.append hd
  have hl : (us ++ ds).length = ps.length := by
    rw [← r2.length]
    exact F.len _ _ _ _ h
  refine wpAny_call (codeAny_mono (F.run X.A X.stack s H ⟨us, []⟩ (us ++ ds) (vs ++ dvs) Q _ hr I.unwish.env0 (hb s us I.kIn hl) r2 h) fun rs s' z => ?_)
  cases rs with
  | error x => exact XS.of_call I.unwish hex z
  | ok fl =>
    cases fl with
    | ret u =>
      obtain ⟨v, H2, J, rv, q⟩ := I.unwish.after z
      exact ⟨v, H2, J.wish _, rv, q⟩
    | next => exact z.elim
    | brk => exact z.elim
    | cont => exact z.elim
def tMethX (C : Addr) (m : Str) (sp : Sp) (dvs : List V) (R : Value → L2.St → Hp → Prop) (ta : TE) (t : TA) : TE := fun σ H Q => ta σ H fun x H1 => ∃ a dx fs, x = .ref a ∧ H1 a = some (.ins C dx fs) ∧ fs.lookup m = none ∧
  t σ H1 fun vs H2 => sp (x :: (vs ++ dvs)) H2 Q fun cls _ H' => R cls σ H'
theorem pe_methX {pl : Sem Bool} (he : PE (X.wish (XS X R)) o ta) (c : Cls X.K C) (hm : Meth X.K C m f) (F : FnOk X.prog X.w X.K X.mg X.base (CX1 X.prog X.w) k f fd ps sp) (hex : X.ex = []) (hr : Room k X.A) (hb : Binds X.K fd ps ds) (hd : Vals dvs ds) (ha : PA (X.wish (XS X R)) (e :: es) t)
    (hst : starEach (e :: es) X.env = (false, eval e X.env) :: starEach es X.env := by rfl) (hpl : (backTo pos (starEach es X.env)).any (·.1) = false := by rfl)
    (ht : eval (.Call (.Attribute o m apos) (e :: es) [] pos) X.env = (do
      let ov ← eval o X.env
      standAt apos.atName
      let (f, first) ← holding [ov] (getMethod ov m pl)
      callWith pos f first (backTo pos (starEach (e :: es) X.env)) (backToKw pos (keywordEach [] X.env))) := by rfl) :
    PE (X.wish (XS X R)) (.Call (.Attribute o m apos) (e :: es) [] pos) (tMethX C m sp dvs R ta t) := by
  intro pins s σ H Q I h
  refine PySem.W.methodCall_KW (pl := pl) (thn (he pins s σ H _ I h) fun u s1 z => ?_) ht
  obtain ⟨x, H1, I1, rx, a, dx, fs, ex, ea, l, q⟩ := z
  subst ex
  obtain rfl : u = Value.ref a := rx
  refine getmeth_ok I1 ea c hm l ?_
  refine PySem.W.callWith_K (first := [.ref a]) (h₀ := X.base) I.ok.mod.kin hm.kp (thn (ha pos pins s1 σ H1 _ I1 q) fun us s2 ⟨vs, H2, I2, r, q2⟩ => ⟨I2.kIn, ?_⟩) hst hpl
  exact run_fnX (us := .ref a :: us) (vs := .ref a :: vs) F hex hr hb hd I2 (.cons rfl r) q2
theorem pe_meth0X {pl : Sem Bool} (he : PE (X.wish (XS X R)) o ta) (c : Cls X.K C) (hm : Meth X.K C m f) (F : FnOk X.prog X.w X.K X.mg X.base (CX1 X.prog X.w) k f fd ps sp) (hex : X.ex = []) (hr : Room k X.A) (hb : Binds X.K fd ps ds) (hd : Vals dvs ds)
    (ht : eval (.Call (.Attribute o m apos) [] [] pos) X.env = (do
      let ov ← eval o X.env
      standAt apos.atName
      let (f, first) ← holding [ov] (getMethod ov m pl)
      callWith pos f first (backTo pos (starEach [] X.env)) (backToKw pos (keywordEach [] X.env))) := by rfl) :
    PE (X.wish (XS X R)) (.Call (.Attribute o m apos) [] [] pos) (tMethX C m sp dvs R ta tNil) := by
  intro pins s σ H Q I h
  refine PySem.W.methodCall_KW (pl := pl) (thn (he pins s σ H _ I h) fun u s1 z => ?_) ht
  obtain ⟨x, H1, I1, rx, a, dx, fs, ex, ea, l, q⟩ := z
  subst ex
  obtain rfl : u = Value.ref a := rx
  refine getmeth_ok I1 ea c hm l ?_
  exact PySem.W.callWith_K0 (first := [.ref a]) I1.kIn hm.kp (run_fnX (us := [.ref a]) (vs := [.ref a]) F hex hr hb hd I1 (.cons rfl .nil) q)
end
end Sh

end
section
set_option Elab.async false
set_option linter.all false
set_option maxRecDepth 100000
set_option maxHeartbeats 4000000
namespace Sh
open PySem PySem.Spec PyProof.Rows L2
/-! ### data that are equal: ints, texts, tuples within tuples -/
mutual
def deq : Dt → Dt → Bool
  | .int a, .int b => a == b
  | .str a, .str b => a == b
  | .tup xs, .tup ys => deqL xs ys
  | _, _ => false
def deqL : List Dt → List Dt → Bool
  | [], [] => true
  | x :: xs, y :: ys => deq x y && deqL xs ys
  | _, _ => false
end
end Sh
namespace Sh
open PySem PySem.Spec PyProof.Rows L2
section
variable {X : Cx} {pins : List (Addr × Obj)} {σ : L2.St} {H : Hp} {s : Shared}
end
end Sh
namespace Sh
open PySem PySem.Spec PyProof.Rows L2
/-! ### x in a list or a tuple of data -/
section
variable {X : Cx} {n : Nat}
end
end Sh

end
section
set_option Elab.async false
set_option linter.all false
set_option maxRecDepth 100000
set_option maxHeartbeats 4000000
namespace Sh
open PySem PySem.Spec PyProof.Rows L2
/-! ### dicts whose keys are data: tuples within tuples -/
/-! data as the heap has them -/
/-! the hash -/
section
variable {prog : Program} {w : World} {E : Value → Shared → Prop}
end
end Sh
namespace Sh
open PySem PySem.Spec PyProof.Rows L2
section
variable {prog : Program} {w : World} {E : Value → Shared → Prop}
end
end Sh

end
section
set_option Elab.async false
set_option linter.all false
set_option maxRecDepth 100000
set_option maxHeartbeats 4000000
namespace Sh
open PySem PySem.Spec PyProof.Rows L2
/-! ### dicts whose keys are data: {}, d.get(k, x), d[k] = x -/
/-- the data, the address that the key has, the value -/
abbrev DKv := List (Dt × Addr × V)
end Sh
namespace Sh
open PySem PySem.Spec PyProof.Rows L2
section
variable {X : Cx} {pins : List (Addr × Obj)} {σ : L2.St} {H : Hp} {s : Shared} {A : Around} {E : Value → Shared → Prop}
end
section
variable {X : Cx} {o e : Expr} {es : List Expr} {to : TE} {t : TA} {apos cpos : Pos} {w : World}
end
end Sh

end
section
set_option Elab.async false
set_option linter.all false
set_option maxRecDepth 100000
set_option maxHeartbeats 4000000
namespace Sh
open PySem PySem.Spec PyProof.Rows L2
/-! ### f"..{e}..", e an int or a text -/
abbrev TJ := Str → L2.St → Hp → VK → Prop
/-- the parts, joined behind what there is -/
def PJ (X : Cx) (es : List Expr) (t : TJ) : Prop := ∀ (pins : List (Addr × Obj)) (s : Shared) (σ : L2.St) (H : Hp) (out : Str) (Q : VK), Inv X pins σ H s → t out σ H Q →
  wpAny (model X.prog X.w) X.A (joinParts out (evalEach es X.env)) (EP X pins σ Q) X.xe s
section
variable {X : Cx} {e e' : Expr} {es : List Expr} {te : TE} {t : TJ} {pos : Pos}
def jNil : TJ := fun out σ H Q => out.length ≤ sizeLine ∧ Q (.str out) H
def jCons (te : TE) (t : TJ) : TJ := fun out σ H Q => te σ H fun v H1 => ∃ y : Str, v = .str y ∧ (out ++ y).length ≤ sizeLine ∧ t (out ++ y) σ H1 Q
theorem pj_nil : PJ X [] jNil := fun pins s σ H out Q I h => joinParts_nil ⟨.str out, H, I.tok _, ⟨_, rfl⟩, h.2⟩ h.1
theorem pj_cons (he : PE X e te) (hs : PJ X es t) (hv : evalEach (e :: es) X.env = eval e X.env :: evalEach es X.env := by rfl) : PJ X (e :: es) (jCons te t) := by
  intro pins s σ H out Q I h
  rw [hv]
  refine joinParts_cons (thn (he pins s σ H _ I h) fun v s1 ⟨x, H1, I1, rx, y, ex, hl, q⟩ => ?_)
  subst ex
  obtain ⟨tk, rfl⟩ := rx
  exact ⟨hl, hs pins s1 σ H1 _ Q I1 q⟩
def tJoin (t : TJ) : TE := fun σ H Q => t Str.empty σ H Q
theorem pe_join (h : PJ X (e :: e' :: es) t) (hv : evalEach (e :: e' :: es) X.env = eval e X.env :: eval e' X.env :: evalEach es X.env := by rfl) : PE X (.JoinedStr (e :: e' :: es) pos) (tJoin t) := by
  intro pins s σ H Q I q
  refine JoinedStr_many ?_
  rw [← hv]
  exact h pins s σ H _ Q I q
/-- {e} -/
def tFmt (te : TE) : TE := fun σ H Q => te σ H fun v H1 => (∃ x : Str, v = .str x ∧ x.length ≤ sizeLine ∧ Q (.str x) H1) ∨ ∃ i : Int, v = .int i ∧ i.natAbs.log2 < 1920 ∧ Q (.str (toString i)) H1
theorem pe_fmt (he : PE X e te) : PE X (.FormattedValue e (-1) none pos) (tFmt te) := by
  intro pins s σ H Q I h
  refine FormattedValue_plain (thn (he pins s σ H _ I h) fun v s1 ⟨x, H1, I1, rx, q⟩ => ?_)
  rcases q with ⟨y, rfl, hl, q⟩ | ⟨i, rfl, hl, q⟩
  · obtain ⟨tk, rfl⟩ := rx
    exact formatField_str (fun t' tk' => ⟨.str y, H1, I1.tok _, ⟨_, rfl⟩, q⟩) hl
  · obtain ⟨tk, rfl⟩ := rx
    exact formatField_int_small hl ⟨.str _, H1, I1.tok _, ⟨_, rfl⟩, q⟩
end
/-! ### == of two lists of data -/
end Sh

end
section
set_option Elab.async false
set_option linter.all false
set_option maxRecDepth 100000
set_option maxHeartbeats 4000000
namespace Sh
open PySem PySem.Spec PyProof.Rows L2
/-! ### defs that are called within an except suite -/
section
variable {P : Program} {w : World} {K : PySem.W.Frag} {mg : Str → Option Value} {base : Heap} {x : Str} {st : Stmt} {N ps : List Str} {k : Nat} {sp : Sp}
end
section
variable {X : Cx} {k : Nat} {x : Str} {ps : List Str} {sp : Sp} {p pos : Pos} {e : Expr} {es : List Expr} {t : TA}
end
end Sh

end
section
set_option Elab.async false
set_option linter.all false
set_option maxRecDepth 100000
set_option maxHeartbeats 4000000
namespace Sh
open PySem PySem.Spec PyProof.Rows L2
/-! ### the methods of an own class, and their promises, by their names -/
/-- the j-th def of a class's body -/
def mtd (st : Stmt) (j : Nat) : Stmt := match st with
  | .ClassDef _ _ _ b _ _ _ _ _ _ _ => b.getD j (.Pass ⟨0, 0, 0, 0⟩)
  | _ => .Pass ⟨0, 0, 0, 0⟩
/-- the method m of the class at C; dvs: the values of the last parameters, where they are left out -/
def MDef (K : PySem.W.Frag) (C : Addr) (m qual : Str) (st : Stmt) (ps : List Str) (dvs : List V) : Prop :=
  ∃ (f : Addr) (oc : Value) (od : Option Addr) (dV kV doc pm : Value) (an : Option Addr) (cdv ct : Value) (osl : Array (Option Value)) (ds : List Value),
    K.lookup f = some ⟨oc, od, .func (PySem.W.fnOf m qual (defArgs st) (defBody st) (defScope st) dV kV doc pm an cdv ct), osl⟩ ∧ PySem.W.codeIn K cdv qual = true ∧
    Binds K (PySem.W.fnOf m qual (defArgs st) (defBody st) (defScope st) dV kV doc pm an cdv ct) ps [] ∧ Binds K (PySem.W.fnOf m qual (defArgs st) (defBody st) (defScope st) dV kV doc pm an cdv ct) ps ds ∧ Vals dvs ds ∧ Meth K C m f
def MOk (CX : CXT) (P : Program) (w : World) (K : PySem.W.Frag) (mg : Str → Option Value) (base : Heap) (C : Addr) (m : Str) (ps : List Str) (k : Nat) (sp : Sp) (dvs : List V) : Prop :=
  ∃ f fd ds, FnOk P w K mg base CX k f fd ps sp ∧ Binds K fd ps [] ∧ Binds K fd ps ds ∧ Vals dvs ds ∧ Meth K C m f
section
variable {P : Program} {w : World} {K : PySem.W.Frag} {mg : Str → Option Value} {base : Heap} {C : Addr} {m qual : Str} {st : Stmt} {N ps : List Str} {k : Nat} {sp : Sp} {dvs : List V}
theorem MDef.ok (D : MDef K C m qual st ps dvs) (S : FnScope N ps (defScope st)) (len : ∀ vs H Q E, sp vs H Q E → vs.length = ps.length)
    (hbody : ∀ (f : Addr) (cdv : Value) (A : Around) (outer : List Env) (s : Shared) (H : Hp) (vs : List V) (Q : VK) (E : XK), Room k (A.deeper (envOfC qual (defScope st) s.heap.objs.size f cdv)) → sp vs H Q E →
      ∃ t, PSs (cxOf CX0 P w K mg base N qual (defScope st) f cdv A outer s H E).nox (defBody st) t ∧ t { nx := fun _ H' => Q .non H', rt := Q } (start N vs) H) : MOk CX0 P w K mg base C m ps (k + 1) sp dvs := by
  obtain ⟨f, oc, od, dV, kV, doc, pm, an, cdv, ct, osl, ds, lk, hcd, b, b', hd, hm⟩ := D
  refine ⟨f, _, ds, fn_of lk hcd S len fun A outer s H vs Q E hr hsp => ?_, b, b', hd, hm⟩
  obtain ⟨t, h, q⟩ := hbody f cdv A outer s H vs Q E hr hsp
  exact ⟨t, h.nox, q⟩
theorem MDef.okX (D : MDef K C m qual st ps dvs) (S : FnScope N ps (defScope st)) (len : ∀ vs H Q E, sp vs H Q E → vs.length = ps.length)
    (hbody : ∀ (f : Addr) (cdv : Value) (A : Around) (outer : List Env) (s : Shared) (H : Hp) (vs : List V) (Q : VK) (E : XK), Room k (A.deeper (envOfC qual (defScope st) s.heap.objs.size f cdv)) → sp vs H Q E →
      ∃ t, PSs (cxX P w K mg base N qual (defScope st) f cdv A outer s H E) (defBody st) t ∧ t { nx := fun _ H' => Q .non H', rt := Q } (start N vs) H) : MOk (CX1 P w) P w K mg base C m ps (k + 1) sp dvs := by
  obtain ⟨f, oc, od, dV, kV, doc, pm, an, cdv, ct, osl, ds, lk, hcd, b, b', hd, hm⟩ := D
  refine ⟨f, _, ds, fn_of lk hcd S len fun A outer s H vs Q E hr hsp => ?_, b, b', hd, hm⟩
  obtain ⟨t, h, q⟩ := hbody f cdv A outer s H vs Q E hr hsp
  exact ⟨t, fun pins s1 σ H1 D1 I hq => wpAny_mono (h pins s1 σ H1 D1 (I.wish _) hq) (fun fl s2 z => z.unwish) fun e s2 z => XS.leave top_cxOf rfl z, q⟩
theorem MDef.void {CX : CXT} (D : MDef K C m qual st ps dvs) (no : ∀ vs H Q E, ¬ sp vs H Q E) : MOk CX P w K mg base C m ps k sp dvs := by
  obtain ⟨f, oc, od, dV, kV, doc, pm, an, cdv, ct, osl, ds, lk, hcd, b, b', hd, hm⟩ := D
  exact ⟨f, _, ds, ⟨fun vs H Q E h => absurd h (no vs H Q E), fun A outer s H args us vs Q E _ _ _ _ h => absurd h (no vs H Q E)⟩, b, b', hd, hm⟩
theorem MOk.mono {CX : CXT} {j : Nat} (G : MOk CX P w K mg base C m ps k sp dvs) (h : k ≤ j) : MOk CX P w K mg base C m ps j sp dvs := by
  obtain ⟨f, fd, ds, F, r⟩ := G
  exact ⟨f, fd, ds, F.mono h, r⟩
end
section
variable {X : Cx} {C : Addr} {m x : Str} {ps : List Str} {k j : Nat} {sp : Sp} {dvs : List V} {p pos apos : Pos} {e o : Expr} {es : List Expr} {ta : TE} {t : TA}
/-- o.m(e, ..), nothing left out -/
theorem pe_mok {pl : Sem Bool} (G : MOk CX0 X.prog X.w X.K X.mg X.base C m ps k sp dvs) (c : Cls X.K C) (hr : Room j X.A) (hk : k ≤ j) (he : PE X o ta) (ha : PA X (e :: es) t)
    (hst : starEach (e :: es) X.env = (false, eval e X.env) :: starEach es X.env := by rfl) (hpl : (backTo pos (starEach es X.env)).any (·.1) = false := by rfl)
    (ht : eval (.Call (.Attribute o m apos) (e :: es) [] pos) X.env = (do
      let ov ← eval o X.env
      standAt apos.atName
      let (f, first) ← holding [ov] (getMethod ov m pl)
      callWith pos f first (backTo pos (starEach (e :: es) X.env)) (backToKw pos (keywordEach [] X.env))) := by rfl) : PE X (.Call (.Attribute o m apos) (e :: es) [] pos) (tMeth C m sp [] E0 ta t) := by
  obtain ⟨f, fd, ds, F, b, b', hd, hm⟩ := G
  exact pe_meth he c hm F (hr.mono hk) b .nil pass0 ha hst hpl ht
variable {R : Value → L2.St → Hp → Prop}
/-- o.m(e, ..), the method may raise -/
theorem pe_mokX {pl : Sem Bool} (G : MOk (CX1 X.prog X.w) X.prog X.w X.K X.mg X.base C m ps k sp dvs) (c : Cls X.K C) (hex : X.ex = []) (hr : Room j X.A) (hk : k ≤ j) (he : PE (X.wish (XS X R)) o ta) (ha : PA (X.wish (XS X R)) (e :: es) t)
    (hst : starEach (e :: es) X.env = (false, eval e X.env) :: starEach es X.env := by rfl) (hpl : (backTo pos (starEach es X.env)).any (·.1) = false := by rfl)
    (ht : eval (.Call (.Attribute o m apos) (e :: es) [] pos) X.env = (do
      let ov ← eval o X.env
      standAt apos.atName
      let (f, first) ← holding [ov] (getMethod ov m pl)
      callWith pos f first (backTo pos (starEach (e :: es) X.env)) (backToKw pos (keywordEach [] X.env))) := by rfl) : PE (X.wish (XS X R)) (.Call (.Attribute o m apos) (e :: es) [] pos) (tMethX C m sp [] R ta t) := by
  obtain ⟨f, fd, ds, F, b, b', hd, hm⟩ := G
  exact pe_methX he c hm F hex (hr.mono hk) b .nil ha hst hpl ht
/-- C(e, ..) -/
def MMk (P : Program) (w : World) (K : PySem.W.Frag) (mg : Str → Option Value) (base : Heap) (x : Str) (C : Addr) (ps : List Str) (k : Nat) (sp : Sp) : Prop :=
  ∃ f fd, FnOk P w K mg base CX0 k f fd ps sp ∧ Binds K fd ps [] ∧ Mk K C f ∧ mg x = some (.ref C)
theorem pe_mmk (G : MMk X.prog X.w X.K X.mg X.base x C ps k sp) (hr : Room j X.A) (hk : k < j) (hg : Gl X x) (ha : PA X (e :: es) t) (hdb : (x == ("__debug__" : Str)) = false := by decide)
    (he : starEach (e :: es) X.env = (false, eval e X.env) :: starEach es X.env := by rfl) (hpl : (backTo pos (starEach es X.env)).any (·.1) = false := by rfl) : PE X (.Call (.Name x p) (e :: es) [] pos) (tMake C sp [] E0 t) := by
  obtain ⟨f, fd, F, b, M, hm⟩ := G
  exact pe_make M F (hr.mono hk) hg hm b .nil pass0 ha hdb he hpl
end
end Sh

end
section
set_option Elab.async false
set_option linter.all false
set_option maxRecDepth 100000
set_option maxHeartbeats 4000000
namespace Sh
open PySem PySem.Spec PyProof.Rows L2
/-- an own class: its facts, and that no class of it has the names of its attributes -/
structure TC (K : PySem.W.Frag) (C : Addr) (fs : List Str) : Prop where
  cl : Cls K C
  na : ∀ f ∈ fs, NoAttr K C f
section
variable {P : Program} {w : World} {K : PySem.W.Frag} {mg : Str → Option Value} {base : Heap} {C : Addr} {m : Str} {ps : List Str} {k : Nat} {sp : Sp} {dvs : List V}
/-- a method that may raise, where it does not -/
theorem MOk.calm (G : MOk (CX1 P w) P w K mg base C m ps k sp dvs) : MOk CX0 P w K mg base C m ps k (fun vs H Q _ => sp vs H Q E0) dvs := by
  obtain ⟨f, fd, ds, F, r⟩ := G
  refine ⟨f, fd, ds, ⟨fun vs H Q E h => F.len vs H Q _ h, fun A outer s H args us vs Q E hr e0 hb rv hs => codeAny_mono (F.run A outer s H args us vs Q _ hr e0 hb rv hs) fun rs s' z => ?_⟩, r⟩
  match rs, z with
  | .ok (.ret _), z => exact z
  | .error e, z =>
    obtain ⟨_, _, _, _, _, _, _, _, _, _, _, _, no⟩ := z
    exact no
end
section
variable {X : Cx} {C : Addr} {m x : Str} {ps : List Str} {k j : Nat} {sp : Sp} {dvs : List V} {p pos apos : Pos} {e o : Expr} {es : List Expr} {ta : TE} {t : TA}
end
end Sh

end
section
set_option Elab.async false
set_option linter.all false
set_option maxRecDepth 100000
set_option maxHeartbeats 4000000
namespace Sh
open PySem PySem.Spec PyProof.Rows L2
/-! ### worlds that are told: what a term means, whether a form holds -/
section
variable [Inn]
end
end Sh

end
section
set_option Elab.async false
set_option linter.all false
set_option maxRecDepth 100000
set_option maxHeartbeats 4000000
namespace Sh
open PySem PySem.Spec PyProof.Rows L2
/-! ### what the methods of a told world promise -/
section
variable [Inn]
end
section
variable [Inn]
end
section
variable [Inn]
end
end Sh

end
section
set_option Elab.async false
set_option linter.all false
set_option maxRecDepth 100000
set_option maxHeartbeats 4000000
namespace Sh
open PySem PySem.Spec PyProof.Rows L2
/-! ### words whose numbers are changed stay terms and forms -/
section
variable {f : Int → Int} (hf : ∀ k, 0 ≤ k → 0 ≤ f k)
end
end Sh
namespace Sh
open PySem PySem.Spec PyProof.Rows L2
section
variable [Inn]
theorem made {H H' : Hp} {C x dx : Addr} (nx : H x = none) (ndx : H dx = none) (k : ∀ b, b ≠ x → ∀ o, upd (upd H dx (.own x)) x (.ins C dx []) b = some o → H' b = some o) : Same H H' := same_of fun b o e =>
  k b (ne_of_none e nx) o (by rw [upd_ne (ne_of_none e nx), upd_ne (ne_of_none e ndx)]; exact e)
end
end Sh
namespace Sh
open PySem PySem.Spec PyProof.Rows L2
section
variable [Inn]
end
end Sh

end
section
set_option Elab.async false
set_option linter.all false
set_option maxRecDepth 100000
set_option maxHeartbeats 4000000
namespace Sh
open PySem PySem.Spec PyProof.Rows L2
/-! ### zip of two lists, in a for with two names -/
end Sh

end
section
set_option Elab.async false
set_option linter.all false
set_option maxRecDepth 100000
set_option maxHeartbeats 4000000
namespace Sh
open PySem
section
variable {P : Program} {w : World} {A : Around} {E : Value → Shared → Prop} {s : Shared}
end
end Sh
namespace Sh
open PySem
section
variable {P : Program} {w : World} {A : Around} {E : Value → Shared → Prop} {h : Heap} {g : Array GenState} {d : Drawn} {t : Nat} {os : OsState} {z : Addr} {vs : Array Value}
end
end Sh
namespace Sh
open PySem
section
variable {P : Program} {w : World} {A : Around} {E : Value → Shared → Prop} {s : Shared}
variable {z ti to i1 i2 l1 l2 T : Addr} {k : Nat} {b : Bool} {xs ys : Array Value} {x y : Value} {oT : Obj}
end
end Sh
namespace Sh
open PySem
section
variable {P : Program} {w : World} {A : Around} {R : Result → Shared → Prop} {s : Shared} {K : Type} [DecidableEq K] {knd : HeapKind P w K}
end
end Sh
namespace Sh
open PySem
section
variable {P : Program} {w : World} {A : Around} {E : Value → Shared → Prop} {s : Shared} {K : Type} [DecidableEq K] {knd : HeapKind P w K}
end
end Sh
namespace Sh
open PySem
section
variable {P : Program} {w : World} {A : Around} {E : Value → Shared → Prop} {s : Shared} {K : Type} [DecidableEq K] {knd : HeapKind P w K}
end
end Sh

end
section
set_option Elab.async false
set_option linter.all false
set_option maxRecDepth 100000
set_option maxHeartbeats 4000000
namespace Sh
open PySem PySem.Spec PyProof.Rows L2
/-! ### a dict of data, its keys in their order -/
section
variable {X : Cx} {pins : List (Addr × Obj)} {σ : L2.St} {H : Hp} {s : Shared} {w : World} {a : Addr} {kvs : DKv}
end
end Sh
namespace Sh
open PySem PySem.Spec PyProof.Rows L2
end Sh
namespace Sh
open PySem PySem.Spec PyProof.Rows L2
/-! ### xs.index(x); == of two lists of bools -/
end Sh

end
section
set_option Elab.async false
set_option linter.all false
set_option maxRecDepth 100000
set_option maxHeartbeats 4000000
namespace Sh
open PySem PySem.Spec PyProof.Rows L2
/-! ### forms as valuations see them -/
inductive Fm where
  | no
  | atom (d : Dt)
  | cond (a b : Fm)
def met : Fm → List Dt → List Dt
  | .no, m => m
  | .atom d, m => if (m.any fun e => deq e d) then m else m ++ [d]
  | .cond x y, m => met y (met x m)
def ev (g : Dt → Bool) : Fm → Bool
  | .no => false
  | .atom d => g d
  | .cond x y => !ev g x || ev g y
variable [Inn]
/-! ### promises -/
end Sh
namespace Sh
open PySem PySem.Spec PyProof.Rows L2
section
variable {P : Program} {w : World} {K : PySem.W.Frag} {mg : Str → Option Value} {base : Heap} {x : Str} {ps : List Str} {k : Nat} {sp : Sp}
/-- a def that may raise, where it does not -/
theorem OkX.calm (G : OkX P w K mg base x ps k sp) : Ok P w K mg base x ps k (fun vs H Q _ => sp vs H Q E0) := by
  obtain ⟨f, fd, F, r⟩ := G
  refine ⟨f, fd, ⟨fun vs H Q E h => F.len vs H Q _ h, fun A outer s H args us vs Q E hr e0 hb rv hs => codeAny_mono (F.run A outer s H args us vs Q _ hr e0 hb rv hs) fun rs s' z => ?_⟩, r⟩
  match rs, z with
  | .ok (.ret _), z => exact z
  | .error e, z =>
    obtain ⟨_, _, _, _, _, _, _, _, _, _, _, _, no⟩ := z
    exact no
end
end Sh
namespace Sh
open PySem PySem.Spec PyProof.Rows L2
variable [Inn]
end Sh

end
section
set_option Elab.async false
set_option linter.all false
set_option maxRecDepth 100000
set_option maxHeartbeats 4000000
namespace Sh
open PySem PySem.Spec PyProof.Rows L2
/-! ### [e for x in it if c] -/
section
variable {X : Cx} {x : Str} {fr : List Str} {scope : Scope} {iter elt c : Expr} {px pos : Pos} {wi : TI} {te : TE} {tt : TT} {ix : List Nat}
end
end Sh

end
section
set_option Elab.async false
set_option linter.all false
set_option maxRecDepth 100000
set_option maxHeartbeats 4000000
namespace Sh
open PySem PySem.Spec PyProof.Rows L2
/-! ### texts by their signs -/
def tS (l : List Nat) : Str := ⟨l.toArray⟩
theorem tS_cps (x : Str) : tS x.cps.toList = x := by cases x; simp [tS]
theorem cps_tS (l : List Nat) : (tS l).cps.toList = l := by simp [tS]
theorem tS_app (a b : List Nat) : tS a ++ tS b = tS (a ++ b) := by
  show (⟨a.toArray ++ b.toArray⟩ : Str) = ⟨(a ++ b).toArray⟩
  simp
theorem len_tS (l : List Nat) : (tS l).length = l.length := by show l.toArray.size = l.length; simp
theorem len_cps (x : Str) : x.cps.toList.length = x.length := by show x.cps.toList.length = x.cps.size; simp
theorem str_eq {x y : Str} (h : x.cps.toList = y.cps.toList) : x = y := by rw [← tS_cps x, ← tS_cps y, h]
/-! ### methods of texts -/
section
variable {X : Cx}
theorem mt_starts : MtR X "str.startswith" (fun x xs H Q => ∃ T y i, x = .str T ∧ xs = [.str y, .int i] ∧ Q (.bl (Txt.startswith3 T y i)) H) := by
  intro pins s σ H x xs v us Q I rx rv h
  obtain ⟨T, y, i, rfl, rfl, q⟩ := h
  obtain ⟨t, rfl⟩ := rx
  obtain ⟨u1, u2, rfl, r1, r2⟩ := vals2 rv
  obtain ⟨t1, rfl⟩ := r1
  obtain ⟨t2, rfl⟩ := r2
  exact SC.startswith3 ⟨.bl _, H, I, rfl, q⟩
theorem call_int_text : CallR X (.type "int") (fun xs H Q => ∃ x n, xs = [.str x] ∧ PySem.intText? x = some n ∧ x.length ≤ 640 ∧ Q (.int n) H) := by
  intro pins s σ H xs us Q I r h
  obtain ⟨x, n, rfl, hn, hl, q⟩ := h
  obtain ⟨u1, rfl, r1⟩ := vals1 r
  obtain ⟨t1, rfl⟩ := r1
  exact PySem.W.KIN.call_text hn hl ⟨.int n, H, I.tok _, ⟨_, rfl⟩, q⟩
theorem vals_strs : ∀ {ys : List Str} {its : List Value}, Vals (ys.map V.str) its → ∃ l : List (Str × Tok), l.map (·.1) = ys ∧ its = strValues l
  | [], its, h => by cases h; exact ⟨[], rfl, rfl⟩
  | y :: ys, its, h => by
    cases h with
    | cons h1 h2 =>
      obtain ⟨t, rfl⟩ := h1
      obtain ⟨l, e1, e2⟩ := vals_strs h2
      exact ⟨(y, t) :: l, by rw [List.map_cons, e1], by rw [e2]; rfl⟩
theorem fold_len (sep : Str) : ∀ (l : List Str) (n : Nat), l.foldl (fun (n : Nat) (s : Str) => n + s.length + sep.length) n = n + (l.map (·.length)).sum + l.length * sep.length
  | [], n => by simp
  | x :: r, n => by
    rw [List.foldl_cons, fold_len sep r, List.map_cons, List.sum_cons, List.length_cons, Nat.add_mul]
    omega
theorem mt_join : MtR X "str.join" (fun x xs H Q => ∃ sep l ys, x = .str sep ∧ xs = [.ref l] ∧ H l = some (.lst (ys.map V.str)) ∧ (ys.map (·.length)).sum + ys.length * sep.length ≤ sizeLine ∧ Q (.str (Builtin.Str.glued sep ys)) H) := by
  intro pins s σ H x xs v us Q I rx rv h
  obtain ⟨sep, l, ys, rfl, rfl, hl, hz, q⟩ := h
  obtain ⟨t, rfl⟩ := rx
  obtain ⟨u1, rfl, r1⟩ := vals1 rv
  cases r1
  obtain ⟨its, ri, pl, _⟩ := I.list (SqL.of hl)
  obtain ⟨ls, rfl, rfl⟩ := vals_strs ri
  refine call_meets F.slot_str_join (typeIs_str _ _ _) F.entry_str_join (F.args_str_join_2 _ _) (meets_str_join_list sep t l ls ?_) ⟨pl.isList, ?_⟩
  · unfold Builtin.Str.tooLong
    rw [List.foldl_toArray, fold_len]
    simp only [decide_eq_false_iff_not, Nat.not_lt]
    omega
  · have gl : (Builtin.Str.glued sep (ls.map (·.1))).length ≤ sizeLine := by
      rw [PySem.size_glued]
      have := Nat.mul_le_mul_right sep.length (Nat.sub_le (ls.map (·.1)).length 1)
      omega
    cases ls with
    | nil => exact ⟨gl, .str _, H, I.tok _, ⟨_, rfl⟩, q⟩
    | cons p r => cases r with
      | nil => exact ⟨.str _, H, I, ⟨_, rfl⟩, q⟩
      | cons p' r' => exact ⟨gl, .str _, H, I.tok _, ⟨_, rfl⟩, q⟩
end
section
variable {X : Cx} {C : Addr} {m x : Str} {ps : List Str} {k j : Nat} {sp : Sp} {dvs : List V} {p pos apos : Pos} {e o : Expr} {es : List Expr} {ta : TE} {t : TA}
/-- o.m() -/
theorem pe_mok0 {pl : Sem Bool} (G : MOk CX0 X.prog X.w X.K X.mg X.base C m ps k sp dvs) (c : Cls X.K C) (hr : Room j X.A) (hk : k ≤ j) (he : PE X o ta)
    (ht : eval (.Call (.Attribute o m apos) [] [] pos) X.env = (do
      let ov ← eval o X.env
      standAt apos.atName
      let (f, first) ← holding [ov] (getMethod ov m pl)
      callWith pos f first (backTo pos (starEach [] X.env)) (backToKw pos (keywordEach [] X.env))) := by rfl) : PE X (.Call (.Attribute o m apos) [] [] pos) (tMeth C m sp [] E0 ta tNil) := by
  obtain ⟨f, fd, ds, F, b, b', hd, hm⟩ := G
  exact pe_meth0 he c hm F (hr.mono hk) b .nil pass0 ht
end
/-! ### words as texts -/
def dig (n : Int) : List Nat := (Str.ofString (toString n)).cps.toList
mutual
def sh : Wd → List Nat
  | .var n => 35 :: dig n
  | .node t nm ps => match t with
    | .fn => nm.cps.toList ++ 40 :: (shR ps ++ [41])
    | .rel => nm.cps.toList ++ 91 :: (shR ps ++ [93])
    | .no => [33]
    | .same => 40 :: (shM [32, 61, 32] ps ++ [41])
    | .cond => 40 :: (shM [32, 62, 32] ps ++ [41])
    | .all => 42 :: shR ps
def shR : List Wd → List Nat
  | [] => []
  | w :: ws => sh w ++ shT ws
def shT : List Wd → List Nat
  | [] => []
  | w :: ws => 32 :: (sh w ++ shT ws)
def shM (m : List Nat) : List Wd → List Nat
  | [] => []
  | w :: ws => sh w ++ m ++ shR ws
end
def isLet (c : Nat) : Bool := decide (97 ≤ c) && decide (c ≤ 122)
def isFig (c : Nat) : Bool := decide (48 ≤ c) && decide (c ≤ 57)
def inS (sg : Str) (c : Nat) : Bool := !(Builtin.Str.occurrences sg ⟨#[c]⟩ 0 sg.length 1).isEmpty
theorem let_in : ∀ c : Fin 128, inS "abcdefghijklmnopqrstuvwxyz" c.val = isLet c.val := by decide +kernel
theorem fig_in : ∀ c : Fin 128, inS "0123456789" c.val = isFig c.val := by decide +kernel
def digOk (n : Nat) : Bool := decide ((dig n).length ≤ 3) && (dig n).all isFig && ((dig n).head?.isSome) && (decide ((dig n).head? ≠ some 48) || decide (dig n = [48])) && decide (PySem.intText? (tS (dig n)) = some (n : Int))
theorem dig_ok : ∀ n : Fin 1000, digOk n.val = true := by decide +kernel
end Sh

end
section
set_option Elab.async false
set_option linter.all false
set_option maxRecDepth 100000
set_option maxHeartbeats 4000000
namespace Sh
open PySem PySem.Spec PyProof.Rows L2
/-! ### slices of texts -/
theorem pick_range (L : List Nat) (a : Nat) : ∀ n : Nat, a + n ≤ L.length → ((List.range n).map (a + ·)).filterMap (fun i => L[i]?) = (L.drop a).take n
  | 0, _ => by simp
  | n + 1, h => by
    rw [List.range_succ, List.map_append, List.filterMap_append, pick_range L a n (by omega), List.take_add_one, List.getElem?_drop]
    have lt : a + n < L.length := by omega
    simp [lt]
theorem slice_cut {x : Str} {l u : Option Int} {a b : Nat} (h : Builtin.Str.strSliceIndices l u 1 x.length = sliceRange a b 1) (hab : a ≤ b) (hb : b ≤ x.length) : Txt.slice x l u = tS ((x.cps.toList.drop a).take (b - a)) := by
  unfold Txt.slice
  rw [h, sliceRange_one]
  have hl := len_cps x
  split
  · rename_i c
    have c' : b - a = x.length := by simpa using c
    have e1 : a = 0 := by omega
    have e2 : b = x.length := by omega
    subst e1 e2
    rw [List.drop_zero, Nat.sub_zero, ← hl, List.take_length, tS_cps]
  · show (⟨_⟩ : Str) = ⟨_⟩
    congr 2
    have := pick_range x.cps.toList a (b - a) (by omega)
    rw [← this]
    simp
theorem clip2 {n a b : Nat} (ha : a ≤ n) : Builtin.Str.strSliceIndices (some (a : Int)) (some (b : Int)) 1 n = sliceRange (a : Nat) (min b n : Nat) 1 := by
  unfold Builtin.Str.strSliceIndices
  have h1 : ¬ ((a : Int) < 0) := by omega
  have h2 : ¬ ((b : Int) < 0) := by omega
  simp only [h1, h2, if_false, show (1 : Int) > 0 by decide, if_true]
  congr 1 <;> omega
/-- the rest of the text from p on -/
def At (T : Str) (p : Nat) (l : List Nat) : Prop := T.cps.toList.drop p = l ∧ p ≤ T.length
theorem At.len {T : Str} {p : Nat} {l : List Nat} (h : At T p l) : p + l.length = T.length := by
  have := congrArg List.length h.1
  rw [List.length_drop, len_cps] at this
  have := h.2
  omega
theorem At.go {T : Str} {p : Nat} {a b : List Nat} (h : At T p (a ++ b)) : At T (p + a.length) b := by
  have l := h.len
  refine ⟨?_, by rw [List.length_append] at l; omega⟩
  rw [← List.drop_drop, h.1, List.drop_left]
theorem At.get {T : Str} {p : Nat} {c : Nat} {b : List Nat} (h : At T p (c :: b)) : T.cps.toList[p]? = some c := by
  have := congrArg (·[0]?) h.1
  simpa using this
theorem sliceK {T : Str} {p : Nat} {l : List Nat} (n : Nat) (h : At T p l) : Txt.slice T (some (p : Int)) (some ((p : Int) + (n : Int))) = tS (l.take n) := by
  have e : ((p : Int) + (n : Int)) = ((p + n : Nat) : Int) := by omega
  have hl := h.len
  rw [e, slice_cut (clip2 h.2) (by omega) (by omega), h.1]
  by_cases hn : n ≤ l.length
  · rw [show min (p + n) T.length - p = n by omega]
  · rw [show min (p + n) T.length - p = l.length by omega, List.take_length, List.take_of_length_le (by omega)]
theorem slice1 {T : Str} {p : Nat} {l : List Nat} (h : At T p l) : Txt.slice T (some (p : Int)) (some ((p : Int) + 1)) = tS (l.take 1) := sliceK 1 h
theorem sliceN {T : Str} {p : Nat} {a b : List Nat} (h : At T p (a ++ b)) : Txt.slice T (some (p : Int)) (some ((p + a.length : Nat) : Int)) = tS a := by
  have e := sliceK a.length h
  rw [List.take_left] at e
  exact e
theorem starts_at {T sg : Str} {p : Nat} {b : List Nat} (h : At T p (sg.cps.toList ++ b)) : Txt.startswith3 T sg (p : Int) = true := by
  have hl := h.len
  rw [List.length_append, len_cps] at hl
  have hf : fromIndex T.length (p : Int) = p := by
    unfold fromIndex
    split <;> omega
  unfold Txt.startswith3
  rw [hf, Bool.and_eq_true]
  refine ⟨by simp; omega, ?_⟩
  unfold Builtin.Str.subAt
  rw [beq_iff_eq]
  refine Array.toList_inj.mp ?_
  rw [Array.toList_extract]
  show List.extract _ _ _ = _
  rw [List.extract_eq_take_drop, h.1, Nat.add_sub_cancel_left, ← len_cps sg, List.take_left]
/-! ### how long a word's text is, and of which signs -/
def niceW : Wd → Prop
  | .var n => 0 ≤ n ∧ n < 1000
  | .node t nm _ => t.named = true → IsName nm
theorem dig_all (n : Int) (h0 : 0 ≤ n) (h1 : n < 1000) : (dig n).length ≤ 3 ∧ (∀ c ∈ dig n, isFig c = true) ∧ dig n ≠ [] ∧ ((dig n).head? = some 48 → dig n = [48]) ∧ PySem.intText? (tS (dig n)) = some n := by
  obtain ⟨k, rfl⟩ : ∃ k : Nat, n = k := ⟨n.toNat, by omega⟩
  have := dig_ok ⟨k, by omega⟩
  unfold digOk at this
  simp only [Bool.and_eq_true, decide_eq_true_eq, List.all_eq_true, Bool.or_eq_true] at this
  obtain ⟨⟨⟨⟨a1, a2⟩, a3⟩, a4⟩, a5⟩ := this
  refine ⟨a1, a2, (fun e => by rw [e] at a3; cases a3), fun e => ?_, a5⟩
  rcases a4 with a4 | a4
  · exact absurd e a4
  · exact a4
mutual
theorem sh_len : ∀ {w : Wd}, Her niceW w → (sh w).length + 1 ≤ 20 * knots w
  | .var n, h => by
    have := (dig_all n h.1 h.2).1
    rw [sh, List.length_cons, knots]; omega
  | .node t nm ps, h => by
    have hR := shR_len h.2
    rw [knots]
    cases t with
    | fn =>
      have := (h.1 rfl).2.1
      have e := len_cps nm
      simp only [sh, List.length_append, List.length_cons, List.length_nil]; omega
    | rel =>
      have := (h.1 rfl).2.1
      have e := len_cps nm
      simp only [sh, List.length_append, List.length_cons, List.length_nil]; omega
    | no => simp only [sh, List.length_cons, List.length_nil]; omega
    | same =>
      have := shM_len (m := [32, 61, 32]) h.2
      simp only [sh, List.length_append, List.length_cons, List.length_nil] at this ⊢; omega
    | cond =>
      have := shM_len (m := [32, 62, 32]) h.2
      simp only [sh, List.length_append, List.length_cons, List.length_nil] at this ⊢; omega
    | all => simp only [sh, List.length_cons]; omega
theorem shR_len : ∀ {ws : List Wd}, HerL niceW ws → (shR ws).length ≤ 20 * knotsL ws
  | [], _ => by simp only [shR, List.length_nil]; omega
  | w :: ws, h => by
    have h1 := sh_len h.1
    have h2 := shT_len h.2
    simp only [shR, knotsL, List.length_append]; omega
theorem shT_len : ∀ {ws : List Wd}, HerL niceW ws → (shT ws).length ≤ 20 * knotsL ws
  | [], _ => by simp only [shT, List.length_nil]; omega
  | w :: ws, h => by
    have h1 := sh_len h.1
    have h2 := shT_len h.2
    simp only [shT, knotsL, List.length_append, List.length_cons]; omega
theorem shM_len : ∀ {m : List Nat} {ws : List Wd}, HerL niceW ws → (shM m ws).length ≤ 20 * knotsL ws + m.length
  | m, [], _ => by simp only [shM, List.length_nil]; omega
  | m, w :: ws, h => by
    have h1 := sh_len h.1
    have h2 := shR_len h.2
    simp only [shM, knotsL, List.length_append]; omega
end
theorem fig_lt {c : Nat} (h : isFig c = true) : c < 128 := by
  unfold isFig at h
  simp at h
  omega
theorem low_app {a b : List Nat} (ha : ∀ c ∈ a, c < 128) (hb : ∀ c ∈ b, c < 128) : ∀ c ∈ a ++ b, c < 128 := fun c hc => by
  rcases List.mem_append.mp hc with h | h
  · exact ha c h
  · exact hb c h
theorem low_name {nm : Str} (h : IsName nm) : ∀ c ∈ nm.cps.toList, c < 128 := fun c hc => by
  have := h.2.2 c hc
  omega
mutual
theorem sh_low : ∀ {w : Wd}, Her niceW w → ∀ c ∈ sh w, c < 128
  | .var n, h => by
    rw [sh]
    exact low_app (a := [35]) (by simp) fun c hc => fig_lt ((dig_all n h.1 h.2).2.1 c hc)
  | .node t nm ps, h => by
    have hR := shR_low h.2
    cases t with
    | fn =>
      simp only [sh]
      exact low_app (low_name (h.1 rfl)) (low_app (a := [40]) (by simp) (low_app hR (by simp)))
    | rel =>
      simp only [sh]
      exact low_app (low_name (h.1 rfl)) (low_app (a := [91]) (by simp) (low_app hR (by simp)))
    | no => simp [sh]
    | same =>
      simp only [sh]
      exact low_app (a := [40]) (by simp) (low_app (shM_low (by simp) h.2) (by simp))
    | cond =>
      simp only [sh]
      exact low_app (a := [40]) (by simp) (low_app (shM_low (by simp) h.2) (by simp))
    | all =>
      simp only [sh]
      exact low_app (a := [42]) (by simp) hR
theorem shR_low : ∀ {ws : List Wd}, HerL niceW ws → ∀ c ∈ shR ws, c < 128
  | [], _ => by simp [shR]
  | w :: ws, h => by
    rw [shR]
    exact low_app (sh_low h.1) (shT_low h.2)
theorem shT_low : ∀ {ws : List Wd}, HerL niceW ws → ∀ c ∈ shT ws, c < 128
  | [], _ => by simp [shT]
  | w :: ws, h => by
    rw [shT]
    exact low_app (a := [32]) (by simp) (low_app (sh_low h.1) (shT_low h.2))
theorem shM_low : ∀ {m : List Nat} {ws : List Wd}, (∀ c ∈ m, c < 128) → HerL niceW ws → ∀ c ∈ shM m ws, c < 128
  | m, [], _, _ => by simp [shM]
  | m, w :: ws, hm, h => by
    rw [shM]
    exact low_app (low_app (sh_low h.1) hm) (shR_low h.2)
end
theorem nice_term : ∀ {d : Nat} {w : Wd}, IsTerm d w → Her niceW w
  | d, .var n, h => by cases d <;> exact h
  | 0, .node t nm ps, h => by simp only [IsTerm] at h
  | d + 1, .node t nm ps, h => by
    simp only [IsTerm] at h
    exact ⟨fun _ => h.2.1, herL_of fun p hp => nice_term (h.2.2.2 p hp)⟩
theorem nice_form : ∀ {d : Nat} {w : Wd}, IsForm d w → Her niceW w
  | d, .var n, h => by simp only [IsForm] at h
  | d, .node t nm ps, h => by
    cases t with
    | fn => simp only [IsForm] at h
    | no => simp only [IsForm] at h; rw [h.2]; exact ⟨fun z => (by cases z), True.intro⟩
    | same =>
      simp only [IsForm] at h
      obtain ⟨_, a, b, rfl, ha, hb⟩ := h
      exact ⟨fun z => (by cases z), nice_term ha, nice_term hb, True.intro⟩
    | rel =>
      simp only [IsForm] at h
      exact ⟨fun _ => h.1, herL_of fun p hp => nice_term (h.2.2 p hp)⟩
    | cond =>
      cases d with
      | zero => simp only [IsForm] at h
      | succ d =>
        simp only [IsForm] at h
        obtain ⟨_, a, b, rfl, ha, hb⟩ := h
        exact ⟨fun z => (by cases z), nice_form ha, nice_form hb, True.intro⟩
    | all =>
      cases d with
      | zero => simp only [IsForm] at h
      | succ d =>
        simp only [IsForm] at h
        obtain ⟨_, a, rfl, ha⟩ := h
        exact ⟨fun z => (by cases z), nice_form ha, True.intro⟩
end Sh

end
section
set_option Elab.async false
set_option linter.all false
set_option maxRecDepth 100000
set_option maxHeartbeats 4000000
namespace Sh
open PySem PySem.Spec PyProof.Rows L2
/-! ### a reader of a text, as an object -/
def rdF (T : Str) (p : Nat) : List (Str × V) := [("text", .str T), ("place", .int p)]
def RdAt (C : Addr) (H : Hp) (a : Addr) (T : Str) (p : Nat) : Prop := ∃ dx, H a = some (.ins C dx (rdF T p))
def TxOk (T : Str) : Prop := T.length ≤ 5000 ∧ ∀ c ∈ T.cps.toList, c < 128
theorem TxOk.sz {T : Str} (h : TxOk T) : T.length ≤ sizeLine := by
  have := h.1
  rw [sizeLine_eq]; omega
/-- the run ends here -/
def Stp (pr : Nat → Bool) (l : List Nat) : Prop := ∀ c r, l = c :: r → pr c = false
theorem put_place {T : Str} {p : Nat} {v : V} : putF ("place" : Str) v (rdF T p) = ([("text", .str T), ("place", v)] : List (Str × V)) := by
  unfold rdF putF
  rw [if_neg (by decide)]
  unfold putF
  rw [if_pos rfl]
theorem look_text {T : Str} {p : Nat} : (rdF T p).lookup ("text" : Str) = some (.str T) := by unfold rdF; rfl
theorem look_place {T : Str} {p : Nat} : (rdF T p).lookup ("place" : Str) = some (.int p) := by unfold rdF; rfl
/-- all but the reader is as it was -/
def Bt (H H' : Hp) (a : Addr) : Prop := ∀ b o, b ≠ a → H b = some o → H' b = some o
theorem Bt.trans {H H1 H2 : Hp} {a : Addr} (x : Bt H H1 a) (y : Bt H1 H2 a) : Bt H H2 a := fun b o n e => y b o n (x b o n e)
theorem Bt.upd (H : Hp) (a : Addr) (o : HO) : Bt H (L2.upd H a o) a := fun b u n e => by rw [upd_ne n]; exact e
theorem Bt.at {H H' : Hp} {a b : Addr} {o : HO} (k : Bt H H' a) (n : b ≠ a) (h : H b = some o) : H' b = some o := k b o n h
theorem Bt.tk {H H' : Hp} {a C : Addr} {T : Str} {p : Nat} (k : Bt H H' a) (r : RdAt C H a T p) : Tk H H' := fun b xs e => k b _ (fun z => by
  obtain ⟨dx, h⟩ := r
  rw [z, h] at e; cases e) e
section
variable [Inn]
end
theorem RdAt.new {C : Addr} {H : Hp} {a b : Addr} {T : Str} {p : Nat} {o : HO} (h : RdAt C H a T p) (hb : H b = none) : RdAt C (upd H b o) a T p := by
  obtain ⟨dx, e⟩ := h
  exact ⟨dx, by rw [upd_ne (ne_of_none e hb)]; exact e⟩
theorem Bt.new {H : Hp} {a b : Addr} {o : HO} (hb : H b = none) : Bt H (L2.upd H b o) a := fun c u _ e => by rw [upd_ne (ne_of_none e hb)]; exact e
theorem Bt.tup {H0 H : Hp} {a l : Addr} {xs : List V} (k : Bt H0 H a) (hl : H0 l = none) (o : HO) : Bt H0 (L2.upd H l o) a := fun c u n e => by rw [upd_ne (ne_of_none e hl)]; exact k c u n e
/-! ### promises -/
def spRInit (C : Addr) : Sp := fun vs H Q _ => ∃ (a dx : Addr) (T : Str), vs = [.ref a, .str T] ∧ H a = some (.ins C dx []) ∧ ∀ H', (∀ b, b ≠ a → H' b = H b) → RdAt C H' a T 0 → Q .non H'
def spAhead (C : Addr) : Sp := fun vs H Q _ => ∃ (a : Addr) (T : Str) (p : Nat) (l : List Nat), vs = [.ref a] ∧ RdAt C H a T p ∧ TxOk T ∧ At T p l ∧ Q (.str (tS (l.take 1))) H
def spEnd (C : Addr) : Sp := fun vs H Q _ => ∃ (a : Addr) (T sg : Str) (p : Nat) (s r : List Nat) (pr : Nat → Bool), vs = [.ref a, .str sg] ∧ RdAt C H a T p ∧ TxOk T ∧ At T p (s ++ r) ∧ (∀ c, c < 128 → inS sg c = pr c) ∧ (∀ c ∈ s, pr c = true) ∧ Stp pr r ∧ Q (.int (p + s.length : Nat)) H
def spRun (C : Addr) : Sp := fun vs H Q _ => ∃ (a : Addr) (T sg : Str) (p : Nat) (s r : List Nat) (pr : Nat → Bool), vs = [.ref a, .str sg] ∧ RdAt C H a T p ∧ TxOk T ∧ At T p (s ++ r) ∧ (∀ c, c < 128 → inS sg c = pr c) ∧ (∀ c ∈ s, pr c = true) ∧ Stp pr r ∧ ∀ H', Bt H H' a → RdAt C H' a T (p + s.length) → Q (.str (tS s)) H'
section
variable [Inn]
def spShown (n : Nat) : Sp := fun vs H Q _ => ∃ v w d, vs = [v] ∧ Rw H w v ∧ IsForm d w ∧ dep w ≤ n ∧ knots w ≤ 1000 ∧ ∀ H', Same H H' → Q (.str (tS (sh w))) H'
def spTermS (n : Nat) : Sp := fun vs H Q _ => ∃ v w d, vs = [v] ∧ Rw H w v ∧ IsTerm d w ∧ dep w ≤ n ∧ knots w ≤ 1000 ∧ ∀ H', Same H H' → Q (.str (tS (sh w))) H'
end
/-- joined by blanks -/
theorem glue_cps (sep : Str) : ∀ (x : Str) (ys : List Str), (Builtin.Str.glued sep (x :: ys)).cps.toList = x.cps.toList ++ ys.flatMap fun y => sep.cps.toList ++ y.cps.toList := by
  intro x ys
  show ((ys.foldl (fun acc p => acc ++ sep.cps ++ p.cps) x.cps)).toList = _
  generalize x.cps = a
  induction ys generalizing a with
  | nil => simp
  | cons y r ih =>
    rw [List.foldl_cons, ih, List.flatMap_cons]
    simp
theorem glue_sh (ws : List Wd) : Builtin.Str.glued " " (ws.map fun w => tS (sh w)) = tS (shR ws) := by
  refine str_eq ?_
  rw [cps_tS]
  cases ws with
  | nil => rfl
  | cons w r =>
    rw [List.map_cons, glue_cps, cps_tS, shR]
    congr 1
    induction r with
    | nil => simp [shT]
    | cons u r ih =>
      rw [List.map_cons, List.flatMap_cons, ih, cps_tS, shT]
      simp
      rfl
end Sh
namespace Sh
open PySem PySem.Spec PyProof.Rows L2
theorem name_let {nm : Str} (hn : IsName nm) : (∀ c ∈ nm.cps.toList, isLet c = true) ∧ nm.cps.toList ≠ [] := by
  refine ⟨fun c hc => ?_, fun e => ?_⟩
  · have := hn.2.2 c hc
    unfold isLet
    simp; omega
  · have h1 := len_cps nm
    have h2 := hn.1
    rw [e] at h1
    simp at h1
    omega
theorem head_form {d : Nat} {w : Wd} (h : IsForm d w) : ∃ A c l, sh w = A ++ c :: l ∧ (∀ x ∈ A, isLet x = true) ∧ isLet c = false ∧ ((A = [] ∧ c ≠ 35) ∨ (A ≠ [] ∧ c ≠ 40)) := by
  cases w with
  | var n => simp only [IsForm] at h
  | node t nm ps =>
    cases t with
    | fn => simp only [IsForm] at h
    | no => exact ⟨[], 33, [], by simp only [sh]; rfl, (fun x hx => by cases hx), by decide, .inl ⟨rfl, by decide⟩⟩
    | same => exact ⟨[], 40, _, by simp only [sh]; rfl, (fun x hx => by cases hx), by decide, .inl ⟨rfl, by decide⟩⟩
    | cond => exact ⟨[], 40, _, by simp only [sh]; rfl, (fun x hx => by cases hx), by decide, .inl ⟨rfl, by decide⟩⟩
    | all => exact ⟨[], 42, _, by simp only [sh]; rfl, (fun x hx => by cases hx), by decide, .inl ⟨rfl, by decide⟩⟩
    | rel =>
      simp only [IsForm] at h
      exact ⟨nm.cps.toList, 91, shR ps ++ [93], by simp only [sh], (name_let h.1).1, by decide, .inr ⟨(name_let h.1).2, by decide⟩⟩
end Sh

end
section
set_option Elab.async false
set_option linter.all false
set_option maxRecDepth 100000
set_option maxHeartbeats 4000000
namespace Sh
open PySem PySem.Spec PyProof.Rows L2
theorem l33 : ("!" : Str).cps.toList = [33] := rfl
theorem l35 : ("#" : Str).cps.toList = [35] := rfl
theorem l40 : ("(" : Str).cps.toList = [40] := rfl
theorem l41 : (")" : Str).cps.toList = [41] := rfl
theorem l42 : ("*" : Str).cps.toList = [42] := rfl
theorem l91 : ("[" : Str).cps.toList = [91] := rfl
theorem l93 : ("]" : Str).cps.toList = [93] := rfl
theorem lEq : (" = " : Str).cps.toList = [32, 61, 32] := rfl
theorem lGt : (" > " : Str).cps.toList = [32, 62, 32] := rfl
theorem l32 : (" " : Str).cps.toList = [32] := rfl
theorem big {n : Nat} (h : n ≤ 100000) : n ≤ sizeLine := by rw [sizeLine_eq]; omega
theorem shL {w : Wd} {d : Nat} (h : IsTerm d w) (hk : knots w ≤ 1000) : (tS (sh w)).length ≤ 20000 := by
  have := sh_len (nice_term h)
  rw [len_tS]; omega
theorem shRL {ws : List Wd} {d : Nat} (h : ∀ w ∈ ws, IsTerm d w) (hk : knotsL ws ≤ 1000) : (tS (shR ws)).length ≤ 20000 := by
  have := shR_len (ws := ws) (herL_of fun w hw => nice_term (h w hw))
  rw [len_tS]; omega
theorem log_small {n : Int} (h0 : 0 ≤ n) (h1 : n < 1000) : n.natAbs.log2 < 1920 := by
  have h : n.natAbs < 2 ^ 1920 := by
    have : n.natAbs < 1000 := by omega
    exact Nat.lt_trans this (by decide)
  by_cases e : n.natAbs = 0
  · rw [e]; decide
  · exact (Nat.log2_lt e).mpr h
theorem depL_mem {ps : List Wd} {p : Wd} (h : p ∈ ps) : dep p ≤ depL ps := by
  induction ps with
  | nil => cases h
  | cons q r ih =>
    rw [depL]
    rcases List.mem_cons.mp h with rfl | h
    · omega
    · have := ih h; omega
theorem dig_len {m : Int} (h0 : 0 ≤ m) (h1 : m < 1000) : (Str.ofString (toString m)).length ≤ 3 := by
  have := (dig_all m h0 h1).1
  unfold dig at this
  rw [len_cps] at this
  exact this
theorem shFL {w : Wd} {d : Nat} (h : IsForm d w) (hk : knots w ≤ 1000) : (tS (sh w)).length ≤ 20000 := by
  have := sh_len (nice_form h)
  rw [len_tS]; omega
end Sh
namespace Sh
open PySem PySem.Spec PyProof.Rows L2
theorem Rws.two {H : Hp} {x y : Wd} {vs : List V} (h : Rws H [x, y] vs) : ∃ v1 v2, vs = [v1, v2] ∧ Rw H x v1 ∧ Rw H y v2 := by
  simp only [Rws] at h
  obtain ⟨v1, r1, rfl, h1, v2, r2, rfl, h2, rfl⟩ := h
  exact ⟨v1, v2, rfl, h1, h2⟩
theorem Rws.one {H : Hp} {x : Wd} {vs : List V} (h : Rws H [x] vs) : ∃ v1, vs = [v1] ∧ Rw H x v1 := by
  simp only [Rws] at h
  obtain ⟨v1, r1, rfl, h1, rfl⟩ := h
  exact ⟨v1, rfl, h1⟩
end Sh

end
section
set_option Elab.async false
set_option linter.all false
set_option maxRecDepth 100000
set_option maxHeartbeats 4000000
namespace Sh
open PySem
section
variable {P : Program} {w : World} {A : Around} {E : Value → Shared → Prop} {s : Shared} {a : Addr} {ep : Nat} {t : SetTable}
end
end Sh
namespace Sh
open PySem PySem.Spec PyProof.Rows L2
/-! ### sorted(set(l)), l an empty list -/
/-! ### x != y of two tuples; l.extend(t) -/
end Sh

end
section
set_option Elab.async false
set_option linter.all false
set_option maxRecDepth 100000
set_option maxHeartbeats 4000000
namespace Sh
open PySem PySem.Spec PyProof.Rows L2
/-! ### l.extend(t), t a tuple -/
section
variable {X : Cx}
end
/-! ### comprehensions with an if, over a list or a tuple -/
/-! ### seals and halls -/
section
variable [Inn]
end
section
variable [Inn]
end
/-! ### how large a seal may be -/
mutual
def alw : Wd → Nat
  | .var _ => 0
  | .node t _ ps => alwL ps + if t = .all then 1 else 0
def alwL : List Wd → Nat
  | [] => 0
  | w :: ws => max (alw w) (alwL ws)
end
def fair (asm : List Wd) (con : Wd) : Prop := asm.length ≤ 64 ∧ knots con ≤ 300 ∧ dep con ≤ 60 ∧ alw con ≤ 6
instance {asm : List Wd} {con : Wd} : Decidable (fair asm con) := inferInstanceAs (Decidable (_ ∧ _ ∧ _ ∧ _))
section
variable [Inn]
end
section
variable {X : Cx} {C : Addr} {x : Str} {ps : List Str} {k j : Nat} {sp : Sp} {p pos : Pos}
end
/-! ### promises of the hall's defs -/
section
variable [Inn]
end
end Sh

end
section
set_option Elab.async false
set_option linter.all false
set_option maxRecDepth 100000
set_option maxHeartbeats 4000000
namespace Sh
open PySem PySem.Spec PyProof.Rows L2
/-! ### promises of the hall's methods -/
def wIf (a b : Wd) : Wd := .node .cond "" [a, b]
def wAll (a : Wd) : Wd := .node .all "" [a]
def wSame (a b : Wd) : Wd := .node .same "" [a, b]
section
variable [Inn]
end
theorem dep_wAll (a : Wd) : dep (wAll a) = 1 + dep a := by unfold wAll; simp only [dep, depL, Nat.max_zero]
end Sh

end
section
set_option Elab.async false
set_option linter.all false
set_option maxRecDepth 100000
set_option maxHeartbeats 4000000
namespace Sh
open PySem PySem.Spec PyProof.Rows L2
/-! ### methods that are called within an except suite -/
section
variable {P : Program} {w : World} {K : PySem.W.Frag} {mg : Str → Option Value} {base : Heap} {m qual : Str} {st : Stmt} {N ps : List Str} {k : Nat} {sp : Sp} {C : Addr} {dvs : List V}
end
section
variable {X : Cx} {C : Addr} {m : Str} {ps : List Str} {k : Nat} {sp : Sp} {pos apos : Pos} {o : Expr} {ta : TE}
end
/-! ### what k10's law reckons itself -/
section
variable [Inn]
end
theorem at3 {α : Type} {x y z u : α} {xs : List α} : atI (x :: y :: z :: u :: xs) 3 = some u := by
  have h : (3 : Int) < ((x :: y :: z :: u :: xs).length : Int) := by simp only [List.length_cons]; omega
  unfold atI ixN; rw [if_pos (by decide), if_pos h]; rfl
end Sh

end
section
set_option Elab.async false
set_option linter.all false
set_option maxRecDepth 100000
set_option maxHeartbeats 4000000
namespace Sh
open PySem PySem.Spec PyProof.Rows L2
def wNo : Wd := .node .no "" []
def wRel (nm : Str) (ws : List Wd) : Wd := .node .rel nm ws
def wFun (nm : Str) (ws : List Wd) : Wd := .node .fn nm ws
section
variable [Inn]
end
end Sh

end
section
set_option Elab.async false
set_option linter.all false
set_option maxRecDepth 100000
set_option maxHeartbeats 4000000
namespace Sh
open PySem PySem.Spec PyProof.Rows L2
/-! ### the two rows of assumptions -/
section
variable [Inn]
end
end Sh

end
section
set_option Elab.async false
set_option linter.all false
set_option maxRecDepth 100000
set_option maxHeartbeats 4000000
namespace Sh
open PySem PySem.Spec PyProof.Rows L2
/-! ### how a text is read: by its signs, in order -/
def numOk (s : List Nat) : Bool := !s.isEmpty && decide (s.length ≤ 3) && (decide (s.length = 1) || decide (s.head? ≠ some 48))
def numV (s : List Nat) : Int := (PySem.intText? (tS s)).getD 0
def nmOk (s : List Nat) : Bool := !s.isEmpty && decide (s.length ≤ 12)
def pNum (l : List Nat) : Option (Int × List Nat) := if numOk (l.takeWhile isFig) = true then some (numV (l.takeWhile isFig), l.dropWhile isFig) else none
def pName (l : List Nat) : Option (Str × List Nat) := if nmOk (l.takeWhile isLet) = true then some (tS (l.takeWhile isLet), l.dropWhile isLet) else none
abbrev PT' := List Nat → Option (Wd × List Nat)
def sepd (acc : List Wd) (l : List Nat) : Option (List Nat) := if acc = [] then some l else if l.head? = some 32 then some l.tail else none
def pRowL (pt : PT') (c : Nat) : Nat → List Wd → List Nat → Option (List Wd × List Nat)
  | 0, _, _ => none
  | k + 1, acc, l => if l.head? = some c then some (acc, l.tail) else (sepd acc l).bind fun l' => (pt l').bind fun x => pRowL pt c k (acc ++ [x.1]) x.2
def lim3 (x : List Wd × List Nat) : Option (List Wd × List Nat) := if x.1.length ≤ 3 then some x else none
def pRow (pt : PT') (c : Nat) (l : List Nat) : Option (List Wd × List Nat) := (pRowL pt c (l.length + 1) [] l).bind lim3
def pVar (l : List Nat) : Option (Wd × List Nat) := (pNum l).map fun x => (.var x.1, x.2)
def pNode (pt : PT') (o c : Nat) (mk : Str → List Wd → Wd) (l : List Nat) : Option (Wd × List Nat) := (pName l).bind fun x => if x.2.head? = some o then (pRow pt c x.2.tail).map fun y => (mk x.1 y.1, y.2) else none
def pTerm : Nat → PT'
  | 0, l => if l.head? = some 35 then pVar l.tail else none
  | f + 1, l => if l.head? = some 35 then pVar l.tail else pNode (pTerm f) 40 41 wFun l
def termAhead (l : List Nat) : Bool := if l.takeWhile isLet = [] then decide (l.head? = some 35) else decide ((l.dropWhile isLet).head? = some 40)
def mid (m l : List Nat) : Option (List Nat) := if m.isPrefixOf l = true then some (l.drop m.length) else none
def pTwo (pt : PT') (m : List Nat) (mk : Wd → Wd → Wd) (l : List Nat) : Option (Wd × List Nat) := (pt l).bind fun a => (mid m a.2).bind fun r => (pt r).bind fun b => (mid [41] b.2).map fun r' => (mk a.1 b.1, r')
def pPair (pt pf : PT') (l : List Nat) : Option (Wd × List Nat) := if termAhead l = true then pTwo pt [32, 61, 32] wSame l else pTwo pf [32, 62, 32] wIf l
def pForm (g : Nat) : Nat → PT'
  | 0, l => if l.head? = some 33 then some (wNo, l.tail) else if l.head? = some 42 then none else if l.head? = some 40 then none else pNode (pTerm g) 91 93 wRel l
  | f + 1, l => if l.head? = some 33 then some (wNo, l.tail) else if l.head? = some 42 then (pForm g f l.tail).map fun x => (wAll x.1, x.2) else if l.head? = some 40 then pPair (pTerm g) (pForm g f) l.tail else pNode (pTerm g) 91 93 wRel l
/-! ### numbers -/
theorem num1 : ∀ a : Fin 10, (PySem.intText? (tS [48 + a.val])).isSome = true := by decide +kernel
theorem num2 : ∀ a b : Fin 10, (PySem.intText? (tS [48 + a.val, 48 + b.val])).isSome = true := by decide +kernel
theorem num3 : ∀ a b c : Fin 10, (PySem.intText? (tS [48 + a.val, 48 + b.val, 48 + c.val])).isSome = true := by decide +kernel
theorem fig_fin {c : Nat} (h : isFig c = true) : ∃ a : Fin 10, c = 48 + a.val := by
  unfold isFig at h
  simp at h
  exact ⟨⟨c - 48, by omega⟩, by show c = 48 + (c - 48); omega⟩
theorem num_text {s : List Nat} (h : numOk s = true) (hf : ∀ c ∈ s, isFig c = true) : PySem.intText? (tS s) = some (numV s) := by
  have key : (PySem.intText? (tS s)).isSome = true := by
    match s, h, hf with
    | [], h, _ => cases h
    | [a], _, hf =>
      obtain ⟨x, rfl⟩ := fig_fin (hf a (by simp))
      exact num1 x
    | [a, b], _, hf =>
      obtain ⟨x, rfl⟩ := fig_fin (hf a (by simp))
      obtain ⟨y, rfl⟩ := fig_fin (hf b (by simp))
      exact num2 x y
    | [a, b, c], _, hf =>
      obtain ⟨x, rfl⟩ := fig_fin (hf a (by simp))
      obtain ⟨y, rfl⟩ := fig_fin (hf b (by simp))
      obtain ⟨z, rfl⟩ := fig_fin (hf c (by simp))
      exact num3 x y z
    | a :: b :: c :: d :: r, h, _ => unfold numOk at h; simp at h
  unfold numV
  cases e : PySem.intText? (tS s) with
  | none => rw [e] at key; cases key
  | some n => rfl
/-! ### what is read gets shorter -/
def opn (l : List Nat) : Nat := l.countP fun c => decide (c = 40) || decide (c = 42)
theorem opn_suf {r l : List Nat} (h : r <:+ l) : opn r ≤ opn l := h.sublist.countP_le
theorem opn_tail {l : List Nat} {c : Nat} (h : l.head? = some c) (hc : c = 40 ∨ c = 42) : opn l = opn l.tail + 1 := by
  cases l with
  | nil => cases h
  | cons d r =>
    injection h with h
    subst h
    unfold opn
    rw [List.countP_cons]
    rcases hc with rfl | rfl <;> simp
/-- the rest is a part of the text, and less -/
def Nar (pt : PT') : Prop := ∀ l w r, pt l = some (w, r) → r <:+ l ∧ r.length < l.length
theorem tail_lt {l : List Nat} {c : Nat} (h : l.head? = some c) : l.tail.length < l.length := by
  cases l with
  | nil => cases h
  | cons d r => simp
theorem drop_lt {pr : Nat → Bool} {l : List Nat} (h : l.takeWhile pr ≠ []) : (l.dropWhile pr).length < l.length := by
  have := List.takeWhile_append_dropWhile (p := pr) (l := l)
  have e := congrArg List.length this
  rw [List.length_append] at e
  have : 0 < (l.takeWhile pr).length := List.length_pos_iff.mpr h
  omega
theorem nm_ne {s : List Nat} (h : nmOk s = true) : s ≠ [] := fun e => by rw [e] at h; cases h
theorem name_nar {l : List Nat} {x : Str × List Nat} (h : pName l = some x) : x.2 <:+ l ∧ x.2.length < l.length := by
  unfold pName at h
  split at h
  · rename_i c
    cases h
    exact ⟨List.dropWhile_suffix _, drop_lt (nm_ne c)⟩
  · cases h
theorem rowL_nar {pt : PT'} (hp : Nar pt) {c : Nat} : ∀ {k : Nat} {acc : List Wd} {l : List Nat} {x : List Wd × List Nat}, pRowL pt c k acc l = some x → x.2 <:+ l ∧ x.2.length < l.length
  | 0, acc, l, x, h => by cases h
  | k + 1, acc, l, x, h => by
    rw [pRowL] at h
    split at h
    · rename_i c0
      cases h
      exact ⟨List.tail_suffix l, tail_lt c0⟩
    · obtain ⟨l', e1, h⟩ := Option.bind_eq_some_iff.mp h
      obtain ⟨y, e2, h⟩ := Option.bind_eq_some_iff.mp h
      have s1 : l' <:+ l := by
        unfold sepd at e1
        split at e1
        · cases e1; exact List.suffix_refl l
        · split at e1
          · cases e1; exact List.tail_suffix l
          · cases e1
      obtain ⟨s2, n2⟩ := hp l' y.1 y.2 e2
      obtain ⟨s3, n3⟩ := rowL_nar hp h
      have := s1.length_le
      exact ⟨s3.trans (s2.trans s1), by omega⟩
theorem row_nar {pt : PT'} (hp : Nar pt) {c : Nat} {l : List Nat} {x : List Wd × List Nat} (h : pRow pt c l = some x) : x.2 <:+ l ∧ x.2.length < l.length := by
  unfold pRow at h
  obtain ⟨y, e1, h⟩ := Option.bind_eq_some_iff.mp h
  unfold lim3 at h
  split at h
  · cases h; exact rowL_nar hp e1
  · cases h
theorem node_nar {pt : PT'} (hp : Nar pt) {o c : Nat} {mk : Str → List Wd → Wd} : Nar (pNode pt o c mk) := fun l w r h => by
  unfold pNode at h
  obtain ⟨x, e1, h⟩ := Option.bind_eq_some_iff.mp h
  split at h
  · obtain ⟨y, e2, h⟩ := Option.map_eq_some_iff.mp h
    injection h with h1 h2
    subst h2
    obtain ⟨s1, n1⟩ := name_nar e1
    obtain ⟨s2, n2⟩ := row_nar hp e2
    have s3 := List.tail_suffix x.2
    have := s3.length_le
    exact ⟨s2.trans (s3.trans s1), by omega⟩
  · cases h
theorem var_nar {l : List Nat} {w : Wd} {r : List Nat} (h0 : l.head? = some 35) (h : pVar l.tail = some (w, r)) : r <:+ l ∧ r.length < l.length := by
  unfold pVar at h
  obtain ⟨x, e1, h⟩ := Option.map_eq_some_iff.mp h
  injection h with _ h2
  subst h2
  unfold pNum at e1
  split at e1
  · cases e1
    have s1 := List.dropWhile_suffix (l := l.tail) isFig
    have := tail_lt h0
    have := s1.length_le
    exact ⟨s1.trans (List.tail_suffix l), by show (l.tail.dropWhile isFig).length < l.length; omega⟩
  · cases e1
theorem term_nar : ∀ f : Nat, Nar (pTerm f)
  | 0 => fun l w r h => by
    rw [pTerm] at h
    split at h
    · rename_i c; exact var_nar c h
    · cases h
  | f + 1 => fun l w r h => by
    rw [pTerm] at h
    split at h
    · rename_i c; exact var_nar c h
    · exact node_nar (term_nar f) l w r h
theorem mid_suf {m l r : List Nat} (h : mid m l = some r) : r <:+ l := by
  unfold mid at h
  split at h
  · cases h; exact List.drop_suffix _ l
  · cases h
theorem two_nar {pt : PT'} (hp : Nar pt) {m : List Nat} {mk : Wd → Wd → Wd} : Nar (pTwo pt m mk) := fun l w r h => by
  unfold pTwo at h
  obtain ⟨a, e1, h⟩ := Option.bind_eq_some_iff.mp h
  obtain ⟨r1, e2, h⟩ := Option.bind_eq_some_iff.mp h
  obtain ⟨b, e3, h⟩ := Option.bind_eq_some_iff.mp h
  obtain ⟨r2, e4, h⟩ := Option.map_eq_some_iff.mp h
  injection h with _ h
  subst h
  obtain ⟨s1, n1⟩ := hp l a.1 a.2 e1
  have s2 := mid_suf e2
  obtain ⟨s3, n3⟩ := hp r1 b.1 b.2 e3
  have s4 := mid_suf e4
  have := s2.length_le
  have := s4.length_le
  exact ⟨s4.trans (s3.trans (s2.trans s1)), by omega⟩
theorem pair_nar {pt pf : PT'} (hp : Nar pt) (hf : Nar pf) : Nar (pPair pt pf) := fun l w r h => by
  unfold pPair at h
  split at h
  · exact two_nar hp l w r h
  · exact two_nar hf l w r h
theorem form_nar (g : Nat) : ∀ f : Nat, Nar (pForm g f)
  | 0 => fun l w r h => by
    rw [pForm] at h
    split at h
    · rename_i c; cases h; exact ⟨List.tail_suffix l, tail_lt c⟩
    · split at h
      · cases h
      · split at h
        · cases h
        · exact node_nar (term_nar g) l w r h
  | f + 1 => fun l w r h => by
    rw [pForm] at h
    split at h
    · rename_i c; cases h; exact ⟨List.tail_suffix l, tail_lt c⟩
    · split at h
      · rename_i c
        obtain ⟨x, e1, h⟩ := Option.map_eq_some_iff.mp h
        injection h with _ h
        subst h
        obtain ⟨s1, n1⟩ := form_nar g f l.tail x.1 x.2 e1
        have := tail_lt c
        exact ⟨s1.trans (List.tail_suffix l), by omega⟩
      · split at h
        · rename_i c
          obtain ⟨s1, n1⟩ := pair_nar (term_nar g) (form_nar g f) l.tail w r h
          have := tail_lt c
          exact ⟨s1.trans (List.tail_suffix l), by omega⟩
        · exact node_nar (term_nar g) l w r h
/-! ### how deep what is read is -/
theorem rowL_dep {pt : PT'} {n : Nat} (hp : ∀ l w r, pt l = some (w, r) → dep w ≤ n) {c : Nat} : ∀ {k : Nat} {acc : List Wd} {l : List Nat} {x : List Wd × List Nat}, (∀ w ∈ acc, dep w ≤ n) → pRowL pt c k acc l = some x → ∀ w ∈ x.1, dep w ≤ n
  | 0, acc, l, x, _, h => by cases h
  | k + 1, acc, l, x, ha, h => by
    rw [pRowL] at h
    split at h
    · cases h; exact ha
    · obtain ⟨l', e1, h⟩ := Option.bind_eq_some_iff.mp h
      obtain ⟨y, e2, h⟩ := Option.bind_eq_some_iff.mp h
      refine rowL_dep hp (fun w hw => ?_) h
      rcases List.mem_append.mp hw with hw | hw
      · exact ha w hw
      · rw [List.mem_singleton] at hw
        subst hw
        exact hp l' y.1 y.2 e2
theorem node_dep {pt : PT'} {n : Nat} (hp : ∀ l w r, pt l = some (w, r) → dep w ≤ n) {o c : Nat} {t : Tag} {l r : List Nat} {w : Wd} (h : pNode pt o c (fun nm ws => .node t nm ws) l = some (w, r)) : dep w ≤ n + 1 := by
  unfold pNode at h
  obtain ⟨x, e1, h⟩ := Option.bind_eq_some_iff.mp h
  split at h
  · obtain ⟨y, e2, h⟩ := Option.map_eq_some_iff.mp h
    injection h with h1 _
    subst h1
    unfold pRow at e2
    obtain ⟨z, e3, e2⟩ := Option.bind_eq_some_iff.mp e2
    unfold lim3 at e2
    split at e2
    · cases e2
      have := depL_le (rowL_dep hp (fun w hw => by cases hw) e3)
      rw [dep]; omega
    · cases e2
  · cases h
theorem var_dep {l r : List Nat} {w : Wd} (h : pVar l = some (w, r)) : dep w ≤ 1 := by
  unfold pVar at h
  obtain ⟨x, _, h⟩ := Option.map_eq_some_iff.mp h
  injection h with h _
  subst h
  rw [dep]; exact Nat.le_refl _
theorem term_dep : ∀ (f : Nat) (l : List Nat) (w : Wd) (r : List Nat), pTerm f l = some (w, r) → dep w ≤ f + 1
  | 0, l, w, r, h => by
    rw [pTerm] at h
    split at h
    · exact var_dep h
    · cases h
  | f + 1, l, w, r, h => by
    rw [pTerm] at h
    split at h
    · have := var_dep h; omega
    · exact node_dep (term_dep f) h
theorem two_dep {pt : PT'} {n : Nat} (hp : ∀ l w r, pt l = some (w, r) → dep w ≤ n) {m : List Nat} {t : Tag} {l r : List Nat} {w : Wd} (h : pTwo pt m (fun a b => .node t "" [a, b]) l = some (w, r)) : dep w ≤ n + 1 := by
  unfold pTwo at h
  obtain ⟨a, e1, h⟩ := Option.bind_eq_some_iff.mp h
  obtain ⟨r1, e2, h⟩ := Option.bind_eq_some_iff.mp h
  obtain ⟨b, e3, h⟩ := Option.bind_eq_some_iff.mp h
  obtain ⟨r2, e4, h⟩ := Option.map_eq_some_iff.mp h
  injection h with h _
  subst h
  have h1 := hp _ _ _ e1
  have h2 := hp _ _ _ e3
  simp only [dep, depL]; omega
theorem form_dep (g : Nat) : ∀ (f : Nat) (l : List Nat) (w : Wd) (r : List Nat), pForm g f l = some (w, r) → dep w ≤ f + g + 2
  | 0, l, w, r, h => by
    rw [pForm] at h
    split at h
    · cases h; unfold wNo; simp only [dep, depL]; omega
    · split at h
      · cases h
      · split at h
        · cases h
        · have := node_dep (term_dep g) h; omega
  | f + 1, l, w, r, h => by
    rw [pForm] at h
    split at h
    · cases h; unfold wNo; simp only [dep, depL]; omega
    · split at h
      · obtain ⟨x, e1, h⟩ := Option.map_eq_some_iff.mp h
        injection h with h _
        subst h
        have := form_dep g f l.tail x.1 x.2 e1
        rw [dep_wAll]; omega
      · split at h
        · unfold pPair at h
          split at h
          · have := two_dep (term_dep g) h; omega
          · have := two_dep (form_dep g f) h; omega
        · have := node_dep (term_dep g) h; omega
/-! ### a term ahead is no form ahead -/
theorem head_let {l : List Nat} (h : l.takeWhile isLet ≠ []) : ∃ c r, l = c :: r ∧ isLet c = true := by
  cases l with
  | nil => exact absurd rfl h
  | cons c r =>
    refine ⟨c, r, rfl, ?_⟩
    cases e : isLet c with
    | true => rfl
    | false => rw [List.takeWhile_cons, e] at h; exact absurd rfl h
theorem name_none {l : List Nat} (h : l.takeWhile isLet = []) : pName l = none := by
  unfold pName
  rw [h, if_neg (by decide)]
theorem node_none {pt : PT'} {o c : Nat} {mk : Str → List Wd → Wd} {l : List Nat} (h : l.takeWhile isLet = [] ∨ (l.dropWhile isLet).head? ≠ some o) : pNode pt o c mk l = none := by
  unfold pNode
  by_cases e : l.takeWhile isLet = []
  · rw [name_none e]; rfl
  · have h' := h.resolve_left e
    unfold pName
    split
    · show (if (l.dropWhile isLet).head? = some o then _ else none) = none
      rw [if_neg h']
    · rfl
theorem not_let {c : Nat} (h : c = 33 ∨ c = 42 ∨ c = 40 ∨ c = 35) : isLet c = false := by rcases h with rfl | rfl | rfl | rfl <;> decide
theorem ahead_form {g : Nat} {l : List Nat} (h : termAhead l = true) : ∀ f : Nat, pForm g f l = none := by
  have key : l.head? ≠ some 33 ∧ l.head? ≠ some 42 ∧ l.head? ≠ some 40 ∧ (l.takeWhile isLet = [] ∨ (l.dropWhile isLet).head? ≠ some 91) := by
    unfold termAhead at h
    split at h
    · rename_i e
      have h' := of_decide_eq_true h
      rw [h']
      exact ⟨by decide, by decide, by decide, .inl e⟩
    · rename_i e
      have h' := of_decide_eq_true h
      obtain ⟨c, r, rfl, hc⟩ := head_let e
      have ne : ∀ d, (d = 33 ∨ d = 42 ∨ d = 40 ∨ d = 35) → (c :: r).head? ≠ some d := fun d hd z => by
        injection z with z
        rw [z, not_let hd] at hc; cases hc
      exact ⟨ne 33 (by simp), ne 42 (by simp), ne 40 (by simp), .inr (by rw [h']; decide)⟩
  obtain ⟨k1, k2, k3, k4⟩ := key
  intro f
  cases f with
  | zero => rw [pForm, if_neg k1, if_neg k2, if_neg k3]; exact node_none k4
  | succ f => rw [pForm, if_neg k1, if_neg k2, if_neg k3]; exact node_none k4
theorem ahead_term {l : List Nat} (h : termAhead l = false) : ∀ f : Nat, pTerm f l = none := by
  have key : l.head? ≠ some 35 ∧ (l.takeWhile isLet = [] ∨ (l.dropWhile isLet).head? ≠ some 40) := by
    unfold termAhead at h
    split at h
    · rename_i e
      exact ⟨of_decide_eq_false h, .inl e⟩
    · rename_i e
      obtain ⟨c, r, rfl, hc⟩ := head_let e
      exact ⟨(fun z => by injection z with z; rw [z, not_let (by simp)] at hc; cases hc), .inr (of_decide_eq_false h)⟩
  intro f
  cases f with
  | zero => rw [pTerm, if_neg key.1]
  | succ f => rw [pTerm, if_neg key.1]; exact node_none key.2
/-! ### a row that is too long stays so -/
theorem rowL_le {pt : PT'} {c : Nat} : ∀ {k : Nat} {acc : List Wd} {l : List Nat} {x : List Wd × List Nat}, pRowL pt c k acc l = some x → acc.length ≤ x.1.length
  | 0, acc, l, x, h => by cases h
  | k + 1, acc, l, x, h => by
    rw [pRowL] at h
    split at h
    · cases h; exact Nat.le_refl _
    · obtain ⟨l', e1, h⟩ := Option.bind_eq_some_iff.mp h
      obtain ⟨y, e2, h⟩ := Option.bind_eq_some_iff.mp h
      have := rowL_le h
      rw [List.length_append, List.length_singleton] at this
      omega
theorem rowL_long {pt : PT'} {c k : Nat} {acc : List Wd} {l : List Nat} (hl : l.head? ≠ some c) (ha : acc.length = 3) : (pRowL pt c k acc l).bind lim3 = none := by
  cases e : pRowL pt c k acc l with
  | none => rfl
  | some x =>
    show lim3 x = none
    unfold lim3
    rw [if_neg]
    intro h
    cases k with
    | zero => cases e
    | succ k =>
      rw [pRowL, if_neg hl] at e
      obtain ⟨l', e1, e⟩ := Option.bind_eq_some_iff.mp e
      obtain ⟨y, e2, e⟩ := Option.bind_eq_some_iff.mp e
      have := rowL_le e
      rw [List.length_append, List.length_singleton] at this
      omega
end Sh

end
section
set_option Elab.async false
set_option linter.all false
set_option maxRecDepth 100000
set_option maxHeartbeats 4000000
namespace Sh
open PySem PySem.Spec PyProof.Rows L2
/-! ### {x!r} of a text -/
section
variable {X : Cx} {e : Expr} {te : TE} {pos : Pos}
def tFmtR (te : TE) : TE := fun σ H Q => te σ H fun v H1 => ∃ x : Str, v = .str x ∧ (PySem.reprText x).length ≤ sizeLine ∧ Q (.str (PySem.reprText x)) H1
theorem pe_fmtR (he : PE X e te) : PE X (.FormattedValue e 114 none pos) (tFmtR te) := by
  intro pins s σ H Q I h
  refine wpAny_FormattedValue_repr (thn (he pins s σ H _ I h) fun v s1 ⟨x, H1, I1, rx, y, ex, hl, q⟩ => ?_)
  subst ex
  obtain ⟨tk, rfl⟩ := rx
  exact wpAny_pyReprObj_str (formatField_str (fun t' tk' => ⟨.str _, H1, I1.tok _, ⟨_, rfl⟩, q⟩) hl) hl
end
theorem repr_le {x : Str} (hx : ∀ c ∈ x.cps.toList, c < 128) : (PySem.reprText x).length ≤ 10 * x.length + 2 := StrLaws.reprText_len x fun c hc => Nat.lt_trans (hx c hc) (by decide)
theorem num_len : ∀ p : Fin 5001, (Str.ofString (toString (p.val : Int))).length ≤ 8 := by decide +kernel
theorem log_small5 {n : Nat} (h : n ≤ 5000) : ((n : Int)).natAbs.log2 < 1920 := by
  rw [Int.natAbs_natCast]
  by_cases z : n = 0
  · subst z; decide
  · exact (Nat.log2_lt z).mpr (Nat.lt_of_le_of_lt h (Nat.lt_of_lt_of_le (show 5000 < 2 ^ 13 by decide) (Nat.pow_le_pow_right (by decide) (by decide))))
/-! ### what the text goes on with -/
theorem starts_is {T sg : Str} {p : Nat} {l : List Nat} (h : At T p l) : Txt.startswith3 T sg (p : Int) = sg.cps.toList.isPrefixOf l := by
  cases e : sg.cps.toList.isPrefixOf l with
  | true =>
    obtain ⟨b, rfl⟩ := List.isPrefixOf_iff_prefix.mp e
    exact starts_at h
  | false =>
    rw [Bool.eq_false_iff] at e ⊢
    intro z
    apply e
    have hf : fromIndex T.length (p : Int) = p := by
      unfold fromIndex
      have := h.2
      split <;> omega
    unfold Txt.startswith3 at z
    rw [hf, Bool.and_eq_true] at z
    have z2 := z.2
    unfold Builtin.Str.subAt at z2
    rw [beq_iff_eq] at z2
    have z3 := congrArg Array.toList z2
    rw [Array.toList_extract] at z3
    have z4 : (T.cps.toList.drop p).take sg.length = sg.cps.toList := by
      have : List.extract T.cps.toList p (p + sg.length) = sg.cps.toList := z3
      rw [List.extract_eq_take_drop, Nat.add_sub_cancel_left] at this
      exact this
    rw [h.1] at z4
    rw [List.isPrefixOf_iff_prefix, ← z4]
    exact List.take_prefix _ _
theorem At.drop {T : Str} {p n : Nat} {l : List Nat} (h : At T p l) (hn : n ≤ l.length) : At T (p + n) (l.drop n) := by
  have e : l = l.take n ++ l.drop n := (List.take_append_drop n l).symm
  rw [e] at h
  have g := h.go
  rw [List.length_take, Nat.min_eq_left hn] at g
  exact g
theorem At.tail {T : Str} {p c : Nat} {l : List Nat} (h : At T p l) (hc : l.head? = some c) : At T (p + 1) l.tail := by
  cases l with
  | nil => cases hc
  | cons d r => exact At.go (a := [d]) h
theorem at_mid {T : Str} {p : Nat} {m l r : List Nat} (h : At T p l) (e : mid m l = some r) : At T (p + m.length) r := by
  unfold mid at e
  split at e
  · rename_i c
    cases e
    obtain ⟨b, rfl⟩ := List.isPrefixOf_iff_prefix.mp c
    exact h.drop (by rw [List.length_append]; omega)
  · cases e
theorem tw_all (pr : Nat → Bool) : ∀ (l : List Nat), ∀ c ∈ l.takeWhile pr, pr c = true
  | [], c, h => by cases h
  | d :: l, c, h => by
    rw [List.takeWhile_cons] at h
    split at h
    · rename_i e
      rcases List.mem_cons.mp h with rfl | h
      · exact e
      · exact tw_all pr l c h
    · cases h
theorem tw_stp (pr : Nat → Bool) : ∀ l : List Nat, Stp pr (l.dropWhile pr)
  | [] => fun c r e => by cases e
  | d :: l => fun c r e => by
    rw [List.dropWhile_cons] at e
    split at e
    · exact tw_stp pr l c r e
    · rename_i h
      injection e with e _
      rw [← e]
      exact Bool.eq_false_iff.mpr h
theorem tw_at {T : Str} {p : Nat} {l : List Nat} (pr : Nat → Bool) (h : At T p l) : At T p (l.takeWhile pr ++ l.dropWhile pr) := by rw [List.takeWhile_append_dropWhile]; exact h
theorem at_low {T : Str} {p : Nat} {l : List Nat} (ok : TxOk T) (h : At T p l) : ∀ c ∈ l, c < 128 := fun c hc => ok.2 c (by rw [← h.1] at hc; exact List.mem_of_mem_drop hc)
theorem at_le {T : Str} {p : Nat} {l : List Nat} (ok : TxOk T) (h : At T p l) : l.length ≤ 5000 ∧ p ≤ 5000 := by
  have := h.len
  have := ok.1
  exact ⟨by omega, by omega⟩
theorem head_of {l : List Nat} {c : Nat} : (tS (l.take 1) = tS [c]) ↔ l.head? = some c := by
  constructor
  · intro h
    have := congrArg (fun x : Str => x.cps.toList) h
    rw [cps_tS, cps_tS] at this
    cases l with
    | nil => cases this
    | cons d r => injection this with e _; rw [e]; rfl
  · intro h
    cases l with
    | nil => cases h
    | cons d r => injection h with h; subst h; rfl
theorem head_dec {l : List Nat} {c : Nat} {x : Str} (hx : x = tS [c]) : decide (V.str (tS (l.take 1)) = V.str x) = decide (l.head? = some c) := by
  subst hx
  by_cases h : l.head? = some c
  · rw [decide_eq_true h, decide_eq_true (by rw [head_of.mpr h])]
  · rw [decide_eq_false h, decide_eq_false]
    intro z
    injection z with z
    exact h (head_of.mp z)
/-! ### promises of the reader, where it may refuse -/
def GvW (pt : PT') (C CN a : Addr) (T : Str) (l : List Nat) (H : Hp) (Q : VK) (E : XK) : Prop :=
  (∀ w r, pt l = some (w, r) → ∀ v p' H', Bt H H' a → RdAt C H' a T p' → At T p' r → Rw H' w v → Q v H') ∧ (pt l = none → ∀ H', E (.ref CN) none H')
def spXPass (C CN : Addr) : Sp := fun vs H Q E => ∃ (a : Addr) (T sg : Str) (p : Nat) (l : List Nat), vs = [.ref a, .str sg] ∧ RdAt C H a T p ∧ TxOk T ∧ At T p l ∧ sg.length ≤ 10 ∧ (∀ c ∈ sg.cps.toList, c < 128) ∧
  (∀ r, mid sg.cps.toList l = some r → ∀ H', Bt H H' a → RdAt C H' a T (p + sg.length) → At T (p + sg.length) r → Q .non H') ∧ (mid sg.cps.toList l = none → ∀ H', E (.ref CN) none H')
def spXName (C CN : Addr) : Sp := fun vs H Q E => ∃ (a : Addr) (T : Str) (p : Nat) (l : List Nat), vs = [.ref a] ∧ RdAt C H a T p ∧ TxOk T ∧ At T p l ∧
  (∀ x, pName l = some x → ∀ p' H', Bt H H' a → RdAt C H' a T p' → At T p' x.2 → Q (.str x.1) H') ∧ (pName l = none → ∀ H', E (.ref CN) none H')
def spXNum (C CN : Addr) : Sp := fun vs H Q E => ∃ (a : Addr) (T : Str) (p : Nat) (l : List Nat), vs = [.ref a] ∧ RdAt C H a T p ∧ TxOk T ∧ At T p l ∧
  (∀ x, pNum l = some x → ∀ p' H', Bt H H' a → RdAt C H' a T p' → At T p' x.2 → Q (.int x.1) H') ∧ (pNum l = none → ∀ H', E (.ref CN) none H')
def spXTerm (C CN : Addr) (d : Nat) : Sp := fun vs H Q E => ∃ (a : Addr) (T : Str) (p : Nat) (l : List Nat), vs = [.ref a] ∧ RdAt C H a T p ∧ TxOk T ∧ At T p l ∧ opn l ≤ d ∧ GvW (pTerm d) C CN a T l H Q E
def spXRow (C CN : Addr) (d : Nat) : Sp := fun vs H Q E => ∃ (a : Addr) (T : Str) (p c : Nat) (l : List Nat), vs = [.ref a, .str (tS [c])] ∧ c < 128 ∧ RdAt C H a T p ∧ TxOk T ∧ At T p l ∧ opn l ≤ d ∧
  (∀ x, pRow (pTerm d) c l = some x → ∀ t xs p' H', Bt H H' a → RdAt C H' a T p' → At T p' x.2 → H' t = some (.tup xs) → Rws H' x.1 xs → Q (.ref t) H') ∧ (pRow (pTerm d) c l = none → ∀ H', E (.ref CN) none H')
def spXForm (C CN : Addr) (g f : Nat) : Sp := fun vs H Q E => ∃ (a : Addr) (T : Str) (p : Nat) (l : List Nat), vs = [.ref a] ∧ RdAt C H a T p ∧ TxOk T ∧ At T p l ∧ opn l ≤ f ∧ opn l ≤ g ∧ GvW (pForm g f) C CN a T l H Q E
def spXPair (C CN : Addr) (g f : Nat) : Sp := fun vs H Q E => ∃ (a : Addr) (T : Str) (p : Nat) (l : List Nat), vs = [.ref a] ∧ RdAt C H a T p ∧ TxOk T ∧ At T p l ∧ l.head? = some 40 ∧ opn l.tail ≤ f ∧ opn l.tail ≤ g ∧ GvW (fun l => pPair (pTerm g) (pForm g f) l.tail) C CN a T l H Q E
def spXAhead (C : Addr) : Sp := fun vs H Q _ => ∃ (a : Addr) (T : Str) (p : Nat) (l : List Nat), vs = [.ref a] ∧ RdAt C H a T p ∧ TxOk T ∧ At T p l ∧ Q (.bl (termAhead l)) H
section
variable [Inn]
/-- the whole text is a form, or none -/
def pText (n : Nat) (l : List Nat) : Option Wd := (pForm n n l).bind fun x => if x.2 = [] then some x.1 else none
def spXRead (CN : Addr) (n : Nat) : Sp := fun vs H Q E => ∃ (T : Str), vs = [.str T] ∧ TxOk T ∧ opn T.cps.toList ≤ n ∧ (∀ w, pText n T.cps.toList = some w → ∀ v H', Same H H' → Rw H' w v → Q v H') ∧ (pText n T.cps.toList = none → ∀ H', E (.ref CN) none H')
end
end Sh

end
section
set_option Elab.async false
set_option linter.all false
set_option maxRecDepth 100000
set_option maxHeartbeats 4000000
namespace Sh
open PySem PySem.Spec PyProof.Rows L2
section
variable {X : Cx} {R : Value → L2.St → Hp → Prop} {C : Addr} {m : Str} {ps : List Str} {k j : Nat} {sp : Sp} {dvs : List V} {pos apos : Pos} {o : Expr} {ta : TE}
/-- o.m(), the method may raise -/
theorem pe_mokX0 {pl : Sem Bool} (G : MOk (CX1 X.prog X.w) X.prog X.w X.K X.mg X.base C m ps k sp dvs) (c : Cls X.K C) (hex : X.ex = []) (hr : Room j X.A) (hk : k ≤ j) (he : PE (X.wish (XS X R)) o ta)
    (ht : eval (.Call (.Attribute o m apos) [] [] pos) X.env = (do
      let ov ← eval o X.env
      standAt apos.atName
      let (f, first) ← holding [ov] (getMethod ov m pl)
      callWith pos f first (backTo pos (starEach [] X.env)) (backToKw pos (keywordEach [] X.env))) := by rfl) : PE (X.wish (XS X R)) (.Call (.Attribute o m apos) [] [] pos) (tMethX C m sp [] R ta tNil) := by
  obtain ⟨f, fd, ds, F, b, b', hd, hm⟩ := G
  exact pe_meth0X he c hm F hex (hr.mono hk) b .nil ht
end
/-- a class by its name alone -/
structure BCls (mg : Str → Option Value) (x : Str) (C : Addr) : Prop where
  bound : mg x = some (.ref C)
theorem cutR {C X G : Prop} (h : (C → X) → G) (r : C → X) : G := h r
theorem ulen1 {us : List Value} (h : us.length = 1) : ∃ a, us = [a] := match us, h with
  | [a], _ => ⟨a, rfl⟩
theorem ulen2 {us : List Value} (h : us.length = 2) : ∃ a b, us = [a, b] := match us, h with
  | [a, b], _ => ⟨a, b, rfl⟩
theorem ulen3 {us : List Value} (h : us.length = 3) : ∃ a b c, us = [a, b, c] := match us, h with
  | [a, b, c], _ => ⟨a, b, c, rfl⟩
theorem bs2 {a b : Str} (ha : a.length ≤ 20000) (hb : b.length ≤ 20000) : a.length + b.length ≤ sizeLine := by rw [sizeLine_eq]; omega
theorem bs3 {a b c : Str} (ha : a.length ≤ 20000) (hb : b.length ≤ 20000) (hc : c.length ≤ 20000) : (a ++ b).length + c.length ≤ sizeLine := by rw [sizeLine_eq, str_add_len]; omega
theorem bs4 {a b c d : Str} (ha : a.length ≤ 20000) (hb : b.length ≤ 20000) (hc : c.length ≤ 20000) (hd : d.length ≤ 20000) : ((a ++ b) ++ c).length + d.length ≤ sizeLine := by rw [sizeLine_eq, str_add_len, str_add_len]; omega
theorem bs5 {a b c d e : Str} (ha : a.length ≤ 20000) (hb : b.length ≤ 20000) (hc : c.length ≤ 20000) (hd : d.length ≤ 20000) (he : e.length ≤ 20000) : (((a ++ b) ++ c) ++ d).length + e.length ≤ sizeLine := by rw [sizeLine_eq, str_add_len, str_add_len, str_add_len]; omega
/-! ### a row of texts -/
section
variable {X : Cx}
def cstr : PySem.Expr → Option Str
  | .Constant (.str x) _ _ => some x
  | _ => none
def tCs (xs : List Str) : TA := fun _ H Q => Q (xs.map V.str) H
theorem pa_cstrs : ∀ {es : List PySem.Expr} {xs : List Str}, es.map cstr = xs.map some → PA X es (tCs xs)
  | [], [], _ => pa_nil
  | [], x :: xs, h => by cases h
  | e :: es, [], h => by cases h
  | e :: es, x :: xs, h => by
    rw [List.map_cons, List.map_cons] at h
    injection h with h1 h2
    have ih := pa_cstrs h2
    cases e with
    | Constant c i p =>
      cases c with
      | str y =>
        have e1 : y = x := Option.some.inj h1
        subst e1
        exact pa_cons pe_str ih
      | _ => cases h1
    | _ => cases h1
end
/-! ### what a refusal says is short -/
theorem rep1 {x : Str} (hx : ∀ c ∈ x.cps.toList, c < 128) (hl : x.length ≤ 5000) : (PySem.reprText x).length ≤ sizeLine := by
  have := repr_le hx
  rw [sizeLine_eq]; omega
theorem rep2 {x : Str} (hx : ∀ c ∈ x.cps.toList, c < 128) (hl : x.length ≤ 5000) : (Str.empty ++ PySem.reprText x).length ≤ sizeLine := by
  have := repr_le hx
  rw [str_add_len, show Str.empty.length = 0 from rfl, sizeLine_eq]; omega
theorem rep3 {x y : Str} (hx : ∀ c ∈ x.cps.toList, c < 128) (hl : x.length ≤ 5000) (hy : y.length ≤ 100) : ((Str.empty ++ PySem.reprText x) ++ y).length ≤ sizeLine := by
  have := repr_le hx
  rw [str_add_len, str_add_len, show Str.empty.length = 0 from rfl, sizeLine_eq]; omega
theorem rep4 {x y z : Str} (hx : ∀ c ∈ x.cps.toList, c < 128) (hl : x.length ≤ 5000) (hy : y.length ≤ 100) (hz : z.length ≤ 100) : (((Str.empty ++ PySem.reprText x) ++ y) ++ z).length ≤ sizeLine := by
  have := repr_le hx
  rw [str_add_len, str_add_len, str_add_len, show Str.empty.length = 0 from rfl, sizeLine_eq]; omega
theorem num_len5 {p : Nat} (h : p ≤ 5000) : (Str.ofString (toString (p : Int))).length ≤ 100 := Nat.le_trans (num_len ⟨p, by omega⟩) (by decide)
/-! ### one sign -/
theorem mid1 {c : Nat} {l : List Nat} : mid [c] l = if l.head? = some c then some l.tail else none := by
  cases l with
  | nil => rfl
  | cons d r =>
    unfold mid
    by_cases h : c = d
    · subst h
      simp [List.isPrefixOf]
    · have h' : ¬ d = c := fun e => h e.symm
      simp [List.isPrefixOf, h, h']
theorem tw_nil {pr : Nat → Bool} {l : List Nat} : V.str (tS (l.takeWhile pr)) = V.str "" ↔ l.takeWhile pr = [] := by
  constructor
  · intro z
    injection z with z
    have := congrArg (fun x : Str => x.cps.toList) z
    rw [cps_tS] at this
    exact this
  · intro z
    rw [z]; rfl
theorem tw_low {T : Str} {p : Nat} {l : List Nat} {pr : Nat → Bool} (ok : TxOk T) (h : At T p l) : (∀ c ∈ (tS (l.takeWhile pr)).cps.toList, c < 128) ∧ (tS (l.takeWhile pr)).length ≤ 5000 := by
  refine ⟨fun c hc => ?_, ?_⟩
  · rw [cps_tS] at hc
    exact at_low ok h c ((List.takeWhile_sublist pr).subset hc)
  · rw [len_tS]
    exact Nat.le_trans (List.takeWhile_sublist pr).length_le (at_le ok h).1
/-! ### rows -/
def RowI (C a pl : Addr) (T : Str) (d c : Nat) (l : List Nat) (H : Hp) (m : Nat) (H1 : Hp) : Prop := Bt H H1 a ∧ ∃ pos l' ws xs k, m = l'.length ∧ RdAt C H1 a T pos ∧ At T pos l' ∧ l' <:+ l ∧ l'.length < k ∧ ws.length + l'.length ≤ l.length ∧ H1 pl = some (.lst xs) ∧ Rws H1 ws xs ∧
  pRowL (pTerm d) c (l.length + 1) [] l = pRowL (pTerm d) c k ws l'
theorem rowL_step {pt : PT'} {c k : Nat} {ws : List Wd} {l : List Nat} (hk : l.length < k) (hc : ¬ l.head? = some c) : ∃ k', k = k' + 1 ∧ pRowL pt c k ws l = (sepd ws l).bind fun l2 => (pt l2).bind fun x => pRowL pt c k' (ws ++ [x.1]) x.2 := by
  cases k with
  | zero => omega
  | succ k => exact ⟨k, rfl, by rw [pRowL, if_neg hc]⟩
theorem rowL_done {pt : PT'} {c k : Nat} {ws : List Wd} {l : List Nat} (hk : l.length < k) (hc : l.head? = some c) : pRowL pt c k ws l = some (ws, l.tail) := by
  cases k with
  | zero => omega
  | succ k => rw [pRowL, if_pos hc]
theorem sepd_suf {ws : List Wd} {l r : List Nat} (h : sepd ws l = some r) : r <:+ l := by
  unfold sepd at h
  split at h
  · cases h; exact List.suffix_refl _
  · split at h
    · cases h; exact List.tail_suffix _
    · cases h
/-! ### slices of the rest -/
theorem mid_take {m l : List Nat} : mid m l = if l.take m.length = m then some (l.drop m.length) else none := by
  unfold mid
  by_cases h : l.take m.length = m
  · rw [if_pos h, if_pos]
    rw [List.isPrefixOf_iff_prefix, ← h]
    exact List.take_prefix _ _
  · rw [if_neg h, if_neg]
    intro z
    obtain ⟨b, rfl⟩ := List.isPrefixOf_iff_prefix.mp z
    exact h List.take_left
theorem tS_inj {a b : List Nat} (h : V.str (tS a) = V.str (tS b)) : a = b := by
  injection h with h
  have := congrArg (fun x : Str => x.cps.toList) h
  rw [cps_tS, cps_tS] at this
  exact this
theorem mid_dec {m l : List Nat} {x : Str} (hx : x = tS m) : decide (V.str (tS (l.take m.length)) = V.str x) = (mid m l).isSome := by
  subst hx
  rw [mid_take]
  by_cases h : l.take m.length = m
  · rw [if_pos h, decide_eq_true (by rw [h])]; rfl
  · rw [if_neg h, decide_eq_false fun z => h (tS_inj z)]; rfl
/-! ### promises of the law's own reading -/
section
variable [Inn]
def AtW (pt : PT') (T : Str) (l : List Nat) (H : Hp) (Q : VK) : Prop :=
  (∀ w r, pt l = some (w, r) → ∀ b v p' H', Same H H' → H' b = some (.tup [v, .int (p' : Nat)]) → Rw H' w v → At T p' r → Q (.ref b) H') ∧ (pt l = none → ∀ H', Same H H' → Q .non H')
def spLRun : Sp := fun vs H Q _ => ∃ (T sg : Str) (p : Nat) (l : List Nat) (pr : Nat → Bool), vs = [.str T, .int (p : Nat), .str sg] ∧ TxOk T ∧ At T p l ∧ (∀ c, c < 128 → inS sg c = pr c) ∧ Q (.int (p + (l.takeWhile pr).length : Nat)) H
def spTermAt (d : Nat) : Sp := fun vs H Q _ => ∃ (T : Str) (p : Nat) (l : List Nat), vs = [.str T, .int (p : Nat)] ∧ TxOk T ∧ At T p l ∧ opn l ≤ d ∧ AtW (pTerm d) T l H Q
def spPartsAt (d : Nat) : Sp := fun vs H Q _ => ∃ (T : Str) (p c : Nat) (l : List Nat), vs = [.str T, .int (p : Nat), .str (tS [c])] ∧ c < 128 ∧ TxOk T ∧ At T p l ∧ opn l ≤ d ∧
  (∀ x, pRow (pTerm d) c l = some x → ∀ b t xs p' H', Same H H' → H' b = some (.tup [.ref t, .int (p' : Nat)]) → H' t = some (.tup xs) → Rws H' x.1 xs → At T p' x.2 → Q (.ref b) H') ∧ (pRow (pTerm d) c l = none → ∀ H', Same H H' → Q .non H')
def spFormAt (g f : Nat) : Sp := fun vs H Q _ => ∃ (T : Str) (p : Nat) (l : List Nat), vs = [.str T, .int (p : Nat)] ∧ TxOk T ∧ At T p l ∧ opn l ≤ f ∧ opn l ≤ g ∧ AtW (pForm g f) T l H Q
def spTwoAt (g f : Nat) : Sp := fun vs H Q _ => ∃ (T : Str) (p : Nat) (l : List Nat), vs = [.str T, .int (p : Nat)] ∧ TxOk T ∧ At T p l ∧ opn l ≤ f ∧ opn l ≤ g ∧ AtW (fun l => pPair (pTerm g) (pForm g f) l) T l H Q
def spOdd : Sp := fun vs H Q _ => ∃ c : Int, vs = [.int c] ∧ ∀ T H', Same H H' → TxOk T → opn T.cps.toList ≤ 52 → Q (.str T) H'
def spSign : Sp := fun vs H Q _ => ∃ c : Int, vs = [.int c] ∧ ∀ d : Nat, d < 128 → Q (.str (tS [d])) H
def spLRef (n : Nat) : Sp := fun vs H Q _ => ∃ T : Str, vs = [.str T] ∧ TxOk T ∧ opn T.cps.toList ≤ n ∧ pText n T.cps.toList = none ∧ ∀ H', Q (.bl true) H'
end
/-! ### names, how often a bracket or a star stands in a text -/
theorem slice_to {x : Str} (n : Nat) : Txt.slice x none (some (n : Int)) = tS (x.cps.toList.take n) := by
  have e : Builtin.Str.strSliceIndices none (some (n : Int)) 1 x.length = sliceRange (0 : Nat) (min n x.length : Nat) 1 := by
    unfold Builtin.Str.strSliceIndices
    have h2 : ¬ ((n : Int) < 0) := by omega
    simp only [h2, if_false, show (1 : Int) > 0 by decide, if_true]
    congr 1
    omega
  rw [slice_cut e (Nat.zero_le _) (Nat.min_le_right _ _), List.drop_zero, Nat.sub_zero]
  by_cases h : n ≤ x.length
  · rw [Nat.min_eq_left h]
  · rw [Nat.min_eq_right (by omega), ← len_cps, List.take_length, List.take_of_length_le (by rw [len_cps]; omega)]
theorem slice_from {x : Str} {n : Nat} (hn : n ≤ x.length) : Txt.slice x (some (n : Int)) none = tS (x.cps.toList.drop n) := by
  have e : Builtin.Str.strSliceIndices (some (n : Int)) none 1 x.length = sliceRange (n : Nat) (x.length : Nat) 1 := by
    unfold Builtin.Str.strSliceIndices
    have h2 : ¬ ((n : Int) < 0) := by omega
    simp only [h2, if_false, show (1 : Int) > 0 by decide, if_true]
    congr 1
    omega
  rw [slice_cut e hn (Nat.le_refl _), List.take_of_length_le]
  rw [List.length_drop, len_cps]; omega
theorem name_cut {x : Str} (h : IsName x) : IsName (Txt.slice x none (some 4)) := by
  have e := slice_to (x := x) 4
  have e' : Txt.slice x none (some 4) = tS (x.cps.toList.take 4) := e
  rw [e']
  have h1 := h.1
  have h2 := h.2.1
  refine ⟨?_, ?_, fun c hc => ?_⟩
  · rw [len_tS, List.length_take, len_cps]; omega
  · rw [len_tS, List.length_take, len_cps]; omega
  · rw [cps_tS] at hc
    exact h.2.2 c (List.mem_of_mem_take hc)
theorem opn_app (a b : List Nat) : opn (a ++ b) = opn a + opn b := List.countP_append
theorem opn_cons (c : Nat) (l : List Nat) : opn (c :: l) = (if c = 40 ∨ c = 42 then 1 else 0) + opn l := by
  unfold opn
  rw [List.countP_cons]
  by_cases h : c = 40 ∨ c = 42
  · rw [if_pos h, if_pos (by simpa using h)]; omega
  · rw [if_neg h, if_neg (by simpa using h)]; omega
theorem opn_0 {l : List Nat} (h : ∀ c ∈ l, c ≠ 40 ∧ c ≠ 42) : opn l = 0 := by
  unfold opn
  rw [List.countP_eq_zero]
  intro c hc
  have := h c hc
  simp [this.1, this.2]
theorem opn_name {nm : Str} (h : IsName nm) : opn nm.cps.toList = 0 := opn_0 fun c hc => by
  have := h.2.2 c hc
  omega
theorem opn_dig {n : Int} (h0 : 0 ≤ n) (h1 : n < 1000) : opn (dig n) = 0 := opn_0 fun c hc => by
  have := (dig_all n h0 h1).2.1 c hc
  unfold isFig at this
  simp at this
  omega
theorem opn_rows {k : Nat} : ∀ {ws : List Wd}, (∀ w ∈ ws, opn (sh w) ≤ k) → opn (shR ws) ≤ ws.length * k ∧ opn (shT ws) ≤ ws.length * k
  | [], _ => ⟨by rw [shR]; exact Nat.zero_le _, by rw [shT]; exact Nat.zero_le _⟩
  | w :: r, h => by
    have h1 := h w (List.mem_cons_self ..)
    obtain ⟨_, i2⟩ := opn_rows (ws := r) fun u hu => h u (List.mem_cons_of_mem _ hu)
    have e : (w :: r).length * k = r.length * k + k := by rw [List.length_cons, Nat.succ_mul]
    rw [e]
    refine ⟨?_, ?_⟩
    · rw [shR, opn_app]; omega
    · rw [shT, opn_cons, opn_app, if_neg (by decide)]; omega
theorem opn_t0 {w : Wd} (h : IsTerm 0 w) : opn (sh w) = 0 := by
  cases w with
  | var n =>
    have h' : 0 ≤ n ∧ n < 1000 := h
    rw [sh, opn_cons, if_neg (by decide), opn_dig h'.1 h'.2]
  | node t nm ps => simp only [IsTerm] at h
theorem opn_ts {d k : Nat} (ih : ∀ w, IsTerm d w → opn (sh w) ≤ k) {w : Wd} (h : IsTerm (d + 1) w) : opn (sh w) ≤ 3 * k + 1 := by
  cases w with
  | var n =>
    have h' : 0 ≤ n ∧ n < 1000 := h
    rw [sh, opn_cons, if_neg (by decide), opn_dig h'.1 h'.2]; omega
  | node t nm ps =>
    simp only [IsTerm] at h
    obtain ⟨rfl, hn, h3, hps⟩ := h
    have es : sh (.node .fn nm ps) = nm.cps.toList ++ 40 :: (shR ps ++ [41]) := by simp only [sh]
    have h1 := (opn_rows (ws := ps) (k := k) fun u hu => ih u (hps u hu)).1
    have h2 : ps.length * k ≤ 3 * k := Nat.mul_le_mul_right k h3
    rw [es, opn_app, opn_cons, opn_app, opn_name hn, if_pos (by decide), show opn [41] = 0 from rfl]
    omega
theorem opn_t2 {w : Wd} (h : IsTerm 2 w) : opn (sh w) ≤ 4 := opn_ts (k := 1) (fun u hu => opn_ts (k := 0) (fun v hv => Nat.le_of_eq (opn_t0 hv)) hu) h
theorem opn_form : ∀ {d : Nat} {w : Wd}, IsForm d w → opn (sh w) + 1 ≤ 13 * 2 ^ d
  | d, .var n, h => by simp only [IsForm] at h
  | d, .node t nm ps, h => by
    have hp := Nat.one_le_two_pow (n := d)
    cases t with
    | fn => simp only [IsForm] at h
    | no =>
      have es : sh (.node .no nm ps) = [33] := by simp only [sh]
      rw [es, show opn [33] = 0 from rfl]; omega
    | rel =>
      simp only [IsForm] at h
      obtain ⟨hn, h3, hps⟩ := h
      have es : sh (.node .rel nm ps) = nm.cps.toList ++ 91 :: (shR ps ++ [93]) := by simp only [sh]
      have h1 := (opn_rows (ws := ps) (k := 4) fun u hu => opn_t2 (hps u hu)).1
      rw [es, opn_app, opn_cons, opn_app, opn_name hn, if_neg (by decide), show opn [93] = 0 from rfl]
      omega
    | same =>
      simp only [IsForm] at h
      obtain ⟨rfl, x, y, rfl, hx, hy⟩ := h
      have es : sh (.node .same "" [x, y]) = 40 :: (sh x ++ ([32, 61, 32] ++ (sh y ++ [41]))) := by simp [sh, shM, shR, shT]
      have h1 := opn_t2 hx
      have h2 := opn_t2 hy
      rw [es, opn_cons, opn_app, opn_app, opn_app, if_pos (by decide), show opn [32, 61, 32] = 0 from rfl, show opn [41] = 0 from rfl]
      omega
    | all =>
      cases d with
      | zero => simp only [IsForm] at h
      | succ d =>
        simp only [IsForm] at h
        obtain ⟨rfl, x, rfl, hx⟩ := h
        have es : sh (.node .all "" [x]) = 42 :: sh x := by simp [sh, shR, shT]
        have h1 := opn_form hx
        rw [es, opn_cons, if_pos (by decide), Nat.pow_succ]
        have := Nat.one_le_two_pow (n := d)
        omega
    | cond =>
      cases d with
      | zero => simp only [IsForm] at h
      | succ d =>
        simp only [IsForm] at h
        obtain ⟨rfl, x, y, rfl, hx, hy⟩ := h
        have es : sh (.node .cond "" [x, y]) = 40 :: (sh x ++ ([32, 62, 32] ++ (sh y ++ [41]))) := by simp [sh, shM, shR, shT]
        have h1 := opn_form hx
        have h2 := opn_form hy
        rw [es, opn_cons, opn_app, opn_app, opn_app, if_pos (by decide), show opn [32, 62, 32] = 0 from rfl, show opn [41] = 0 from rfl, Nat.pow_succ]
        omega
/-! ### a comprehension that writes words -/
section
variable [Inn]
def LcT (H1 : Hp) (ps : List Wd) (i : Nat) (L : Addr) (H2 : Hp) : Prop := H1 L = none ∧ Same H1 H2 ∧ H2 L = some (.lst (((ps.take i).map fun w => tS (sh w)).map V.str))
theorem lct_0 {H1 : Hp} {ps : List Wd} (L : Addr) (hL : H1 L = none) : LcT H1 ps 0 L (upd H1 L (.lst [])) := ⟨hL, same_new hL _, by rw [List.take_zero]; exact upd_same⟩
theorem lct_s {H1 H2 H3 : Hp} {ps : List Wd} {i : Nat} {L : Addr} {u : Wd} (hP : LcT H1 ps i L H2) (hu : ps[i]? = some u) (hk : ps.length ≤ 1000) (s3 : Same H2 H3) : rAppend (.ref L) [.str (tS (sh u))] H3 fun _ H4 => LcT H1 ps (i + 1) L H4 := by
  obtain ⟨hL, s2, hz⟩ := hP
  have hz3 := s3.at hz
  refine ⟨L, _, _, rfl, rfl, hz3, ?_, hL, same_own (s2.trans s3) hL hz3 _, ?_⟩
  · rw [sizeLine_eq, List.length_map, List.length_map, List.length_take]; omega
  · rw [List.take_succ, hu, Option.toList, List.map_append, List.map_append]
    exact upd_same
end
theorem sum_len : ∀ us : List Wd, ((us.map fun w => tS (sh w)).map (·.length)).sum ≤ (shT us).length
  | [] => by simp
  | u :: r => by
    have ih := sum_len r
    rw [List.map_cons, List.map_cons, List.sum_cons, len_tS, shT, List.length_cons, List.length_append]
    omega
theorem join_sum {ws : List Wd} {d : Nat} (hT : ∀ w ∈ ws, IsTerm d w) (hk : knotsL ws ≤ 1000) : ((ws.map fun w => tS (sh w)).map (·.length)).sum + (ws.map fun w => tS (sh w)).length * (" " : Str).length ≤ sizeLine := by
  have h1 := sum_len ws
  have h3 := shT_len (ws := ws) (herL_of fun w hw => nice_term (hT w hw))
  have h4 := len_le_knotsL ws
  rw [sizeLine_eq, List.length_map, show (" " : Str).length = 1 from rfl]
  omega
/-! ### what is picked out of a list or a text -/
def okV : V → Bool
  | .str T => decide (T.length ≤ 5000) && T.cps.toList.all (fun c => decide (c < 128)) && decide (opn T.cps.toList ≤ 52)
  | _ => false
theorem pick_at {α : Type} {xs : List α} (h : 0 < xs.length) (c : Int) : ∃ v ∈ xs, atI xs (c % (xs.length : Int)) = some v := by
  have h0 := Int.emod_nonneg c (show (xs.length : Int) ≠ 0 by omega)
  have h1 := Int.emod_lt_of_pos c (show (0 : Int) < (xs.length : Int) by omega)
  generalize c % (xs.length : Int) = m at h0 h1
  obtain ⟨n, rfl⟩ : ∃ n : Nat, m = (n : Int) := ⟨m.toNat, by omega⟩
  have lt : n < xs.length := by omega
  exact ⟨xs[n], List.getElem_mem lt, atI_nat (List.getElem?_eq_getElem lt)⟩
theorem odd_pick {K : PySem.W.Frag} {H : Hp} {p : Addr} {xs : List V} (_ : SqL K H p xs) (h : 0 < xs.length) (hx : xs.all okV = true) (c : Int) : ∃ T : Str, atI xs (c % (xs.length : Int)) = some (.str T) ∧ TxOk T ∧ opn T.cps.toList ≤ 52 := by
  obtain ⟨v, hv, e⟩ := pick_at h c
  have hv' := List.all_eq_true.mp hx v hv
  cases v with
  | str T =>
    unfold okV at hv'
    rw [Bool.and_eq_true, Bool.and_eq_true] at hv'
    obtain ⟨⟨a1, a2⟩, a3⟩ := hv'
    exact ⟨T, e, ⟨of_decide_eq_true a1, fun c hc => of_decide_eq_true (List.all_eq_true.mp a2 c hc)⟩, of_decide_eq_true a3⟩
  | _ => cases hv'
theorem sign_pick (T : Str) (h : 0 < T.cps.toList.length) (hx : T.cps.toList.all (fun c => decide (c < 128)) = true) (c : Int) : ∃ d : Nat, atI T.cps.toList (c % (T.cps.toList.length : Int)) = some d ∧ d < 128 := by
  obtain ⟨v, hv, e⟩ := pick_at h c
  exact ⟨v, e, of_decide_eq_true (List.all_eq_true.mp hx v hv)⟩
/-! ### a text with one sign changed -/
theorem opn_sub {a b : List Nat} (h : a.Sublist b) : opn a ≤ opn b := h.countP_le
theorem opn_le_len (l : List Nat) : opn l ≤ l.length := List.countP_le_length
theorem chg_ok {l sg : List Nat} {n m : Nat} (hl : ∀ c ∈ l, c < 128) (hs : ∀ c ∈ sg, c < 128) (hlen : l.length ≤ 4000) (hsl : sg.length ≤ 1) (hnm : n ≤ m) (ho : opn l ≤ 51) : TxOk ((tS (l.take n) ++ tS sg) ++ tS (l.drop m)) ∧ opn ((tS (l.take n) ++ tS sg) ++ tS (l.drop m)).cps.toList ≤ 52 := by
  have e : ((tS (l.take n) ++ tS sg) ++ tS (l.drop m)) = tS (l.take n ++ sg ++ l.drop m) := by rw [tS_app, tS_app]
  have sub : (l.take n ++ l.drop m).Sublist l := by
    have h1 : (l.drop m).Sublist (l.drop n) := by
      rw [show m = n + (m - n) by omega, ← List.drop_drop]
      exact List.drop_sublist _ _
    have h2 := List.Sublist.append (List.Sublist.refl (l.take n)) h1
    rwa [List.take_append_drop] at h2
  have h1 := opn_sub sub
  have h2 := sub.length_le
  rw [opn_app] at h1
  rw [List.length_append] at h2
  have h3 := opn_le_len sg
  rw [e]
  refine ⟨⟨?_, fun c hc => ?_⟩, ?_⟩
  · rw [len_tS, List.length_append, List.length_append]; omega
  · rw [cps_tS, List.mem_append, List.mem_append] at hc
    rcases hc with (hc | hc) | hc
    · exact hl c (List.mem_of_mem_take hc)
    · exact hs c hc
    · exact hl c (List.mem_of_mem_drop hc)
  · rw [cps_tS, opn_app, opn_app]; omega
theorem form_txt {d : Nat} {w : Wd} (h : IsForm d w) (hd : d ≤ 2) : (∀ c ∈ sh w, c < 128) ∧ (sh w).length ≤ 3300 ∧ 0 < (sh w).length ∧ opn (sh w) ≤ 51 ∧ knots w ≤ 163 := by
  have h2 := h.mono hd
  have hk := h2.knots
  have ho := opn_form h2
  have hs := sh_len (nice_form h2)
  obtain ⟨A, c, l, e, _⟩ := head_form h2
  refine ⟨sh_low (nice_form h2), by omega, ?_, by omega, by omega⟩
  rw [e, List.length_append, List.length_cons]; omega
/-- the same from a frag that names its tables too, where no def makes another -/
theorem walk_Z {l : PySem.W.OpenLaw} {k : Nat} {q : Program} {loose : List Str} {XP : (Str → Option Value) → Heap → Prop} {d : DefRec} {K : Params → PySem.W.Frag} {x : Str}
    (hn : l.most = some 63) (hdf : d.params.defaults = []) (hr : Room k callerA)
    (F : ∀ (w : World) (mg : Str → Option Value) (fa : Addr) (h : Heap), (K w.params).In h → h.Ns mainGlobals mg → mg d.name = some (.ref fa) →
      ∃ (fd : FuncData) (tabs : List (Addr × Addr)) (sp : Sp), tabs = [] ∧ (∀ (s : Shared) (u : Value), BindsTo s fd ⟨[u], []⟩ [(x, u)]) ∧ (∀ t ∈ tabs, ∃ y r, TabK (K w.params) y t.1 t.2 ∧ (recsOf q).find? (fun e => e.name == y) = some r) ∧
        (∀ base : Heap, (K w.params).In base → base.Ns mainGlobals mg → (∀ t ∈ tabs, Tab base mg t.1 t.2) → FnOk l.prog w (K w.params) mg base CX0 k fa fd [x] sp) ∧
        ∀ (H : Hp) (a : Addr) (ns : List Int), ns.length ≤ 63 → SqL (K w.params) H a (ns.map V.int) → (∀ t ∈ tabs, H t.2 = some (.tbl #[])) → sp [.ref a] H (fun v _ => v = .bl true) fun _ _ _ => False) :
    PySem.W.WalkO q loose XP (fun w h => (K w.params).In h) l.row.toRowW d [] (fun f vs => PySem.call f vs) := by
  refine Att.attach_call hn hdf fun w s₀ s₁ mg mb fa o pm cd doc a vs ns G Y ho hd hcd hmg hobj hints hlen hg => ?_
  have KX : (K w.params).In s₁.heap := Y
  obtain ⟨fd, tabs, sp, ht, hb, hT, hF, hS⟩ := F w mg fa _ KX G.T.g hmg
  subst ht
  exact law_call KX G.T.g G.T.b G.T.builtins G.T.nolimit hg hobj hints (Nat.le_trans hlen (by decide)) hr (fun base h1 h2 => hF base h1 h2 fun t h => by cases h) hb (fun H _ h1 => hS H a ns hlen h1 fun t h => by cases h) fun _ _ _ z => z
/-! ### small sums, each said once -/
theorem lenI (l : List Nat) : ((tS l).length : Int) = (l.length : Int) := congrArg Nat.cast (len_tS l)
theorem pmI (p n : Nat) : ((p + n : Nat) : Int) - (p : Int) = (n : Int) := by omega
theorem leI {i : Int} {m b : Nat} (e : i = m) (h : (!decide (i ≤ (b : Int))) = true) : decide (m ≤ b) = false := decide_eq_false fun z => by
  rw [decide_eq_true (show i ≤ (b : Int) by omega)] at h
  cases h
theorem leI' {i : Int} {m b : Nat} (e : i = m) (h : ¬ (!decide (i ≤ (b : Int))) = true) : m ≤ b := by
  cases d : decide (i ≤ (b : Int)) with
  | true => have := of_decide_eq_true d; omega
  | false => exact absurd (by rw [d]; rfl) h
theorem nilI {α : Type} {i : Int} {s : List α} (e : i = s.length) (h : ¬ (1 : Int) ≤ i) : s = [] := List.eq_nil_of_length_eq_zero (by omega)
theorem nil0 {α β : Type} {r : List α} {s : List β} (e : r.length = s.length) (h : ¬ (0 : Int) < (r.length : Int)) : s = [] := List.eq_nil_of_length_eq_zero (by omega)
theorem nm_long {i : Int} {s : List Nat} (e : i = s.length) (h : (!decide (i ≤ ((12 : Nat) : Int))) = true) : nmOk s = false := by
  unfold nmOk
  rw [leI e h, Bool.and_false]
theorem nm_good {i : Int} {s : List Nat} (e : i = s.length) (h1 : (1 : Int) ≤ i) (h : ¬ (!decide (i ≤ ((12 : Nat) : Int))) = true) : nmOk s = true := by
  cases s with
  | nil => rw [e] at h1; exact absurd h1 (by decide)
  | cons c r => exact decide_eq_true (leI' e h)
theorem nm_nil {i : Int} {s : List Nat} (e : i = s.length) (h : ¬ (1 : Int) ≤ i) : nmOk s = false := by rw [nilI e h]; rfl
theorem num_long {i : Int} {s : List Nat} (e : i = s.length) (h : (!decide (i ≤ ((3 : Nat) : Int))) = true) : numOk s = false := by
  unfold numOk
  rw [leI e h, Bool.and_false, Bool.false_and]
theorem num_nil {i : Int} {s : List Nat} (e : i = s.length) (h : ¬ (1 : Int) ≤ i) : numOk s = false := by rw [nilI e h]; rfl
theorem num_zero {i : Int} {s r : List Nat} (e : i = s.length) (ec : s = 48 :: r) (h : (1 : Int) < i) : numOk s = false := by
  subst ec
  cases r with
  | nil => rw [e] at h; exact absurd h (Int.lt_irrefl 1)
  | cons y ys => unfold numOk; simp
theorem num_one {i : Int} {x : Nat} {s r : List Nat} (e : i = s.length) (ec : s = x :: r) (h : ¬ (1 : Int) < i) : numOk s = true := by
  subst ec
  cases r with
  | nil => rfl
  | cons y ys => rw [List.length_cons, List.length_cons] at e; omega
theorem num_two {x : Nat} {s r : List Nat} (ec : s = x :: r) (h3 : s.length ≤ 3) (n48 : x ≠ 48) : numOk s = true := by
  unfold numOk
  rw [decide_eq_true h3, ec]
  simp [n48]
theorem few {α β : Type} {xs : List α} {ws : List β} (e : xs.length = ws.length) (h : ws.length ≤ 9999) : xs.length + 1 ≤ sizeLine := big (by omega)
theorem gt3 {α β : Type} {xs : List α} {ws : List β} (e : xs.length = ws.length) (h : (3 : Int) < (xs.length : Int)) : ¬ ws.length ≤ 3 := by omega
theorem gt3' {α β : Type} {xs : List α} {ws : List β} (e : xs.length = ws.length) (h : ¬ (3 : Int) < (xs.length : Int)) : ws.length ≤ 3 := by omega
theorem snocL {α : Type} {ws : List α} {u : α} {b c r : Nat} (h : ws.length + b ≤ c) (hr : r < b) : (ws ++ [u]).length + r ≤ c := by rw [List.length_append, List.length_singleton]; omega
theorem snoc3 {α : Type} {ws : List α} {u : α} {n : Nat} (h : ws.length ≤ n) (g : ws.length ≠ n) : (ws ++ [u]).length ≤ n := by rw [List.length_append, List.length_singleton]; omega
theorem two_le {a b c : Nat} (h : 1 + (a + b) ≤ c) : a ≤ c ∧ b ≤ c := by omega
theorem dep_le {a b n : Nat} (h : 1 + max a b ≤ n + 1) : a ≤ n ∧ b ≤ n := by omega
theorem knots_two {t : Tag} {nm : Str} {x y : Wd} : knots (.node t nm [x, y]) = 1 + (knots x + knots y) := by rw [knots, knotsL, knotsL, knotsL, Nat.add_zero]
theorem runs_end {p j n r m : Nat} (hj : j ≤ n) (hl : p + (n + r) = m) (c : ¬ ((p + j : Nat) : Int) < (m : Int)) : j = n := by omega
theorem up3 {d k : Nat} : 2 * d + k + 3 + 1 ≤ 2 * (d + 1) + k + 2 ∧ k ≤ 2 * d + k + 2 ∧ k + 1 ≤ 2 * d + k + 3 ∧ k + 1 + 1 ≤ 2 * 0 + k + 2 := by omega
theorem toNat4 {i : Int} (h : i < 4) : i.toNat ≤ 3 := by omega
theorem i01 {i : Nat} (h : i < 2) : i = 0 ∨ i = 1 := by omega
theorem numLen {s : List Nat} (z : numOk s = true) : (tS s).length ≤ 640 := by
  unfold numOk at z
  simp only [Bool.and_eq_true, decide_eq_true_eq] at z
  rw [len_tS]
  exact Nat.le_trans z.1.2 (by decide)
theorem numGt {s : List Nat} (h : (3 : Int) < ((tS s).length : Int)) : numOk s = false := by
  unfold numOk
  rw [len_tS] at h
  rw [decide_eq_false (show ¬ s.length ≤ 3 by omega), Bool.and_false, Bool.false_and]
theorem le3 {s : List Nat} (h : ¬ (3 : Int) < ((tS s).length : Int)) : s.length ≤ 3 := by
  rw [len_tS] at h
  omega
theorem downI (m : Nat) : ((m + 1 : Nat) : Int) - 1 = (m : Int) := by omega
/-- a class that K has, read off its object -/
theorem ecls_at {K : PySem.W.Frag} {mg : Str → Option Value} {base : Heap} {x nm qn : Str} {C N : Addr} {mr bs sub : List Value} {dd : Option Addr} {hd ab : Bool} {sn : List Str} {col : Option Bool} {k0 k1 k2 k3 k5 : Option Value} (X : K.In base) (b : mg x = some (.ref C))
    (lk : K.lookup C = some (excClassObj nm qn C N bs mr hd sn sub ab col dd k0 k1 k2 k3 k5 "ValueError.__new__")) (t : PySem.W.tailIn K veMro mr = true) (o : PySem.W.nsOkIn K N = true) (i : PySem.W.nsIn K N "__init__" = some none)
    (ga : PySem.W.findIn K (.ref C) "__getattribute__" = some (some (.builtin "BaseException.__getattribute__"))) (gn : PySem.W.findIn K (.ref C) "__getattr__" = some none) (ca : PySem.W.findIn K (.ref C) "__class__" = some (some (.builtin "object.__class__")))
    (ob : PySem.W.mroIn K C (.type "object") = some true) (be : PySem.W.mroIn K C (.type "BaseException") = some true) : ECls K mg base x C :=
  ⟨⟨b, _, _, _, _, _, _, _, _, _, _, _, _, _, _, _, _, _, X _ _ lk, .of_isNs (PySem.W.isNs_of_in X o), PySem.W.nsMap_none_of_in X o i, PySem.W.tail_of_in X t⟩, ⟨ga, gn, ca, ob, be, by unfold PySem.W.clsIn; rw [lk]; rfl⟩⟩
end Sh

end
set_option maxHeartbeats 4000000
namespace Sh
open PySem PySem.Spec PyProof.Rows L2
def top (i : Nat) : Stmt := PySem.Challenge.pw_surehall_k13_read.main.body.getD i (.Pass ⟨0, 0, 0, 0⟩)
abbrev s_Reader___init__ : Stmt := mtd (top 14) 0
theorem sc_Reader___init__ : FnScope ["self", "text"] ["self", "text"] (defScope s_Reader___init__) := ⟨rfl, rfl, rfl, by decide +kernel, rfl, by decide +kernel, by decide +kernel⟩
abbrev s_Reader_ahead : Stmt := mtd (top 14) 1
theorem sc_Reader_ahead : FnScope ["self"] ["self"] (defScope s_Reader_ahead) := ⟨rfl, rfl, rfl, by decide +kernel, rfl, by decide +kernel, by decide +kernel⟩
abbrev s_Reader_pass_over : Stmt := mtd (top 14) 2
theorem sc_Reader_pass_over : FnScope ["self", "signs", "place"] ["self", "signs"] (defScope s_Reader_pass_over) := ⟨rfl, rfl, rfl, by decide +kernel, rfl, by decide +kernel, by decide +kernel⟩
abbrev s_Reader_end_of_run : Stmt := mtd (top 14) 3
theorem sc_Reader_end_of_run : FnScope ["self", "signs", "end"] ["self", "signs"] (defScope s_Reader_end_of_run) := ⟨rfl, rfl, rfl, by decide +kernel, rfl, by decide +kernel, by decide +kernel⟩
abbrev s_Reader_read_run : Stmt := mtd (top 14) 4
theorem sc_Reader_read_run : FnScope ["self", "signs", "start"] ["self", "signs"] (defScope s_Reader_read_run) := ⟨rfl, rfl, rfl, by decide +kernel, rfl, by decide +kernel, by decide +kernel⟩
abbrev s_Reader_read_name : Stmt := mtd (top 14) 5
theorem sc_Reader_read_name : FnScope ["self", "name"] ["self"] (defScope s_Reader_read_name) := ⟨rfl, rfl, rfl, by decide +kernel, rfl, by decide +kernel, by decide +kernel⟩
abbrev s_Reader_read_number : Stmt := mtd (top 14) 6
theorem sc_Reader_read_number : FnScope ["self", "figures"] ["self"] (defScope s_Reader_read_number) := ⟨rfl, rfl, rfl, by decide +kernel, rfl, by decide +kernel, by decide +kernel⟩
abbrev s_Reader_read_row : Stmt := mtd (top 14) 7
theorem sc_Reader_read_row : FnScope ["self", "close", "parts"] ["self", "close"] (defScope s_Reader_read_row) := ⟨rfl, rfl, rfl, by decide +kernel, rfl, by decide +kernel, by decide +kernel⟩
abbrev s_Reader_read_term : Stmt := mtd (top 14) 8
theorem sc_Reader_read_term : FnScope ["self", "name"] ["self"] (defScope s_Reader_read_term) := ⟨rfl, rfl, rfl, by decide +kernel, rfl, by decide +kernel, by decide +kernel⟩
abbrev s_Reader_read_form : Stmt := mtd (top 14) 9
theorem sc_Reader_read_form : FnScope ["self", "sign", "name"] ["self"] (defScope s_Reader_read_form) := ⟨rfl, rfl, rfl, by decide +kernel, rfl, by decide +kernel, by decide +kernel⟩
abbrev s_Reader_read_pair : Stmt := mtd (top 14) 10
theorem sc_Reader_read_pair : FnScope ["self", "first", "pair"] ["self"] (defScope s_Reader_read_pair) := ⟨rfl, rfl, rfl, by decide +kernel, rfl, by decide +kernel, by decide +kernel⟩
abbrev s_Reader_term_is_ahead : Stmt := mtd (top 14) 11
theorem sc_Reader_term_is_ahead : FnScope ["self", "end"] ["self"] (defScope s_Reader_term_is_ahead) := ⟨rfl, rfl, rfl, by decide +kernel, rfl, by decide +kernel, by decide +kernel⟩
abbrev s_read : Stmt := top 13
theorem sc_read : FnScope ["text", "reader", "form"] ["text"] (defScope s_read) := ⟨rfl, rfl, rfl, by decide +kernel, rfl, by decide +kernel, by decide +kernel⟩
abbrev s_law_cell_at : Stmt := top 16
theorem sc_law_cell_at : FnScope ["script", "k"] ["script", "k"] (defScope s_law_cell_at) := ⟨rfl, rfl, rfl, by decide +kernel, rfl, by decide +kernel, by decide +kernel⟩
abbrev s_law_next : Stmt := top 17
theorem sc_law_next : FnScope ["seed"] ["seed"] (defScope s_law_next) := ⟨rfl, rfl, rfl, by decide +kernel, rfl, by decide +kernel, by decide +kernel⟩
abbrev s_law_part : Stmt := top 18
theorem sc_law_part : FnScope ["seed", "k"] ["seed", "k"] (defScope s_law_part) := ⟨rfl, rfl, rfl, by decide +kernel, rfl, by decide +kernel, by decide +kernel⟩
abbrev s_law_name_by : Stmt := top 19
theorem sc_law_name_by : FnScope ["cell", "seed", "name", "k"] ["cell"] (defScope s_law_name_by) := ⟨rfl, rfl, rfl, by decide +kernel, rfl, by decide +kernel, by decide +kernel⟩
abbrev s_law_names_by : Stmt := top 20
theorem sc_law_names_by : FnScope ["cell"] ["cell"] (defScope s_law_names_by) := ⟨rfl, rfl, rfl, by decide +kernel, rfl, by decide +kernel, by decide +kernel⟩
abbrev s_law_var_by : Stmt := top 21
theorem sc_law_var_by : FnScope ["seed"] ["seed"] (defScope s_law_var_by) := ⟨rfl, rfl, rfl, by decide +kernel, rfl, by decide +kernel, by decide +kernel⟩
abbrev s_law_term_by : Stmt := top 22
theorem sc_law_term_by : FnScope ["seed", "deep", "names", "parts", "k"] ["seed", "deep", "names"] (defScope s_law_term_by) := ⟨rfl, rfl, rfl, by decide +kernel, rfl, by decide +kernel, by decide +kernel⟩
abbrev s_law_form_by : Stmt := top 23
theorem sc_law_form_by : FnScope ["seed", "deep", "names", "way", "first", "left", "parts", "k"] ["seed", "deep", "names"] (defScope s_law_form_by) := ⟨rfl, rfl, rfl, by decide +kernel, rfl, by decide +kernel, by decide +kernel⟩
abbrev s_law_like : Stmt := top 24
theorem sc_law_like : FnScope ["found", "due", "one", "other"] ["found", "due"] (defScope s_law_like) := ⟨rfl, rfl, rfl, by decide +kernel, rfl, by decide +kernel, by decide +kernel⟩
abbrev s_law_term_text : Stmt := top 25
theorem sc_law_term_text : FnScope ["term"] ["term"] (defScope s_law_term_text) := ⟨rfl, rfl, rfl, by decide +kernel, rfl, by decide +kernel, by decide +kernel⟩
abbrev s_law_text : Stmt := top 26
theorem sc_law_text : FnScope ["form"] ["form"] (defScope s_law_text) := ⟨rfl, rfl, rfl, by decide +kernel, rfl, by decide +kernel, by decide +kernel⟩
abbrev s_law_run : Stmt := top 27
theorem sc_law_run : FnScope ["text", "at", "signs"] ["text", "at", "signs"] (defScope s_law_run) := ⟨rfl, rfl, rfl, by decide +kernel, rfl, by decide +kernel, by decide +kernel⟩
abbrev s_law_parts_at : Stmt := top 28
theorem sc_law_parts_at : FnScope ["text", "at", "end", "found", "part"] ["text", "at", "end"] (defScope s_law_parts_at) := ⟨rfl, rfl, rfl, by decide +kernel, rfl, by decide +kernel, by decide +kernel⟩
abbrev s_law_term_at : Stmt := top 29
theorem sc_law_term_at : FnScope ["text", "at", "end", "figures", "parts"] ["text", "at"] (defScope s_law_term_at) := ⟨rfl, rfl, rfl, by decide +kernel, rfl, by decide +kernel, by decide +kernel⟩
abbrev s_law_two_at : Stmt := top 30
theorem sc_law_two_at : FnScope ["text", "at", "way", "left", "right"] ["text", "at"] (defScope s_law_two_at) := ⟨rfl, rfl, rfl, by decide +kernel, rfl, by decide +kernel, by decide +kernel⟩
abbrev s_law_form_at : Stmt := top 31
theorem sc_law_form_at : FnScope ["text", "at", "sign", "inner", "end", "parts"] ["text", "at"] (defScope s_law_form_at) := ⟨rfl, rfl, rfl, by decide +kernel, rfl, by decide +kernel, by decide +kernel⟩
abbrev s_law_odd : Stmt := top 32
theorem sc_law_odd : FnScope ["cell", "some"] ["cell"] (defScope s_law_odd) := ⟨rfl, rfl, rfl, by decide +kernel, rfl, by decide +kernel, by decide +kernel⟩
abbrev s_law_sign : Stmt := top 33
theorem sc_law_sign : FnScope ["cell", "some"] ["cell"] (defScope s_law_sign) := ⟨rfl, rfl, rfl, by decide +kernel, rfl, by decide +kernel, by decide +kernel⟩
abbrev s_law_refused : Stmt := top 34
theorem sc_law_refused : FnScope ["text", "other", "e"] ["text"] (defScope s_law_refused) := ⟨rfl, rfl, rfl, by decide +kernel, rfl, by decide +kernel, by decide +kernel⟩
abbrev s_law : Stmt := top 35
theorem sc_law : FnScope ["script", "names", "deep", "text", "way", "at", "sign", "due"] ["script"] (defScope s_law) := ⟨rfl, rfl, rfl, by decide +kernel, rfl, by decide +kernel, by decide +kernel⟩
section
variable [Inn] {P : Program} {w : World} {K : PySem.W.Frag} {mg : Str → Option Value} {base : Heap}
theorem put_init {T : Str} : putF ("place" : Str) (.int 0) (putF ("text" : Str) (.str T) []) = rdF T 0 := by
  show putF ("place" : Str) (.int 0) [("text", .str T)] = _
  unfold putF
  rw [if_neg (by decide)]
  rfl
theorem ok_Reader___init__ {C fi : Addr} {fd : FuncData} (F : Fun K "__init__" "Reader.__init__" s_Reader___init__ fi fd) (T_Reader : TC K C ["text", "place"]) : FnOk P w K mg base CX0 1 fi fd ["self", "text"] (spRInit C) := by
  refine F.ok sc_Reader___init__ (fun vs H Q E h => ?_) (fun cdv A outer s H vs Q E hr h => ?_)
  · obtain ⟨a, dx, T, rfl, _⟩ := h
    rfl
  obtain ⟨a, dx, T, rfl, ha, q⟩ := h
  refine ⟨_, (pss_cons (ps_fld (pv 0) (pv 1) (by rfl))
    (pss_one (ps_fld (pv 0) pe_int (by rfl)))), ?_⟩
  refine ⟨_, rfl, _, rfl, a, C, dx, _, rfl, ha, T_Reader.cl, T_Reader.na _ (by simp), (by decide), ?_⟩
  refine ⟨_, rfl, a, C, dx, _, rfl, upd_same, T_Reader.cl, T_Reader.na _ (by simp), (by show 1 < 1000; decide), ?_⟩
  rw [put_init]
  exact q _ (fun b hb => by rw [upd_ne hb, upd_ne hb]) ⟨dx, upd_same⟩
theorem ok_Reader_ahead {C : Addr} (D : MDef K C "ahead" "Reader.ahead" s_Reader_ahead ["self"] []) (T_Reader : TC K C ["text", "place"]) : MOk CX0 P w K mg base C "ahead" ["self"] 1 (spAhead C) [] := by
  refine D.ok sc_Reader_ahead (fun vs H Q E h => ?_) (fun f cdv A outer s H vs Q E hr h => ?_)
  · obtain ⟨a, T, p, l, rfl, _⟩ := h
    rfl
  obtain ⟨a, T, p, l, rfl, ⟨dx, ha⟩, ok, hl, q⟩ := h
  refine ⟨_, (pss_one (ps_ret (pe_slice sl_str (pe_fld (pv 0) (by rfl)) (po_some (pe_fld (pv 0) (by rfl))) (po_some (pe_op op_add (pe_fld (pv 0) (by rfl)) pe_int))))), ?_⟩
  refine ⟨_, rfl, a, C, dx, _, _, rfl, ha, T_Reader.cl, T_Reader.na _ (by simp), look_text, ?_⟩
  refine ⟨_, rfl, a, C, dx, _, _, rfl, ha, T_Reader.cl, T_Reader.na _ (by simp), look_place, _, rfl, ?_⟩
  refine ⟨_, rfl, a, C, dx, _, _, rfl, ha, T_Reader.cl, T_Reader.na _ (by simp), look_place, _, _, rfl, rfl, _, rfl, T, rfl, ok.sz, ?_⟩
  rw [slice1 hl]
  exact q
theorem ok_Reader_pass_over {C CN : Addr} (D : MDef K C "pass_over" "Reader.pass_over" s_Reader_pass_over ["self", "signs"] []) (B : Blt mg) (T_Reader : TC K C ["text", "place"]) (E_NoWord : ECls K mg base "NoWord" CN) : MOk (CX1 P w) P w K mg base C "pass_over" ["self", "signs"] 1 (spXPass C CN) [] := by
  refine D.okX sc_Reader_pass_over (fun vs H Q E h => ?_) (fun f cdv A outer s H vs Q E hr h => ?_)
  · obtain ⟨a, T, sg, p, l, rfl, _⟩ := h
    rfl
  obtain ⟨a, T, sg, p, l, rfl, ⟨dx, ha⟩, ok, hl, hs, hlow, q1, q2⟩ := h
  refine ⟨_, (pss_cons (ps_if (pt_not (pt_val (pe_bm PySem.F.plainAttrs_str PySem.F.slot_str_startswith PySem.F.type_str_startswith mt_starts (pe_fld (pv 0) (by rfl)) (pa_cons (pv 1) (pa_cons (pe_fld (pv 0) (by rfl)) pa_nil))))) (pss_cons (ps_set (i := 2) sc_Reader_pass_over.nd rfl (Or.inl rfl) (pe_fld (pv 0) (by rfl)))
    (pss_one (ps_raise E_NoWord.exc rfl rfl (by rfl) (pa_cons (pe_join (pj_cons (pe_fmtR (pv 1)) (pj_cons pe_str (pj_cons (pe_fmt (pv 2)) pj_nil)))) pa_nil)))) pss_nil)
    (pss_one (ps_fldaug (pv 0) (pe_callB call_len_str (by rfl) B.len PySem.boot_len (pa_cons (pv 1) pa_nil)) in_add))), ?_⟩
  refine ⟨_, rfl, a, C, dx, _, _, rfl, ha, T_Reader.cl, T_Reader.na _ (by simp), look_text, rfl, ?_⟩
  refine ⟨_, rfl, _, rfl, a, C, dx, _, _, rfl, ha, T_Reader.cl, T_Reader.na _ (by simp), look_place, T, sg, p, rfl, rfl, ?_⟩
  rw [starts_is hl]
  have h5 := (at_le ok hl).2
  have hs5 : sg.length ≤ 5000 := Nat.le_trans hs (by decide)
  cases e : sg.cps.toList.isPrefixOf l with
  | false =>
    refine ⟨false, rfl, iteT ?_⟩
    refine ⟨_, rfl, a, C, dx, _, _, rfl, ha, T_Reader.cl, T_Reader.na _ (by simp), look_place, ?_⟩
    exact ⟨_, rfl, sg, rfl, rep1 hlow hs5, _, rfl, rep2 hlow hs5, _, rfl, rep3 hlow hs5 (by decide), _, rfl, .inr ⟨p, rfl, log_small5 h5, _, rfl, rep4 hlow hs5 (by decide) (num_len5 h5), rep4 hlow hs5 (by decide) (num_len5 h5), (by show 1 ≤ sizeLine; decide), q2 (by unfold mid; rw [e]; rfl) _⟩⟩
  | true =>
    refine ⟨true, rfl, iteF ?_⟩
    refine ⟨_, rfl, a, C, dx, _, _, rfl, ha, T_Reader.cl, T_Reader.na _ (by simp), look_place, _, rfl, sg, rfl, big (Nat.le_trans hs (by decide)), _, _, rfl, rfl, dx, _, ha, (by show 2 < 1000; decide), ?_⟩
    rw [put_place]
    have em : mid sg.cps.toList l = some (l.drop sg.cps.toList.length) := by unfold mid; rw [if_pos e]
    have am := at_mid hl em
    rw [len_cps] at am
    refine q1 _ em _ (Bt.upd H a _) ⟨dx, ?_⟩ (by rw [← len_cps] at am ⊢; exact am)
    rw [upd_same]
    unfold rdF
    simp
theorem ok_Reader_end_of_run {C : Addr} (D : MDef K C "end_of_run" "Reader.end_of_run" s_Reader_end_of_run ["self", "signs"] []) (B : Blt mg) (T_Reader : TC K C ["text", "place"]) : MOk CX0 P w K mg base C "end_of_run" ["self", "signs"] 1 (spEnd C) [] := by
  refine D.ok sc_Reader_end_of_run (fun vs H Q E h => ?_) (fun f cdv A outer s H vs Q E hr h => ?_)
  · obtain ⟨a, T, sg, p, ss, r, pr, rfl, _⟩ := h
    rfl
  obtain ⟨a, T, sg, p, ss, r, pr, rfl, ⟨dx, ha⟩, ok, hl, hin, hpr, hst, q⟩ := h
  have hlen := hl.len
  rw [List.length_append] at hlen
  refine ⟨_, (pss_cons (ps_set (i := 2) sc_Reader_end_of_run.nd rfl (Or.inl rfl) (pe_fld (pv 0) (by rfl)))
    (pss_cons (ps_while PassesOwn.never (PW.pt (pw_and (pt_cmpR op_lt (pv 2) (pe_callB call_len_str (by rfl) B.len PySem.boot_len (pa_cons (pe_fld (pv 0) (by rfl)) pa_nil)) (nomark _)) (pw_and1 (pt_cmpR op_in_str (pe_ix ix_str (pe_fld (pv 0) (by rfl)) (pv 2) (fun _ _ => rfl)) (pv 1) (by with_unfolding_all rfl))))) (pss_one (ps_aug (i := 2) sc_Reader_end_of_run.nd rfl (Or.inl rfl) pe_int ip_add)))
    (pss_one (ps_ret (pv 2))))), ?_⟩
  refine ⟨_, rfl, a, C, dx, _, _, rfl, ha, T_Reader.cl, T_Reader.na _ (by simp), look_place, ?_⟩
  refine ⟨fun m σ H1 => H1 = H ∧ ∃ j, j ≤ ss.length ∧ m = ss.length - j ∧ σ = [some (.ref a), some (.str sg), some (.int (p + j : Nat))], ⟨ss.length, rfl, 0, Nat.zero_le _, rfl, rfl⟩, fun m σ H1 hP => ?_⟩
  obtain ⟨rfl, j, hj, rfl, rfl⟩ := hP
  have sz := ok.sz
  have hat : At T (p + j) (ss.drop j ++ r) := by
    have : ss = ss.take j ++ ss.drop j := (List.take_append_drop j ss).symm
    rw [this, List.append_assoc] at hl
    have h2 := hl.go
    rw [List.length_take, Nat.min_eq_left hj] at h2
    exact h2
  have sub : ∀ c, c ∈ T.cps.toList → inS sg c = pr c := fun c hc => hin c (ok.2 c hc)
  refine ⟨_, rfl, _, rfl, a, C, dx, _, _, rfl, ha, T_Reader.cl, T_Reader.na _ (by simp), look_text, T, rfl, sz, _, _, rfl, rfl, _, rfl, ite2 (fun c => ?_) (fun c => ?_)⟩
  · have c' := of_decide_eq_true c
    have lt : p + j < T.length := Int.ofNat_lt.mp c'
    have lt2 : p + j < T.cps.toList.length := by rw [len_cps]; exact lt
    refine ⟨_, rfl, a, C, dx, _, _, rfl, ha, T_Reader.cl, T_Reader.na _ (by simp), look_text, _, rfl, T, _, T.cps.toList[p + j], rfl, rfl, sz, atI_nat (List.getElem?_eq_getElem lt2), _, rfl, _, sg, rfl, rfl, ?_⟩
    have e := sub _ (List.getElem_mem lt2)
    unfold inS at e
    rw [e]
    refine ⟨_, rfl, ?_⟩
    by_cases hj2 : j < ss.length
    · have hc : T.cps.toList[p + j] = ss[j] := by
        have h3 := At.get (T := T) (p := p + j) (c := ss[j]) (b := ss.drop (j + 1) ++ r) (by
          rw [List.drop_eq_getElem_cons hj2] at hat
          exact hat)
        rw [List.getElem?_eq_getElem lt2] at h3
        exact Option.some.inj h3
      rw [hc, hpr _ (List.getElem_mem hj2)]
      refine iteT ⟨fun σ' H' => ∃ m', m' < ss.length - j ∧ H' = H1 ∧ ∃ j, j ≤ ss.length ∧ m' = ss.length - j ∧ σ' = [some (.ref a), some (.str sg), some (.int (p + j : Nat))], fun σ' H' h => h, ?_⟩
      refine ⟨_, rfl, _, _, rfl, rfl, ss.length - (j + 1), Nat.sub_succ_lt_self _ _ hj2, rfl, j + 1, hj2, rfl, ?_⟩
      rfl
    · have ej := Nat.le_antisymm hj (Nat.le_of_not_lt hj2)
      subst ej
      rw [List.drop_length, List.nil_append] at hat
      have hp : pr T.cps.toList[p + ss.length] = false := by
        cases hr' : r with
        | nil =>
          rw [hr'] at hat
          have := hat.len
          exact absurd lt (Nat.not_lt_of_le (Nat.le_of_eq this.symm))
        | cons c r' =>
          rw [hr'] at hat
          have h3 := hat.get
          rw [List.getElem?_eq_getElem lt2] at h3
          rw [Option.some.inj h3]
          exact hst c r' hr'
      rw [hp]
      exact iteF ⟨_, rfl, q⟩
  · have c' := of_decide_eq_false (Bool.eq_false_iff.mpr c)
    have ej := runs_end hj hlen c'
    subst ej
    exact ⟨_, rfl, q⟩
theorem ok_Reader_read_run {C : Addr} (D : MDef K C "read_run" "Reader.read_run" s_Reader_read_run ["self", "signs"] []) (T_Reader : TC K C ["text", "place"]) (G_Reader_end_of_run : MOk CX0 P w K mg base C "end_of_run" ["self", "signs"] 1 (spEnd C) []) :
    MOk CX0 P w K mg base C "read_run" ["self", "signs"] 2 (spRun C) [] := by
  refine D.ok sc_Reader_read_run (fun vs H Q E h => ?_) (fun f cdv A outer s H vs Q E hr h => ?_)
  · obtain ⟨a, T, sg, p, ss, r, pr, rfl, _⟩ := h
    rfl
  obtain ⟨a, T, sg, p, ss, r, pr, rfl, ⟨dx, ha⟩, ok, hl, hin, hpr, hst, q⟩ := h
  refine ⟨_, (pss_cons (ps_set (i := 2) sc_Reader_read_run.nd rfl (Or.inl rfl) (pe_fld (pv 0) (by rfl)))
    (pss_cons (ps_fld (pv 0) (pe_mok G_Reader_end_of_run T_Reader.cl hr (by first | exact Nat.le_refl _ | decide | assumption | exact Nat.le_trans (by decide) hk | omega) (pv 0) (pa_cons (pv 1) pa_nil)) (by rfl))
    (pss_one (ps_ret (pe_slice sl_str (pe_fld (pv 0) (by rfl)) (po_some (pv 2)) (po_some (pe_fld (pv 0) (by rfl)))))))), ?_⟩
  refine ⟨_, rfl, a, C, dx, _, _, rfl, ha, T_Reader.cl, T_Reader.na _ (by simp), look_place, ?_⟩
  refine ⟨_, rfl, a, dx, _, rfl, ha, rfl, _, rfl, a, T, sg, p, ss, r, pr, rfl, ⟨dx, ha⟩, ok, hl, hin, hpr, hst, ?_⟩
  refine ⟨_, rfl, a, C, dx, _, rfl, ha, T_Reader.cl, T_Reader.na _ (by simp), (by show 2 < 1000; decide), ?_⟩
  rw [put_place]
  have h1 : upd H a (.ins C dx [("text", .str T), ("place", .int (p + ss.length : Nat))]) a = some (.ins C dx (rdF T (p + ss.length))) := upd_same
  refine ⟨_, rfl, a, C, dx, _, _, rfl, h1, T_Reader.cl, T_Reader.na _ (by simp), look_text, ?_⟩
  refine ⟨_, rfl, _, rfl, ?_⟩
  refine ⟨_, rfl, a, C, dx, _, _, rfl, h1, T_Reader.cl, T_Reader.na _ (by simp), look_place, _, rfl, T, rfl, ok.sz, ?_⟩
  rw [sliceN hl]
  exact q _ (Bt.upd H a _) ⟨dx, h1⟩
theorem ok_Reader_read_name {C CN : Addr} {tL tM : Tok} (D : MDef K C "read_name" "Reader.read_name" s_Reader_read_name ["self"] []) (B : Blt mg) (c_LETTERS : mg "LETTERS" = some (.str "abcdefghijklmnopqrstuvwxyz" tL)) (c_MOST_LETTERS : mg "MOST_LETTERS" = some (.int 12 tM)) (T_Reader : TC K C ["text", "place"])
    (E_NoWord : ECls K mg base "NoWord" CN) (G_Reader_read_run : MOk CX0 P w K mg base C "read_run" ["self", "signs"] 2 (spRun C) []) : MOk (CX1 P w) P w K mg base C "read_name" ["self"] 3 (spXName C CN) [] := by
  refine D.okX sc_Reader_read_name (fun vs H Q E h => ?_) (fun f cdv A outer s H vs Q E hr h => ?_)
  · obtain ⟨a, T, p, l, rfl, _⟩ := h
    rfl
  obtain ⟨a, T, p, l, rfl, ⟨dx, ha⟩, ok, hl, q1, q2⟩ := h
  refine ⟨_, (pss_cons (ps_set (i := 1) sc_Reader_read_name.nd rfl (Or.inl rfl) (pe_mok G_Reader_read_run T_Reader.cl hr (by first | exact Nat.le_refl _ | decide | assumption | exact Nat.le_trans (by decide) hk | omega) (pv 0) (pa_cons (pe_glob (v := .str "abcdefghijklmnopqrstuvwxyz") (by rfl) c_LETTERS ⟨_, rfl⟩) pa_nil)))
    (pss_cons (ps_if (PW.pt (pw_or (pt_cmpR op_eq (pv 1) pe_str (nomark _)) (pw_or1 (pt_cmpR op_gt (pe_callB call_len_str (by rfl) B.len PySem.boot_len (pa_cons (pv 1) pa_nil)) (pe_glob (v := .int 12) (by rfl) c_MOST_LETTERS ⟨_, rfl⟩) (nomark _))))) (pss_one (ps_raise E_NoWord.exc rfl rfl (by rfl) (pa_cons (pe_join (pj_cons (pe_fmtR (pv 1)) (pj_cons pe_str pj_nil))) pa_nil))) pss_nil)
    (pss_one (ps_ret (pv 1))))), ?_⟩
  have hw := tw_at isLet hl
  obtain ⟨low, len⟩ := tw_low (pr := isLet) ok hl
  have ll := len_tS (l.takeWhile isLet)
  have bL : (tS (l.takeWhile isLet)).length ≤ sizeLine := big (Nat.le_trans len (by decide))
  have bad : nmOk (l.takeWhile isLet) = false → pName l = none := fun z => by
    unfold pName
    rw [if_neg (by rw [z]; decide)]
  refine ⟨_, rfl, a, dx, _, rfl, ha, rfl, a, T, _, p, l.takeWhile isLet, l.dropWhile isLet, isLet, rfl, ⟨dx, ha⟩, ok, hw, (fun c hc => let_in ⟨c, hc⟩), tw_all _ _, tw_stp _ _, fun H1 b1 rd1 => ?_⟩
  refine ⟨_, rfl, rfl, _, rfl, ?_⟩
  by_cases e0 : l.takeWhile isLet = []
  · rw [decide_eq_true (tw_nil.mpr e0)]
    exact iteT (iteT ⟨_, rfl, _, rfl, rep1 low len, _, rfl, rep2 low len, _, rfl, rep3 low len (by decide), rep3 low len (by decide), (by show 1 ≤ sizeLine; decide), q2 (bad (by rw [e0]; rfl)) _⟩)
  · rw [decide_eq_false fun z => e0 (tw_nil.mp z)]
    refine iteF ⟨_, rfl, _, rfl, bL, _, _, rfl, rfl, _, rfl, ite2 (fun c => ?_) (fun c => ?_)⟩
    · have c' := of_decide_eq_true c
      refine ⟨_, rfl, _, rfl, rep1 low len, _, rfl, rep2 low len, _, rfl, rep3 low len (by decide), rep3 low len (by decide), (by show 1 ≤ sizeLine; decide), q2 (bad ?_) _⟩
      unfold nmOk
      rw [decide_eq_false (by omega), Bool.and_false]
    · have c' := of_decide_eq_false (Bool.eq_false_iff.mpr c)
      refine ⟨_, rfl, q1 (tS (l.takeWhile isLet), l.dropWhile isLet) ?_ _ H1 b1 rd1 hw.go⟩
      unfold pName
      rw [if_pos]
      unfold nmOk
      rw [decide_eq_true (by omega), Bool.and_true]
      cases e : l.takeWhile isLet with
      | nil => exact absurd e e0
      | cons c r => rfl
theorem ok_Reader_read_number {C CN : Addr} {tL tM : Tok} (D : MDef K C "read_number" "Reader.read_number" s_Reader_read_number ["self"] []) (B : Blt mg) (c_FIGURES : mg "FIGURES" = some (.str "0123456789" tL)) (c_MOST_FIGURES : mg "MOST_FIGURES" = some (.int 3 tM)) (T_Reader : TC K C ["text", "place"])
    (E_NoWord : ECls K mg base "NoWord" CN) (G_Reader_read_run : MOk CX0 P w K mg base C "read_run" ["self", "signs"] 2 (spRun C) []) : MOk (CX1 P w) P w K mg base C "read_number" ["self"] 3 (spXNum C CN) [] := by
  refine D.okX sc_Reader_read_number (fun vs H Q E h => ?_) (fun f cdv A outer s H vs Q E hr h => ?_)
  · obtain ⟨a, T, p, l, rfl, _⟩ := h
    rfl
  obtain ⟨a, T, p, l, rfl, ⟨dx, ha⟩, ok, hl, q1, q2⟩ := h
  refine ⟨_, (pss_cons (ps_set (i := 1) sc_Reader_read_number.nd rfl (Or.inl rfl) (pe_mok G_Reader_read_run T_Reader.cl hr (by first | exact Nat.le_refl _ | decide | assumption | exact Nat.le_trans (by decide) hk | omega) (pv 0) (pa_cons (pe_glob (v := .str "0123456789") (by rfl) c_FIGURES ⟨_, rfl⟩) pa_nil)))
    (pss_cons (ps_if (PW.pt (pw_or (pt_cmpR op_eq (pv 1) pe_str (nomark _)) (pw_or (pt_cmpR op_gt (pe_callB call_len_str (by rfl) B.len PySem.boot_len (pa_cons (pv 1) pa_nil)) (pe_glob (v := .int 3) (by rfl) c_MOST_FIGURES ⟨_, rfl⟩) (nomark _)) (pw_or1 (PW.pt (pw_and (pt_cmpR op_eq (pe_ix ix_str (pv 1) pe_int (fun _ _ => rfl)) pe_str (nomark _)) (pw_and1 (pt_cmpR op_ne (pv 1) pe_str (nomark _))))))))) (pss_one (ps_raise E_NoWord.exc rfl rfl (by rfl) (pa_cons (pe_join (pj_cons (pe_fmtR (pv 1)) (pj_cons pe_str pj_nil))) pa_nil))) pss_nil)
    (pss_one (ps_ret (pe_callTy call_int_text (by rfl) B.int PyProof.Rows.boot_int (pa_cons (pv 1) pa_nil)))))), ?_⟩
  have hw := tw_at isFig hl
  obtain ⟨low, len⟩ := tw_low (pr := isFig) ok hl
  have ll := len_tS (l.takeWhile isFig)
  have bL : (tS (l.takeWhile isFig)).length ≤ sizeLine := big (Nat.le_trans len (by decide))
  have bad : numOk (l.takeWhile isFig) = false → pNum l = none := fun z => by
    unfold pNum
    rw [if_neg (by rw [z]; decide)]
  refine ⟨_, rfl, a, dx, _, rfl, ha, rfl, a, T, _, p, l.takeWhile isFig, l.dropWhile isFig, isFig, rfl, ⟨dx, ha⟩, ok, hw, (fun c hc => fig_in ⟨c, hc⟩), tw_all _ _, tw_stp _ _, fun H1 b1 rd1 => ?_⟩
  refine ⟨_, rfl, rfl, _, rfl, ?_⟩
  have figs := tw_all isFig l
  by_cases e0 : l.takeWhile isFig = []
  · rw [decide_eq_true (tw_nil.mpr e0)]
    exact iteT (iteT ⟨_, rfl, _, rfl, rep1 low len, _, rfl, rep2 low len, _, rfl, rep3 low len (by decide), rep3 low len (by decide), (by show 1 ≤ sizeLine; decide), q2 (bad (by rw [e0]; rfl)) _⟩)
  rw [decide_eq_false fun z => e0 (tw_nil.mp z)]
  have good : numOk (l.takeWhile isFig) = true → ∀ {R : Prop}, (∀ n, PySem.intText? (tS (l.takeWhile isFig)) = some n → (tS (l.takeWhile isFig)).length ≤ 640 → Q (.int n) H1 → R) → R := fun z {R} k => by
    exact k _ (num_text z figs) (numLen z) (q1 (numV (l.takeWhile isFig), l.dropWhile isFig) (by unfold pNum; rw [if_pos z]) _ H1 b1 rd1 hw.go)
  refine iteF ⟨_, rfl, _, rfl, bL, _, _, rfl, rfl, _, rfl, ite2 (fun c => ?_) (fun c => ?_)⟩
  · exact iteT ⟨_, rfl, _, rfl, rep1 low len, _, rfl, rep2 low len, _, rfl, rep3 low len (by decide), rep3 low len (by decide), (by show 1 ≤ sizeLine; decide), q2 (bad (numGt (of_decide_eq_true c))) _⟩
  have c3 := of_decide_eq_false (Bool.eq_false_iff.mpr c)
  obtain ⟨x, xs, ec⟩ : ∃ x xs, l.takeWhile isFig = x :: xs := by
    cases e : l.takeWhile isFig with
    | nil => exact absurd e e0
    | cons x xs => exact ⟨x, xs, rfl⟩
  refine ⟨_, rfl, tS (l.takeWhile isFig), _, x, rfl, rfl, bL, (by rw [cps_tS, ec]; exact at0), rfl, _, rfl, ?_⟩
  refine ite2 (fun c0 => ?_) (fun c0 => ?_)
  · have c' := of_decide_eq_true c0
    have e48 : x = 48 := by
      injection c' with c'
      have := congrArg (fun x : Str => x.cps.toList) c'
      have : [x] = [48] := this
      injection this
    refine ⟨_, rfl, rfl, _, rfl, ite2 (fun c1 => ?_) (fun c1 => ?_)⟩
    · refine ⟨_, rfl, _, rfl, rep1 low len, _, rfl, rep2 low len, _, rfl, rep3 low len (by decide), rep3 low len (by decide), (by show 1 ≤ sizeLine; decide), q2 (bad ?_) _⟩
      have ne : xs ≠ [] := fun z => by
        have : decide (V.str (tS (l.takeWhile isFig)) = V.str "0") = true := decide_eq_true (by rw [ec, e48, z]; rfl)
        have c1' : (!decide (V.str (tS (l.takeWhile isFig)) = V.str "0")) = true := c1
        rw [this] at c1'
        cases c1'
      rw [ec, e48]
      unfold numOk
      cases xs with
      | nil => exact absurd rfl ne
      | cons y ys => simp
    · have en : xs = [] := by
        have c1' : ¬ (!decide (V.str (tS (l.takeWhile isFig)) = V.str "0")) = true := c1
        have : V.str (tS (l.takeWhile isFig)) = V.str (tS [48]) := by
          have h2 : decide (V.str (tS (l.takeWhile isFig)) = V.str "0") = true := by simpa using c1'
          exact of_decide_eq_true h2
        have := tS_inj this
        rw [ec] at this
        injection this
      exact good (by rw [ec, en]; rfl) fun n h1 h2 h3 => ⟨_, rfl, _, n, rfl, h1, h2, h3⟩
  · have n48 : x ≠ 48 := fun z => c0 (by
      show decide (V.str (tS [x]) = V.str (tS [48])) = true
      rw [z]; exact decide_eq_true rfl)
    exact iteF (good (num_two ec (le3 c3) n48) fun n h1 h2 h3 => ⟨_, rfl, _, n, rfl, h1, h2, h3⟩)
theorem ok_Reader_read_row {C CN : Addr} {k d : Nat} {tM : Tok} (D : MDef K C "read_row" "Reader.read_row" s_Reader_read_row ["self", "close"] []) (B : Blt mg) (c_MOST_PARTS : mg "MOST_PARTS" = some (.int 3 tM)) (T_Reader : TC K C ["text", "place"]) (E_NoWord : ECls K mg base "NoWord" CN) (hk : 1 ≤ k)
    (G_Reader_ahead : MOk CX0 P w K mg base C "ahead" ["self"] 1 (spAhead C) []) (G_Reader_pass_over : MOk (CX1 P w) P w K mg base C "pass_over" ["self", "signs"] 1 (spXPass C CN) []) (G_Reader_read_term : MOk (CX1 P w) P w K mg base C "read_term" ["self"] k (spXTerm C CN d) []) :
    MOk (CX1 P w) P w K mg base C "read_row" ["self", "close"] (k + 1) (spXRow C CN d) [] := by
  refine D.okX sc_Reader_read_row (fun vs H Q E h => ?_) (fun f cdv A outer s H vs Q E hr h => ?_)
  · obtain ⟨a, T, p, c, l, rfl, _⟩ := h
    rfl
  obtain ⟨a, T, p, c, l, rfl, hc, hrd, ok, hl, ho, q1, q2⟩ := h
  obtain ⟨dx0, ha0⟩ := id hrd
  have h5 := (at_le ok hl).1
  unfold pRow at q1 q2
  refine ⟨_, (pss_cons (ps_set (i := 2) sc_Reader_read_row.nd rfl (Or.inl rfl) (pe_lst pa_nil))
    (pss_cons (ps_while (passes_XS ⟨rfl, rfl⟩) (pt_cmpR op_ne (pe_mok0 G_Reader_ahead T_Reader.cl hr (by first | exact Nat.le_refl _ | decide | assumption | exact Nat.le_trans (by decide) hk | omega) (pv 0)) (pv 1) (nomark _)) (pss_cut (ps_if (pt_cmpR op_gt (pe_callB call_len_seq (by rfl) B.len PySem.boot_len (pa_cons (pv 2) pa_nil)) pe_int (nomark _)) (pss_one (ps_expr (pe_mokX G_Reader_pass_over T_Reader.cl rfl hr (by first | exact Nat.le_refl _ | decide | assumption | exact Nat.le_trans (by decide) hk | omega) (pv 0) (pa_cons pe_str pa_nil)))) pss_nil)
    (pss_one (ps_expr (pe_bm PySem.F.plainAttrs_list PySem.F.slot_list_append PySem.F.type_list_append mt_append (pv 2) (pa_cons (pe_mokX0 G_Reader_read_term T_Reader.cl rfl hr (by first | exact Nat.le_refl _ | decide | assumption | exact Nat.le_trans (by decide) hk | omega) (pv 0)) pa_nil))))))
    (pss_cons (ps_expr (pe_mokX G_Reader_pass_over T_Reader.cl rfl hr (by first | exact Nat.le_refl _ | decide | assumption | exact Nat.le_trans (by decide) hk | omega) (pv 0) (pa_cons (pv 1) pa_nil)))
    (pss_cons (ps_if (pt_cmpR op_gt (pe_callB call_len_seq (by rfl) B.len PySem.boot_len (pa_cons (pv 2) pa_nil)) (pe_glob (v := .int 3) (by rfl) c_MOST_PARTS ⟨_, rfl⟩) (nomark _)) (pss_one (ps_raise E_NoWord.exc rfl rfl (by rfl) (pa_cons pe_str pa_nil))) pss_nil)
    (pss_one (ps_ret (pe_callTy call_tuple_of (by rfl) B.tuple PyProof.Rows.boot_tuple (pa_cons (pv 2) pa_nil)))))))), ?_⟩
  refine ⟨(by show 0 ≤ sizeLine; decide), fun pl hpl => ?_⟩
  have na : a ≠ pl := fun e => by rw [e, hpl] at ha0; cases ha0
  refine ⟨fun m σ H1 => σ = [some (.ref a), some (.str (tS [c])), some (.ref pl)] ∧ RowI C a pl T d c l H m H1,
    ⟨l.length, rfl, Bt.new hpl, p, l, [], [], l.length + 1, rfl, hrd.new hpl, hl, List.suffix_refl _, Nat.lt_succ_self _, by simp, upd_same, .nil, rfl⟩, fun m σ H1 hP => ?_⟩
  obtain ⟨rfl, b1, pos, l', ws, xs, k', rfl, rd1, at1', suf, hk', hle, hx1, hw1, er⟩ := hP
  obtain ⟨dx1, ha1⟩ := id rd1
  have lx := hw1.length
  have o1 := opn_suf suf
  refine ⟨_, rfl, a, dx1, _, rfl, ha1, rfl, a, T, pos, _, rfl, rd1, ok, at1', _, rfl, rfl, _, rfl, ?_⟩
  rw [er] at q1 q2
  by_cases hc' : l'.head? = some c
  · rw [show (!decide (V.str (tS (l'.take 1)) = V.str (tS [c]))) = false by rw [head_dec rfl, decide_eq_true hc']; rfl]
    refine iteF ?_
    rw [rowL_done hk' hc'] at q1 q2
    refine ⟨_, rfl, a, dx1, _, rfl, ha1, rfl, _, rfl, a, T, tS [c], _, l', rfl, rd1, ok, at1', (by rw [len_tS]; show 1 ≤ 10; decide), (by rw [cps_tS]; intro x hx; rw [List.mem_singleton] at hx; rw [hx]; exact hc), fun r hm H2 b2 rd2 at2 => ?_, fun hm => ?_⟩
    · rw [cps_tS, mid1, if_pos hc'] at hm
      cases hm
      have hx2 := b2.at (Ne.symm na) hx1
      have hw2 := hw1.mono (b2.tk rd1)
      refine ⟨_, rfl, pl, xs, rfl, .inl (SqL.of hx2), _, _, rfl, rfl, _, rfl, ite2 (fun g => ?_) (fun g => ?_)⟩
      · have g' := of_decide_eq_true g
        exact ⟨(by show 1 ≤ sizeLine; decide), q2 (by show lim3 (ws, l'.tail) = none; unfold lim3; rw [if_neg (show ¬ ws.length ≤ 3 from gt3 lx g')]) _⟩
      · have g' := of_decide_eq_false (Bool.eq_false_iff.mpr g)
        refine ⟨_, rfl, pl, xs, rfl, .inl ⟨SqL.of hx2, fun t ht => ?_⟩⟩
        have k3 : Tk H2 (upd H2 t (.tup xs)) := fun b ys e => by rw [upd_ne (ne_of_none e ht)]; exact e
        exact q1 (ws, l'.tail) (by show lim3 (ws, l'.tail) = _; unfold lim3; rw [if_pos (show ws.length ≤ 3 from gt3' lx g')]) t xs _ _ ((b1.trans b2).trans (Bt.new ht)) (rd2.new ht) at2 upd_same (hw2.mono k3)
    · rw [cps_tS, mid1, if_pos hc'] at hm
      cases hm
  · rw [show (!decide (V.str (tS (l'.take 1)) = V.str (tS [c]))) = true by rw [head_dec rfl, decide_eq_false hc']; rfl]
    obtain ⟨k2, rfl, es⟩ := rowL_step (pt := pTerm d) (ws := ws) hk' hc'
    rw [es] at er q1 q2
    refine iteT ⟨fun σ' H' => ∃ m', m' < l'.length ∧ σ' = [some (.ref a), some (.str (tS [c])), some (.ref pl)] ∧ RowI C a pl T d c l H m' H', fun σ' H' h => h, ?_⟩
    refine ⟨fun σ' H' => σ' = [some (.ref a), some (.str (tS [c])), some (.ref pl)] ∧ Bt H H' a ∧ ∃ pos l2, sepd ws l' = some l2 ∧ RdAt C H' a T pos ∧ At T pos l2 ∧ H' pl = some (.lst xs) ∧ Rws H' ws xs, ?_, ?_⟩
    · refine ⟨_, rfl, pl, xs, rfl, .inl (SqL.of hx1), _, _, rfl, rfl, _, rfl, ite2 (fun g => ?_) (fun g => ?_)⟩
      · have g' := of_decide_eq_true g
        have h0 : ws ≠ [] := fun e => by rw [e] at lx; rw [lx] at g'; exact absurd g' (by decide)
        refine ⟨_, rfl, a, dx1, _, rfl, ha1, rfl, a, T, " ", pos, l', rfl, rd1, ok, at1', (by decide), (by decide), fun r hm H2 b2 rd2 at2 => ?_, fun hm => ?_⟩
        · rw [l32, mid1] at hm
          refine ⟨rfl, b1.trans b2, _, r, ?_, rd2, at2, b2.at (Ne.symm na) hx1, hw1.mono (b2.tk rd1)⟩
          unfold sepd
          rw [if_neg h0]
          exact hm
        · rw [l32, mid1] at hm
          have e0 : sepd ws l' = none := by
            unfold sepd
            rw [if_neg h0]
            exact hm
          exact q2 (by rw [e0]; rfl)
      · have g' := of_decide_eq_false (Bool.eq_false_iff.mpr g)
        have h0 := nil0 lx g'
        exact ⟨rfl, b1, pos, l', by unfold sepd; rw [if_pos h0], rd1, at1', hx1, hw1⟩
    · rintro σ2 H2 ⟨rfl, b2, pos2, l2, e2, rd2, at2, hx2, hw2⟩
      obtain ⟨dx2, ha2⟩ := id rd2
      rw [e2] at er q1 q2
      have suf2 := sepd_suf e2
      have o2 := opn_suf suf2
      refine ⟨_, rfl, .inl ⟨rfl, xs, SqL.of hx2⟩, ?_⟩
      refine ⟨_, rfl, a, dx2, _, rfl, ha2, rfl, a, T, pos2, l2, rfl, rd2, ok, at2, Nat.le_trans o2 (Nat.le_trans o1 ho), fun u r eu v pos3 H3 b3 rd3 at3 hv => ?_, fun eu => q2 (by show ((pTerm d l2).bind _).bind _ = none; rw [eu]; rfl)⟩
      have hx3 := b3.at (Ne.symm na) hx2
      refine ⟨pl, xs, v, rfl, rfl, hx3, few lx (Nat.le_trans (Nat.le_add_right _ _) (Nat.le_trans hle (Nat.le_trans h5 (by decide)))), ?_⟩
      obtain ⟨dx3, ha3⟩ := id rd3
      have k4 := tk_lst hx3 (.lst (xs ++ [v]))
      obtain ⟨n1, n2⟩ := term_nar d l2 u r eu
      have n3 := suf2.length_le
      have n4 := Nat.lt_of_lt_of_le n2 n3
      refine ⟨r.length, n4, rfl, Bt.tup (xs := xs) (b2.trans b3) hpl _, pos3, r, ws ++ [u], xs ++ [v], k2, rfl, ⟨dx3, by rw [upd_ne na]; exact ha3⟩, at3, n1.trans (suf2.trans suf), Nat.lt_of_lt_of_le n4 (Nat.le_of_lt_succ hk'), snocL hle n4, upd_same, ((hw2.mono (b3.tk rd2)).mono k4).snoc (hv.mono k4), ?_⟩
      rw [er]
      show (pTerm d l2).bind _ = _
      rw [eu]
      rfl
theorem ok_Reader_read_term {C CN : Addr} (D : MDef K C "read_term" "Reader.read_term" s_Reader_read_term ["self"] []) (T_Reader : TC K C ["text", "place"]) (G_Reader_ahead : MOk CX0 P w K mg base C "ahead" ["self"] 1 (spAhead C) [])
    (G_Reader_pass_over : MOk (CX1 P w) P w K mg base C "pass_over" ["self", "signs"] 1 (spXPass C CN) []) (G_Reader_read_number : MOk (CX1 P w) P w K mg base C "read_number" ["self"] 3 (spXNum C CN) []) (G_Reader_read_name : MOk (CX1 P w) P w K mg base C "read_name" ["self"] 3 (spXName C CN) [])
    {k d : Nat} {sp : Sp} (hk : 3 ≤ k) (hsp : (d = 0 ∧ sp = fun _ _ _ _ => False) ∨ ∃ e, d = e + 1 ∧ sp = spXRow C CN e) (G_Reader_read_row : MOk (CX1 P w) P w K mg base C "read_row" ["self", "close"] k sp []) : MOk (CX1 P w) P w K mg base C "read_term" ["self"] (k + 1) (spXTerm C CN d) [] := by
  refine D.okX sc_Reader_read_term (fun vs H Q E h => ?_) (fun f cdv A outer s H vs Q E hr h => ?_)
  · obtain ⟨a, T, p, l, rfl, _⟩ := h
    rfl
  obtain ⟨a, T, p, l, rfl, hrd, ok, hl, ho, q1, q2⟩ := h
  obtain ⟨dx, ha⟩ := id hrd
  refine ⟨_, (pss_cons (ps_if (pt_cmpR op_eq (pe_mok0 G_Reader_ahead T_Reader.cl hr (by first | exact Nat.le_refl _ | decide | assumption | exact Nat.le_trans (by decide) hk | omega) (pv 0)) pe_str (nomark _)) (pss_cons (ps_expr (pe_mokX G_Reader_pass_over T_Reader.cl rfl hr (by first | exact Nat.le_refl _ | decide | assumption | exact Nat.le_trans (by decide) hk | omega) (pv 0) (pa_cons pe_str pa_nil)))
    (pss_one (ps_ret (pe_tup (pa_cons pe_str (pa_cons (pe_mokX0 G_Reader_read_number T_Reader.cl rfl hr (by first | exact Nat.le_refl _ | decide | assumption | exact Nat.le_trans (by decide) hk | omega) (pv 0)) pa_nil)))))) pss_nil)
    (pss_cons (ps_set (i := 1) sc_Reader_read_term.nd rfl (Or.inl rfl) (pe_mokX0 G_Reader_read_name T_Reader.cl rfl hr (by first | exact Nat.le_refl _ | decide | assumption | exact Nat.le_trans (by decide) hk | omega) (pv 0)))
    (pss_cons (ps_expr (pe_mokX G_Reader_pass_over T_Reader.cl rfl hr (by first | exact Nat.le_refl _ | decide | assumption | exact Nat.le_trans (by decide) hk | omega) (pv 0) (pa_cons pe_str pa_nil)))
    (pss_one (ps_ret (pe_tup (pa_cons pe_str (pa_cons (pv 1) (pa_cons (pe_mokX G_Reader_read_row T_Reader.cl rfl hr (by first | exact Nat.le_refl _ | decide | assumption | exact Nat.le_trans (by decide) hk | omega) (pv 0) (pa_cons pe_str pa_nil)) pa_nil))))))))), ?_⟩
  refine ⟨_, rfl, a, dx, _, rfl, ha, rfl, a, T, p, l, rfl, hrd, ok, hl, rfl, _, rfl, ?_⟩
  rw [head_dec (c := 35) (x := "#") rfl]
  by_cases h35 : l.head? = some 35
  · rw [decide_eq_true h35]
    have eT : pTerm d l = pVar l.tail := by cases d <;> rw [pTerm, if_pos h35]
    rw [eT] at q1 q2
    refine iteT ⟨_, rfl, a, dx, _, rfl, ha, rfl, a, T, "#", p, l, rfl, hrd, ok, hl, (by decide), (by decide), fun r er H1 b1 rd1 at1' => ?_, fun en => ?_⟩
    · rw [l35, mid1, if_pos h35] at er
      cases er
      obtain ⟨dx1, ha1⟩ := id rd1
      refine ⟨_, rfl, a, dx1, _, rfl, ha1, rfl, a, T, _, l.tail, rfl, rd1, ok, at1', fun x ex p' H2 b2 rd2 at2' => ?_, fun en => q2 (by unfold pVar; rw [en]; rfl)⟩
      refine ⟨(by show 2 ≤ sizeLine; decide), fun t ht => ?_⟩
      exact q1 (.var x.1) x.2 (by unfold pVar; rw [ex]; rfl) _ _ _ ((b1.trans b2).trans (Bt.new ht)) (rd2.new ht) at2' (.var upd_same)
    · rw [l35, mid1, if_pos h35] at en
      cases en
  · rw [decide_eq_false h35]
    refine iteF ⟨_, rfl, a, dx, _, rfl, ha, rfl, a, T, p, l, rfl, hrd, ok, hl, fun x ex p1 H1 b1 rd1 at1' => ?_, fun en => q2 ?_⟩
    · obtain ⟨dx1, ha1⟩ := id rd1
      have ox := opn_suf (name_nar ex).1
      refine ⟨_, rfl, a, dx1, _, rfl, ha1, rfl, a, T, "(", p1, x.2, rfl, rd1, ok, at1', (by decide), (by decide), fun r er H2 b2 rd2 at2' => ?_, fun en => q2 ?_⟩
      · rw [l40, mid1] at er
        split at er
        · rename_i c40
          cases er
          have o40 := Nat.le_trans (Nat.le_of_eq (opn_tail c40 (.inl rfl)).symm) (Nat.le_trans ox ho)
          rcases hsp with ⟨rfl, _⟩ | ⟨e, rfl, rfl⟩
          · exact absurd o40 (Nat.not_succ_le_zero _)
          obtain ⟨dx2, ha2⟩ := id rd2
          have eT : pTerm (e + 1) l = (pRow (pTerm e) 41 x.2.tail).map fun y => (wFun x.1 y.1, y.2) := by
            rw [pTerm, if_neg h35]
            unfold pNode
            rw [ex]
            show (if x.2.head? = some 40 then _ else none) = _
            rw [if_pos c40]
          rw [eT] at q1 q2
          refine ⟨_, rfl, _, rfl, a, dx2, _, rfl, ha2, rfl, a, T, _, 41, x.2.tail, rfl, (by decide), rd2, ok, at2', Nat.le_of_succ_le_succ o40, fun y ey t xs p3 H3 b3 rd3 at3 ht hw => ?_, fun en => q2 (by rw [en]; rfl)⟩
          refine ⟨(by show 3 ≤ sizeLine; decide), fun t2 ht2 => ?_⟩
          have k3 : Tk H3 (upd H3 t2 (.tup [.str "fun", .str x.1, .ref t])) := fun b ys e => by rw [upd_ne (ne_of_none e ht2)]; exact e
          exact q1 (wFun x.1 y.1) y.2 (by rw [ey]; rfl) _ _ _ (((b1.trans b2).trans b3).trans (Bt.new ht2)) (rd3.new ht2) at3 (.node (hw.mono k3) (.named t rfl upd_same (k3 _ _ ht)))
        · cases er
      · rw [l40, mid1] at en
        have c40 : ¬ x.2.head? = some 40 := fun z => by rw [if_pos z] at en; cases en
        cases d with
        | zero => rw [pTerm, if_neg h35]
        | succ d =>
          rw [pTerm, if_neg h35]
          unfold pNode
          rw [ex]
          show (if x.2.head? = some 40 then _ else none) = none
          rw [if_neg c40]
    · cases d with
      | zero => rw [pTerm, if_neg h35]
      | succ d =>
        rw [pTerm, if_neg h35]
        unfold pNode
        rw [en]
        rfl
theorem ok_Reader_terms {C CN : Addr} {tM : Tok} (Dt_ : MDef K C "read_term" "Reader.read_term" s_Reader_read_term ["self"] []) (Dr : MDef K C "read_row" "Reader.read_row" s_Reader_read_row ["self", "close"] []) (B : Blt mg) (c_MOST_PARTS : mg "MOST_PARTS" = some (.int 3 tM)) (T_Reader : TC K C ["text", "place"]) (E_NoWord : ECls K mg base "NoWord" CN)
    (G_Reader_ahead : MOk CX0 P w K mg base C "ahead" ["self"] 1 (spAhead C) []) (G_Reader_pass_over : MOk (CX1 P w) P w K mg base C "pass_over" ["self", "signs"] 1 (spXPass C CN) []) (G_Reader_read_number : MOk (CX1 P w) P w K mg base C "read_number" ["self"] 3 (spXNum C CN) [])
    (G_Reader_read_name : MOk (CX1 P w) P w K mg base C "read_name" ["self"] 3 (spXName C CN) []) : ∀ d : Nat, MOk (CX1 P w) P w K mg base C "read_term" ["self"] (2 * d + 4) (spXTerm C CN d) [] ∧ MOk (CX1 P w) P w K mg base C "read_row" ["self", "close"] (2 * d + 5) (spXRow C CN d) []
  | 0 => by
    have t := ok_Reader_read_term Dt_ T_Reader G_Reader_ahead G_Reader_pass_over G_Reader_read_number G_Reader_read_name (k := 3) (d := 0) (by decide) (.inl ⟨rfl, rfl⟩) (Dr.void fun _ _ _ _ h => h)
    exact ⟨t, ok_Reader_read_row Dr B c_MOST_PARTS T_Reader E_NoWord (Nat.le_add_left 1 _) G_Reader_ahead G_Reader_pass_over t⟩
  | d + 1 => by
    have ih := ok_Reader_terms Dt_ Dr B c_MOST_PARTS T_Reader E_NoWord G_Reader_ahead G_Reader_pass_over G_Reader_read_number G_Reader_read_name d
    have t := ok_Reader_read_term Dt_ T_Reader G_Reader_ahead G_Reader_pass_over G_Reader_read_number G_Reader_read_name (k := 2 * d + 5) (d := d + 1) (Nat.le_add_left 3 (2 * d + 2)) (.inr ⟨d, rfl, rfl⟩) ih.2
    exact ⟨t, ok_Reader_read_row Dr B c_MOST_PARTS T_Reader E_NoWord (Nat.le_add_left 1 _) G_Reader_ahead G_Reader_pass_over t⟩
theorem ok_Reader_read_form {C CN : Addr} {k g d : Nat} {sp sp2 : Sp} (D : MDef K C "read_form" "Reader.read_form" s_Reader_read_form ["self"] []) (T_Reader : TC K C ["text", "place"]) (hk : 3 ≤ k) (G_Reader_ahead : MOk CX0 P w K mg base C "ahead" ["self"] 1 (spAhead C) [])
    (G_Reader_pass_over : MOk (CX1 P w) P w K mg base C "pass_over" ["self", "signs"] 1 (spXPass C CN) []) (G_Reader_read_name : MOk (CX1 P w) P w K mg base C "read_name" ["self"] 3 (spXName C CN) []) (G_Reader_read_row : MOk (CX1 P w) P w K mg base C "read_row" ["self", "close"] k (spXRow C CN g) [])
    (hsp : (d = 0 ∧ (sp = fun _ _ _ _ => False) ∧ sp2 = fun _ _ _ _ => False) ∨ ∃ e, d = e + 1 ∧ sp = spXForm C CN g e ∧ sp2 = spXPair C CN g e) (G_Reader_read_form : MOk (CX1 P w) P w K mg base C "read_form" ["self"] k sp []) (G_Reader_read_pair : MOk (CX1 P w) P w K mg base C "read_pair" ["self"] k sp2 []) :
    MOk (CX1 P w) P w K mg base C "read_form" ["self"] (k + 1) (spXForm C CN g d) [] := by
  refine D.okX sc_Reader_read_form (fun vs H Q E h => ?_) (fun f cdv A outer s H vs Q E hr h => ?_)
  · obtain ⟨a, T, p, l, rfl, _⟩ := h
    rfl
  obtain ⟨a, T, p, l, rfl, hrd, ok, hl, ho, hog, q1, q2⟩ := h
  obtain ⟨dx, ha⟩ := id hrd
  refine ⟨_, (pss_cons (ps_set (i := 1) sc_Reader_read_form.nd rfl (Or.inl rfl) (pe_mok0 G_Reader_ahead T_Reader.cl hr (by first | exact Nat.le_refl _ | decide | assumption | exact Nat.le_trans (by decide) hk | omega) (pv 0)))
    (pss_cons (ps_if (pt_cmpR op_eq (pv 1) pe_str (nomark _)) (pss_cons (ps_expr (pe_mokX G_Reader_pass_over T_Reader.cl rfl hr (by first | exact Nat.le_refl _ | decide | assumption | exact Nat.le_trans (by decide) hk | omega) (pv 0) (pa_cons pe_str pa_nil)))
    (pss_one (ps_ret (pe_tup (pa_cons pe_str pa_nil))))) pss_nil)
    (pss_cons (ps_if (pt_cmpR op_eq (pv 1) pe_str (nomark _)) (pss_cons (ps_expr (pe_mokX G_Reader_pass_over T_Reader.cl rfl hr (by first | exact Nat.le_refl _ | decide | assumption | exact Nat.le_trans (by decide) hk | omega) (pv 0) (pa_cons pe_str pa_nil)))
    (pss_one (ps_ret (pe_tup (pa_cons pe_str (pa_cons (pe_mokX0 G_Reader_read_form T_Reader.cl rfl hr (by first | exact Nat.le_refl _ | decide | assumption | exact Nat.le_trans (by decide) hk | omega) (pv 0)) pa_nil)))))) pss_nil)
    (pss_cons (ps_if (pt_cmpR op_eq (pv 1) pe_str (nomark _)) (pss_one (ps_ret (pe_mokX0 G_Reader_read_pair T_Reader.cl rfl hr (by first | exact Nat.le_refl _ | decide | assumption | exact Nat.le_trans (by decide) hk | omega) (pv 0)))) pss_nil)
    (pss_cons (ps_set (i := 2) sc_Reader_read_form.nd rfl (Or.inl rfl) (pe_mokX0 G_Reader_read_name T_Reader.cl rfl hr (by first | exact Nat.le_refl _ | decide | assumption | exact Nat.le_trans (by decide) hk | omega) (pv 0)))
    (pss_cons (ps_expr (pe_mokX G_Reader_pass_over T_Reader.cl rfl hr (by first | exact Nat.le_refl _ | decide | assumption | exact Nat.le_trans (by decide) hk | omega) (pv 0) (pa_cons pe_str pa_nil)))
    (pss_one (ps_ret (pe_tup (pa_cons pe_str (pa_cons (pv 2) (pa_cons (pe_mokX G_Reader_read_row T_Reader.cl rfl hr (by first | exact Nat.le_refl _ | decide | assumption | exact Nat.le_trans (by decide) hk | omega) (pv 0) (pa_cons pe_str pa_nil)) pa_nil)))))))))))), ?_⟩
  refine ⟨_, rfl, a, dx, _, rfl, ha, rfl, a, T, p, l, rfl, hrd, ok, hl, ?_⟩
  refine ⟨_, rfl, rfl, _, rfl, ?_⟩
  rw [head_dec (c := 33) (x := "!") rfl]
  by_cases h33 : l.head? = some 33
  · rw [decide_eq_true h33]
    have eF : pForm g d l = some (wNo, l.tail) := by cases d <;> rw [pForm, if_pos h33]
    refine iteT ⟨_, rfl, a, dx, _, rfl, ha, rfl, a, T, "!", p, l, rfl, hrd, ok, hl, (by decide), (by decide), fun r er H1 b1 rd1 at1' => ?_, fun en => ?_⟩
    · rw [l33, mid1, if_pos h33] at er
      cases er
      refine ⟨(by show 1 ≤ sizeLine; decide), fun t ht => ?_⟩
      exact q1 _ _ eF _ _ _ (b1.trans (Bt.new ht)) (rd1.new ht) at1' (.node .nil (.plain rfl upd_same rfl))
    · rw [l33, mid1, if_pos h33] at en
      cases en
  rw [decide_eq_false h33]
  refine iteF ⟨_, rfl, rfl, _, rfl, ?_⟩
  rw [head_dec (c := 42) (x := "*") rfl]
  by_cases h42 : l.head? = some 42
  · rw [decide_eq_true h42]
    have o42 := Nat.le_of_eq (opn_tail h42 (.inr rfl)).symm
    have oe := Nat.le_trans o42 ho
    rcases hsp with ⟨rfl, _⟩ | ⟨e, rfl, rfl, rfl⟩
    · exact absurd oe (Nat.not_succ_le_zero _)
    have eF : pForm g (e + 1) l = (pForm g e l.tail).map fun x => (wAll x.1, x.2) := by rw [pForm, if_neg h33, if_pos h42]
    rw [eF] at q1 q2
    refine iteT ⟨_, rfl, a, dx, _, rfl, ha, rfl, a, T, "*", p, l, rfl, hrd, ok, hl, (by decide), (by decide), fun r er H1 b1 rd1 at1' => ?_, fun en => ?_⟩
    · rw [l42, mid1, if_pos h42] at er
      cases er
      obtain ⟨dx1, ha1⟩ := id rd1
      refine ⟨_, rfl, a, dx1, _, rfl, ha1, rfl, a, T, _, l.tail, rfl, rd1, ok, at1', Nat.le_of_succ_le_succ oe, Nat.le_of_succ_le (Nat.le_trans o42 hog), fun u r eu v p2 H2 b2 rd2 at2' hv => ?_, fun en => q2 (by rw [en]; rfl)⟩
      refine ⟨(by show 2 ≤ sizeLine; decide), fun t ht => ?_⟩
      have k2 : Tk H2 (upd H2 t (.tup [.str "all", v])) := fun b ys e => by rw [upd_ne (ne_of_none e ht)]; exact e
      exact q1 (wAll u) r (by rw [eu]; rfl) _ _ _ ((b1.trans b2).trans (Bt.new ht)) (rd2.new ht) at2' (.node (.cons (hv.mono k2) .nil) (.plain rfl upd_same rfl))
    · rw [l42, mid1, if_pos h42] at en
      cases en
  rw [decide_eq_false h42]
  refine iteF ⟨_, rfl, rfl, _, rfl, ?_⟩
  rw [head_dec (c := 40) (x := "(") rfl]
  by_cases h40 : l.head? = some 40
  · rw [decide_eq_true h40]
    have o40 := Nat.le_of_eq (opn_tail h40 (.inl rfl)).symm
    have oe := Nat.le_trans o40 ho
    rcases hsp with ⟨rfl, _⟩ | ⟨e, rfl, rfl, rfl⟩
    · exact absurd oe (Nat.not_succ_le_zero _)
    have eF : pForm g (e + 1) l = pPair (pTerm g) (pForm g e) l.tail := by rw [pForm, if_neg h33, if_neg h42, if_pos h40]
    rw [eF] at q1 q2
    exact iteT ⟨_, rfl, a, dx, _, rfl, ha, rfl, a, T, p, l, rfl, hrd, ok, hl, h40, Nat.le_of_succ_le_succ oe, Nat.le_of_succ_le (Nat.le_trans o40 hog), q1, q2⟩
  rw [decide_eq_false h40]
  have eF : pForm g d l = pNode (pTerm g) 91 93 wRel l := by cases d <;> rw [pForm, if_neg h33, if_neg h42, if_neg h40]
  rw [eF] at q1 q2
  refine iteF ⟨_, rfl, a, dx, _, rfl, ha, rfl, a, T, p, l, rfl, hrd, ok, hl, fun x ex p1 H1 b1 rd1 at1' => ?_, fun en => q2 (by unfold pNode; rw [en]; rfl)⟩
  obtain ⟨dx1, ha1⟩ := id rd1
  have ox := opn_suf (name_nar ex).1
  unfold pNode at q1 q2
  rw [ex] at q1 q2
  refine ⟨_, rfl, a, dx1, _, rfl, ha1, rfl, a, T, "[", p1, x.2, rfl, rd1, ok, at1', (by decide), (by decide), fun r er H2 b2 rd2 at2' => ?_, fun en => q2 ?_⟩
  · rw [l91, mid1] at er
    split at er
    · rename_i c91
      cases er
      obtain ⟨dx2, ha2⟩ := id rd2
      have eN : ((some x).bind fun x => if x.2.head? = some 91 then (pRow (pTerm g) 93 x.2.tail).map fun y => (wRel x.1 y.1, y.2) else none) = (pRow (pTerm g) 93 x.2.tail).map fun y => (wRel x.1 y.1, y.2) := by
        show (if x.2.head? = some 91 then _ else none) = _
        rw [if_pos c91]
      rw [eN] at q1 q2
      have ot := opn_suf (List.tail_suffix x.2)
      refine ⟨_, rfl, _, rfl, a, dx2, _, rfl, ha2, rfl, a, T, _, 93, x.2.tail, rfl, (by decide), rd2, ok, at2', Nat.le_trans ot (Nat.le_trans ox hog), fun y ey t xs p3 H3 b3 rd3 at3 ht hw => ?_, fun en => q2 (by rw [en]; rfl)⟩
      refine ⟨(by show 3 ≤ sizeLine; decide), fun t2 ht2 => ?_⟩
      have k3 : Tk H3 (upd H3 t2 (.tup [.str "rel", .str x.1, .ref t])) := fun b ys e => by rw [upd_ne (ne_of_none e ht2)]; exact e
      exact q1 (wRel x.1 y.1) y.2 (by rw [ey]; rfl) _ _ _ (((b1.trans b2).trans b3).trans (Bt.new ht2)) (rd3.new ht2) at3 (.node (hw.mono k3) (.named t rfl upd_same (k3 _ _ ht)))
    · cases er
  · rw [l91, mid1] at en
    have c91 : ¬ x.2.head? = some 91 := fun z => by rw [if_pos z] at en; cases en
    show (if x.2.head? = some 91 then _ else none) = none
    rw [if_neg c91]
theorem ok_Reader_read_pair {C CN : Addr} {k g d : Nat} (D : MDef K C "read_pair" "Reader.read_pair" s_Reader_read_pair ["self"] []) (T_Reader : TC K C ["text", "place"]) (hk : 3 ≤ k) (G_Reader_pass_over : MOk (CX1 P w) P w K mg base C "pass_over" ["self", "signs"] 1 (spXPass C CN) [])
    (G_Reader_term_is_ahead : MOk CX0 P w K mg base C "term_is_ahead" ["self"] 2 (spXAhead C) []) (G_Reader_read_term : MOk (CX1 P w) P w K mg base C "read_term" ["self"] k (spXTerm C CN g) []) (G_Reader_read_form : MOk (CX1 P w) P w K mg base C "read_form" ["self"] k (spXForm C CN g d) []) :
    MOk (CX1 P w) P w K mg base C "read_pair" ["self"] (k + 1) (spXPair C CN g d) [] := by
  refine D.okX sc_Reader_read_pair (fun vs H Q E h => ?_) (fun f cdv A outer s H vs Q E hr h => ?_)
  · obtain ⟨a, T, p, l, rfl, _⟩ := h
    rfl
  obtain ⟨a, T, p, l, rfl, hrd, ok, hl, h40, ho, hog, q1, q2⟩ := h
  obtain ⟨dx, ha⟩ := id hrd
  refine ⟨_, (pss_cons (ps_expr (pe_mokX G_Reader_pass_over T_Reader.cl rfl hr (by first | exact Nat.le_refl _ | decide | assumption | exact Nat.le_trans (by decide) hk | omega) (pv 0) (pa_cons pe_str pa_nil)))
    (pss_cut (ps_if (pt_val (pe_mok0 G_Reader_term_is_ahead T_Reader.cl hr (by first | exact Nat.le_refl _ | decide | assumption | exact Nat.le_trans (by decide) hk | omega) (pv 0))) (pss_cons (ps_set (i := 1) sc_Reader_read_pair.nd rfl (Or.inl rfl) (pe_mokX0 G_Reader_read_term T_Reader.cl rfl hr (by first | exact Nat.le_refl _ | decide | assumption | exact Nat.le_trans (by decide) hk | omega) (pv 0)))
    (pss_cons (ps_expr (pe_mokX G_Reader_pass_over T_Reader.cl rfl hr (by first | exact Nat.le_refl _ | decide | assumption | exact Nat.le_trans (by decide) hk | omega) (pv 0) (pa_cons pe_str pa_nil)))
    (pss_one (ps_set (i := 2) sc_Reader_read_pair.nd rfl (Or.inl rfl) (pe_tup (pa_cons pe_str (pa_cons (pv 1) (pa_cons (pe_mokX0 G_Reader_read_term T_Reader.cl rfl hr (by first | exact Nat.le_refl _ | decide | assumption | exact Nat.le_trans (by decide) hk | omega) (pv 0)) pa_nil)))))))) (pss_cons (ps_set (i := 1) sc_Reader_read_pair.nd rfl (Or.inl rfl) (pe_mokX0 G_Reader_read_form T_Reader.cl rfl hr (by first | exact Nat.le_refl _ | decide | assumption | exact Nat.le_trans (by decide) hk | omega) (pv 0)))
    (pss_cons (ps_expr (pe_mokX G_Reader_pass_over T_Reader.cl rfl hr (by first | exact Nat.le_refl _ | decide | assumption | exact Nat.le_trans (by decide) hk | omega) (pv 0) (pa_cons pe_str pa_nil)))
    (pss_one (ps_set (i := 2) sc_Reader_read_pair.nd rfl (Or.inl rfl) (pe_tup (pa_cons pe_str (pa_cons (pv 1) (pa_cons (pe_mokX0 G_Reader_read_form T_Reader.cl rfl hr (by first | exact Nat.le_refl _ | decide | assumption | exact Nat.le_trans (by decide) hk | omega) (pv 0)) pa_nil)))))))))
    (pss_cons (ps_expr (pe_mokX G_Reader_pass_over T_Reader.cl rfl hr (by first | exact Nat.le_refl _ | decide | assumption | exact Nat.le_trans (by decide) hk | omega) (pv 0) (pa_cons pe_str pa_nil)))
    (pss_one (ps_ret (pv 2)))))), ?_⟩
  refine ⟨_, rfl, a, dx, _, rfl, ha, rfl, a, T, "(", p, l, rfl, hrd, ok, hl, (by decide), (by decide), fun r er H1 b1 rd1 a1 => ?_, fun en => ?_⟩
  · rw [l40, mid1, if_pos h40] at er
    cases er
    obtain ⟨dx1, ha1⟩ := id rd1
    have q1' : ∀ w r, pPair (pTerm g) (pForm g d) l.tail = some (w, r) → _ := q1
    have q2' : pPair (pTerm g) (pForm g d) l.tail = none → _ := q2
    clear q1 q2
    refine ⟨fun σ H2 => Bt H H2 a ∧ ∃ pos o1 v w r, σ = [some (.ref a), o1, some v] ∧ RdAt C H2 a T pos ∧ At T pos r ∧ Rw H2 w v ∧ pPair (pTerm g) (pForm g d) l.tail = (mid [41] r).map fun r' => (w, r'), ?_, ?_⟩
    · refine ⟨_, rfl, a, dx1, _, rfl, ha1, rfl, a, T, _, l.tail, rfl, rd1, ok, a1, _, rfl, ?_⟩
      cases ta : termAhead l.tail with
      | true =>
        have eP : pPair (pTerm g) (pForm g d) l.tail = pTwo (pTerm g) [32, 61, 32] wSame l.tail := by unfold pPair; rw [if_pos ta]
        rw [eP] at q2'
        unfold pTwo at q2'
        refine iteT ⟨_, rfl, a, dx1, _, rfl, ha1, rfl, a, T, _, l.tail, rfl, rd1, ok, a1, hog, fun u r eu v1 p2 H2 b2 rd2 a2 hv1 => ?_, fun en => q2' (by rw [en]; rfl)⟩
        rw [eu] at q2'
        obtain ⟨dx2, ha2⟩ := id rd2
        refine ⟨_, rfl, a, dx2, _, rfl, ha2, rfl, a, T, " = ", p2, r, rfl, rd2, ok, a2, (by decide), (by decide), fun r2 er H3 b3 rd3 a3 => ?_, fun en => q2' (by rw [lEq] at en; show (mid [32, 61, 32] r).bind _ = none; rw [en]; rfl)⟩
        rw [lEq] at er
        obtain ⟨dx3, ha3⟩ := id rd3
        have o2 := opn_suf (term_nar g l.tail u r eu).1
        have o3 := opn_suf (mid_suf er)
        refine ⟨_, rfl, _, rfl, a, dx3, _, rfl, ha3, rfl, a, T, _, r2, rfl, rd3, ok, a3, Nat.le_trans o3 (Nat.le_trans o2 hog), fun u2 r3 eu2 v2 p4 H4 b4 rd4 a4 hv2 => ?_, fun en => q2' (by show (mid [32, 61, 32] r).bind _ = none; rw [er]; show (pTerm g r2).bind _ = none; rw [en]; rfl)⟩
        refine ⟨(by show 3 ≤ sizeLine; decide), fun t ht => ?_⟩
        have k4 : Tk H4 (upd H4 t (.tup [.str "same", v1, v2])) := fun b ys e => by rw [upd_ne (ne_of_none e ht)]; exact e
        refine ⟨(((b1.trans b2).trans b3).trans b4).trans (Bt.new ht), _, _, _, wSame u u2, r3, rfl, rd4.new ht, a4, .node (.cons ((((hv1.mono (b3.tk rd2)).mono (b4.tk rd3))).mono k4) (.cons (hv2.mono k4) .nil)) (.plain rfl upd_same rfl), ?_⟩
        rw [eP]
        unfold pTwo
        rw [eu]
        show (mid [32, 61, 32] r).bind _ = _
        rw [er]
        show (pTerm g r2).bind _ = _
        rw [eu2]
        rfl
      | false =>
        have eP : pPair (pTerm g) (pForm g d) l.tail = pTwo (pForm g d) [32, 62, 32] wIf l.tail := by unfold pPair; rw [if_neg (by rw [ta]; decide)]
        rw [eP] at q2'
        unfold pTwo at q2'
        refine iteF ⟨_, rfl, a, dx1, _, rfl, ha1, rfl, a, T, _, l.tail, rfl, rd1, ok, a1, ho, hog, fun u r eu v1 p2 H2 b2 rd2 a2 hv1 => ?_, fun en => q2' (by rw [en]; rfl)⟩
        rw [eu] at q2'
        obtain ⟨dx2, ha2⟩ := id rd2
        refine ⟨_, rfl, a, dx2, _, rfl, ha2, rfl, a, T, " > ", p2, r, rfl, rd2, ok, a2, (by decide), (by decide), fun r2 er H3 b3 rd3 a3 => ?_, fun en => q2' (by rw [lGt] at en; show (mid [32, 62, 32] r).bind _ = none; rw [en]; rfl)⟩
        rw [lGt] at er
        obtain ⟨dx3, ha3⟩ := id rd3
        have o2 := opn_suf (form_nar g d l.tail u r eu).1
        have o3 := opn_suf (mid_suf er)
        refine ⟨_, rfl, _, rfl, a, dx3, _, rfl, ha3, rfl, a, T, _, r2, rfl, rd3, ok, a3, Nat.le_trans o3 (Nat.le_trans o2 ho), Nat.le_trans o3 (Nat.le_trans o2 hog), fun u2 r3 eu2 v2 p4 H4 b4 rd4 a4 hv2 => ?_, fun en => q2' (by show (mid [32, 62, 32] r).bind _ = none; rw [er]; show (pForm g d r2).bind _ = none; rw [en]; rfl)⟩
        refine ⟨(by show 3 ≤ sizeLine; decide), fun t ht => ?_⟩
        have k4 : Tk H4 (upd H4 t (.tup [.str "if", v1, v2])) := fun b ys e => by rw [upd_ne (ne_of_none e ht)]; exact e
        refine ⟨(((b1.trans b2).trans b3).trans b4).trans (Bt.new ht), _, _, _, wIf u u2, r3, rfl, rd4.new ht, a4, .node (.cons ((((hv1.mono (b3.tk rd2)).mono (b4.tk rd3))).mono k4) (.cons (hv2.mono k4) .nil)) (.plain rfl upd_same rfl), ?_⟩
        rw [eP]
        unfold pTwo
        rw [eu]
        show (mid [32, 62, 32] r).bind _ = _
        rw [er]
        show (pForm g d r2).bind _ = _
        rw [eu2]
        rfl
    · rintro σ H2 ⟨b2, pos, o1, v, w, r, rfl, rd2, a2, hv, ep⟩
      obtain ⟨dx2, ha2⟩ := id rd2
      refine ⟨_, rfl, a, dx2, _, rfl, ha2, rfl, a, T, ")", pos, r, rfl, rd2, ok, a2, (by decide), (by decide), fun r2 er H3 b3 rd3 a3 => ?_, fun en => q2' (by rw [ep]; rw [l41] at en; rw [en]; rfl)⟩
      rw [l41] at er
      exact ⟨_, rfl, q1' w r2 (by rw [ep, er]; rfl) v _ H3 (b2.trans b3) rd3 a3 (hv.mono (b3.tk rd2))⟩
  · rw [l40, mid1, if_pos h40] at en
    cases en
theorem ok_Reader_forms {C CN : Addr} {g k : Nat} (Df : MDef K C "read_form" "Reader.read_form" s_Reader_read_form ["self"] []) (Dp : MDef K C "read_pair" "Reader.read_pair" s_Reader_read_pair ["self"] []) (T_Reader : TC K C ["text", "place"]) (G_Reader_ahead : MOk CX0 P w K mg base C "ahead" ["self"] 1 (spAhead C) [])
    (G_Reader_pass_over : MOk (CX1 P w) P w K mg base C "pass_over" ["self", "signs"] 1 (spXPass C CN) []) (G_Reader_read_name : MOk (CX1 P w) P w K mg base C "read_name" ["self"] 3 (spXName C CN) []) (G_Reader_term_is_ahead : MOk CX0 P w K mg base C "term_is_ahead" ["self"] 2 (spXAhead C) []) (hk : 3 ≤ k)
    (G_Reader_read_term : MOk (CX1 P w) P w K mg base C "read_term" ["self"] k (spXTerm C CN g) []) (G_Reader_read_row : MOk (CX1 P w) P w K mg base C "read_row" ["self", "close"] (k + 1) (spXRow C CN g) []) : ∀ d : Nat, MOk (CX1 P w) P w K mg base C "read_form" ["self"] (2 * d + k + 2) (spXForm C CN g d) []
  | 0 => by
    have f := ok_Reader_read_form (k := k + 1) (d := 0) Df T_Reader (Nat.le_succ_of_le hk) G_Reader_ahead G_Reader_pass_over G_Reader_read_name G_Reader_read_row (.inl ⟨rfl, rfl, rfl⟩) (Df.void fun _ _ _ _ h => h) (Dp.void fun _ _ _ _ h => h)
    exact f.mono (up3 (d := 0)).2.2.2
  | d + 1 => by
    have ih := ok_Reader_forms Df Dp T_Reader G_Reader_ahead G_Reader_pass_over G_Reader_read_name G_Reader_term_is_ahead hk G_Reader_read_term G_Reader_read_row d
    have p := ok_Reader_read_pair (k := 2 * d + k + 2) Dp T_Reader (Nat.le_trans hk up3.2.1) G_Reader_pass_over G_Reader_term_is_ahead (G_Reader_read_term.mono up3.2.1) ih
    have f := ok_Reader_read_form (k := 2 * d + k + 3) Df T_Reader (Nat.le_trans hk (Nat.le_of_succ_le up3.2.2.1)) G_Reader_ahead G_Reader_pass_over G_Reader_read_name (G_Reader_read_row.mono up3.2.2.1) (.inr ⟨d, rfl, rfl, rfl⟩) (ih.mono (Nat.le_succ _)) p
    exact f.mono up3.1
theorem ok_Reader_term_is_ahead {C : Addr} {tL : Tok} (D : MDef K C "term_is_ahead" "Reader.term_is_ahead" s_Reader_term_is_ahead ["self"] []) (c_LETTERS : mg "LETTERS" = some (.str "abcdefghijklmnopqrstuvwxyz" tL)) (T_Reader : TC K C ["text", "place"]) (G_Reader_ahead : MOk CX0 P w K mg base C "ahead" ["self"] 1 (spAhead C) [])
    (G_Reader_end_of_run : MOk CX0 P w K mg base C "end_of_run" ["self", "signs"] 1 (spEnd C) []) : MOk CX0 P w K mg base C "term_is_ahead" ["self"] 2 (spXAhead C) [] := by
  refine D.ok sc_Reader_term_is_ahead (fun vs H Q E h => ?_) (fun f cdv A outer s H vs Q E hr h => ?_)
  · obtain ⟨a, T, p, l, rfl, _⟩ := h
    rfl
  obtain ⟨a, T, p, l, rfl, hrd, ok, hl, q⟩ := h
  obtain ⟨dx, ha⟩ := id hrd
  refine ⟨_, (pss_cons (ps_set (i := 1) sc_Reader_term_is_ahead.nd rfl (Or.inl rfl) (pe_mok G_Reader_end_of_run T_Reader.cl hr (by first | exact Nat.le_refl _ | decide | assumption | exact Nat.le_trans (by decide) hk | omega) (pv 0) (pa_cons (pe_glob (v := .str "abcdefghijklmnopqrstuvwxyz") (by rfl) c_LETTERS ⟨_, rfl⟩) pa_nil)))
    (pss_cons (ps_if (pt_cmpR op_eq (pv 1) (pe_fld (pv 0) (by rfl)) (nomark _)) (pss_one (ps_ret (pe_cmpR op_eq (pe_mok0 G_Reader_ahead T_Reader.cl hr (by first | exact Nat.le_refl _ | decide | assumption | exact Nat.le_trans (by decide) hk | omega) (pv 0)) pe_str (nomark _)))) pss_nil)
    (pss_one (ps_ret (pe_cmpR op_eq (pe_slice sl_str (pe_fld (pv 0) (by rfl)) (po_some (pv 1)) (po_some (pe_op op_add (pv 1) pe_int))) pe_str (nomark _)))))), ?_⟩
  have hw := tw_at isLet hl
  refine ⟨_, rfl, a, dx, _, rfl, ha, rfl, a, T, _, p, l.takeWhile isLet, l.dropWhile isLet, isLet, rfl, hrd, ok, hw, (fun x hx => let_in ⟨x, hx⟩), tw_all _ _, tw_stp _ _, ?_⟩
  refine ⟨_, rfl, _, rfl, a, C, dx, _, _, rfl, ha, T_Reader.cl, T_Reader.na _ (by simp), look_place, rfl, _, rfl, ?_⟩
  unfold termAhead at q
  by_cases e0 : l.takeWhile isLet = []
  · rw [if_pos e0] at q
    rw [decide_eq_true (show V.int ((p + (l.takeWhile isLet).length : Nat) : Int) = V.int (p : Nat) by rw [e0]; rfl)]
    refine iteT ⟨_, rfl, a, dx, _, rfl, ha, rfl, a, T, p, l, rfl, hrd, ok, hl, rfl, ?_⟩
    rw [head_dec (c := 35) (x := "#") rfl]
    exact q
  · rw [if_neg e0] at q
    have l0 : (l.takeWhile isLet).length ≠ 0 := fun e => e0 (List.eq_nil_of_length_eq_zero e)
    rw [decide_eq_false (show ¬ V.int ((p + (l.takeWhile isLet).length : Nat) : Int) = V.int (p : Nat) from fun e => by injection e with e; omega)]
    refine iteF ⟨_, rfl, a, C, dx, _, _, rfl, ha, T_Reader.cl, T_Reader.na _ (by simp), look_text, ?_⟩
    refine ⟨_, rfl, _, rfl, _, rfl, _, _, rfl, rfl, _, rfl, T, rfl, ok.sz, rfl, ?_⟩
    rw [slice1 hw.go, head_dec (c := 40) (x := "(") rfl]
    exact q
theorem ok_read {C CN : Addr} {k n : Nat} (D : Def K mg "read" s_read ["text"]) (T_Reader : TC K C ["text", "place"]) (E_NoWord : ECls K mg base "NoWord" CN) (hk : 1 ≤ k) (G_Reader : MMk P w K mg base "Reader" C ["self", "text"] 1 (spRInit C)) (G_Reader_ahead : MOk CX0 P w K mg base C "ahead" ["self"] 1 (spAhead C) [])
    (G_Reader_read_form : MOk (CX1 P w) P w K mg base C "read_form" ["self"] (k + 1) (spXForm C CN n n) []) : OkX P w K mg base "read" ["text"] (k + 2) (spXRead CN n) := by
  refine D.okX sc_read (fun vs H Q E h => ?_) (fun f cdv A outer s H vs Q E hr h => ?_)
  · obtain ⟨T, rfl, _⟩ := h
    rfl
  obtain ⟨T, rfl, ok, ho, q1, q2⟩ := h
  refine ⟨_, (pss_cons (ps_set (i := 1) sc_read.nd rfl (Or.inl rfl) (pe_mmk G_Reader hr (by first | exact Nat.le_refl _ | decide | assumption | exact Nat.le_trans (by decide) hk | omega) (by rfl) (pa_cons (pv 0) pa_nil)))
    (pss_cons (ps_set (i := 2) sc_read.nd rfl (Or.inl rfl) (pe_mokX0 G_Reader_read_form T_Reader.cl rfl hr (by first | exact Nat.le_refl _ | decide | assumption | exact Nat.le_trans (by decide) hk | omega) (pv 1)))
    (pss_cons (ps_if (pt_cmpR op_ne (pe_mok0 G_Reader_ahead T_Reader.cl hr (by first | exact Nat.le_refl _ | decide | assumption | exact Nat.le_trans (by decide) hk | omega) (pv 1)) pe_str (nomark _)) (pss_one (ps_raise E_NoWord.exc rfl rfl (by rfl) (pa_cons pe_str pa_nil))) pss_nil)
    (pss_one (ps_ret (pv 2)))))), ?_⟩
  have h0 : At T 0 T.cps.toList := ⟨List.drop_zero, Nat.zero_le _⟩
  refine ⟨_, rfl, fun a dx ha hdx ne => ⟨a, dx, T, rfl, upd_same, fun H1 o1 rd1 => ⟨rfl, ?_⟩⟩⟩
  obtain ⟨dx1, ha1⟩ := id rd1
  unfold pText at q1 q2
  refine ⟨_, rfl, a, dx1, _, rfl, ha1, rfl, a, T, 0, _, rfl, rd1, ok, h0, ho, ho, fun w r ew v p2 H2 b2 rd2 a2 hv => ?_, fun en => q2 (by rw [en]; rfl)⟩
  obtain ⟨dx2, ha2⟩ := id rd2
  rw [ew] at q1 q2
  refine ⟨_, rfl, a, dx2, _, rfl, ha2, rfl, a, T, p2, r, rfl, rd2, ok, a2, rfl, _, rfl, ite2 (fun c => ?_) (fun c => ?_)⟩
  · refine ⟨(by show 1 ≤ sizeLine; decide), q2 ?_ _⟩
    show (if r = [] then some w else none) = none
    rw [if_neg]
    intro z
    have c' : (!decide (V.str (tS (r.take 1)) = V.str "")) = true := c
    rw [z, decide_eq_true (show V.str (tS (([] : List Nat).take 1)) = V.str "" from rfl)] at c'
    cases c'
  · have er : r = [] := by
      have c' : ¬ (!decide (V.str (tS (r.take 1)) = V.str "")) = true := c
      have e1 : decide (V.str (tS (r.take 1)) = V.str "") = true := by simpa using c'
      have e2 := tS_inj (b := []) (of_decide_eq_true e1)
      cases r with
      | nil => rfl
      | cons x y => cases e2
    refine ⟨_, rfl, q1 w ?_ v H2 (same_of fun b o g => ?_) hv⟩
    · show (if r = [] then some w else none) = some w
      rw [if_pos er]
    have n1 : b ≠ a := fun z => by rw [z, ha] at g; cases g
    have n2 : b ≠ dx := fun z => by rw [z, hdx] at g; cases g
    refine b2 b o n1 ?_
    rw [o1 b n1, upd_ne n1, upd_ne n2]; exact g
def cellOf (ns : List Int) (k : Int) : Int := ns.getD k.toNat 0
def spCell (K : PySem.W.Frag) : Sp := fun vs H Q _ => ∃ (a : Addr) (ns : List Int) (k : Int), vs = [.ref a, .int k] ∧ SqL K H a (ns.map V.int) ∧ 0 ≤ k ∧ Q (.int (cellOf ns k)) H
theorem ok_law_cell_at (D : Def K mg "_law_cell_at" s_law_cell_at ["script", "k"]) (B : Blt mg) : Ok P w K mg base "_law_cell_at" ["script", "k"] 1 (spCell K) := by
  refine D.ok sc_law_cell_at (fun vs H Q E h => ?_) (fun f cdv A outer s H vs Q E hr h => ?_)
  · obtain ⟨a, ns, k, rfl, _⟩ := h
    rfl
  obtain ⟨a, ns, k, rfl, hS, h0, q⟩ := h
  refine ⟨_, (pss_cons (ps_if (pt_cmpR op_lt (pv 1) (pe_callB call_len_seq (by rfl) B.len PySem.boot_len (pa_cons (pv 0) pa_nil)) (nomark _)) (pss_one (ps_ret (pe_ix ix_list (pv 0) (pv 1) (fun _ _ => rfl)))) pss_nil)
    (pss_one (ps_ret pe_int))), ?_⟩
  have hl : (ns.map V.int).length = ns.length := List.length_map _
  refine ⟨_, rfl, _, rfl, a, _, rfl, .inl hS, _, _, rfl, rfl, _, rfl, ?_⟩
  refine ite2 (fun c => ?_) (fun c => ?_)
  · have c' := of_decide_eq_true c
    rw [hl] at c'
    have hk : k.toNat < ns.length := by omega
    have ek : k = ((k.toNat : Nat) : Int) := by omega
    have z : atI (ns.map V.int) ((k.toNat : Nat) : Int) = some (.int ns[k.toNat]) := atI_nat (by rw [List.getElem?_map, List.getElem?_eq_getElem hk] <;> rfl)
    rw [← ek] at z
    refine ⟨_, rfl, _, rfl, a, _, _, _, rfl, rfl, hS, z, ?_⟩
    have e : cellOf ns k = ns[k.toNat] := by unfold cellOf; rw [List.getD_eq_getElem?_getD, List.getElem?_eq_getElem hk]; rfl
    rw [← e]
    exact q
  · have c' := of_decide_eq_false (Bool.eq_false_iff.mpr c)
    rw [hl] at c'
    have e : cellOf ns k = 0 := by unfold cellOf; rw [List.getD_eq_getElem?_getD, List.getElem?_eq_none (by omega)]; rfl
    rw [e] at q
    exact q
def spNext : Sp := fun vs H Q _ => ∃ s : Int, vs = [.int s] ∧ Q (.int (nxt s)) H
theorem ok_law_next (D : Def K mg "_law_next" s_law_next ["seed"]) : Ok P w K mg base "_law_next" ["seed"] 1 spNext := by
  refine D.ok sc_law_next (fun vs H Q E h => ?_) (fun f cdv A outer s H vs Q E hr h => ?_)
  · obtain ⟨a, rfl, _⟩ := h
    rfl
  obtain ⟨a, rfl, q⟩ := h
  refine ⟨_, (pss_one (ps_ret (pe_op op_mod (pe_op op_add (pe_op op_mul (pv 0) pe_int) pe_int) pe_int))), ?_⟩
  exact ⟨_, rfl, _, _, rfl, rfl, .inr ⟨by decide, by decide⟩, _, _, rfl, rfl, _, _, rfl, rfl, (by show (0 : Int) < 2147483647; decide), q⟩
def spPart : Sp := fun vs H Q _ => ∃ s k : Int, vs = [.int s, .int k] ∧ ∀ r H', Same H H' → Q (.int r) H'
theorem ok_law_part (D : Def K mg "_law_part" s_law_part ["seed", "k"]) : Ok P w K mg base "_law_part" ["seed", "k"] 1 spPart := by
  refine D.ok sc_law_part (fun vs H Q E h => ?_) (fun f cdv A outer s H vs Q E hr h => ?_)
  · obtain ⟨a, k, rfl, _⟩ := h
    rfl
  obtain ⟨a, k, rfl, q⟩ := h
  refine ⟨_, (pss_one (ps_ret (pe_op op_fdiv (pe_op op_mod (pe_op op_add (pe_op op_add (pe_op op_mul (pv 0) (pe_ix ix_list (pe_lst (pa_cons pe_int (pa_cons pe_int (pa_cons pe_int (pa_cons pe_int (pa_cons pe_int pa_nil)))))) (pe_op op_mod (pv 1) pe_int) (fun _ _ => rfl))) pe_int) (pv 1)) pe_int) pe_int))), ?_⟩
  refine ⟨_, rfl, (by show 5 ≤ sizeLine; decide), fun p hp => ?_⟩
  have s1 := same_new (H := H) hp (.lst [.int 48271, .int 69621, .int 16807, .int 40692, .int 39373])
  obtain ⟨c, hc, h1, h2⟩ := five k
  refine ⟨_, rfl, _, _, rfl, rfl, (by show (0 : Int) < 5; decide), p, _, _, _, rfl, rfl, SqL.of upd_same, hc, _, _, rfl, rfl, .inr ⟨by omega, by omega⟩, _, _, rfl, rfl, _, rfl, _, _, rfl, rfl, _, _, rfl, rfl, (by show (0 : Int) < 2147483647; decide), _, _, rfl, rfl, ⟨by decide, by decide⟩, ?_⟩
  exact q _ _ s1
def spName : Sp := fun vs H Q _ => ∃ c : Int, vs = [.int c] ∧ ∀ x : Str, IsName x → Q (.str x) H
theorem ok_law_name_by (D : Def K mg "_law_name_by" s_law_name_by ["cell"]) (B : Blt mg) (G_law_next : Ok P w K mg base "_law_next" ["seed"] 1 spNext) : Ok P w K mg base "_law_name_by" ["cell"] 2 spName := by
  refine D.ok sc_law_name_by (fun vs H Q E h => ?_) (fun f cdv A outer s H vs Q E hr h => ?_)
  · obtain ⟨a, rfl, _⟩ := h
    rfl
  obtain ⟨c, rfl, q⟩ := h
  refine ⟨_, (pss_cons (ps_set (i := 1) sc_law_name_by.nd rfl (Or.inl rfl) (pe_ok G_law_next hr (by first | exact Nat.le_refl _ | decide | assumption | exact Nat.le_trans (by decide) hk | omega) rfl (pa_cons (pv 0) pa_nil)))
    (pss_cons (ps_set (i := 2) sc_law_name_by.nd rfl (Or.inl rfl) pe_str)
    (pss_cons (ps_for PassesOwn.never rfl (pi_range1 (by rfl) B.range (pa_cons (pe_op op_add pe_int (pe_op op_mod (pv 0) pe_int)) pa_nil)) (pg_name (i := 3) sc_law_name_by.nd rfl (Or.inl rfl)) (pss_cons (ps_set (i := 2) sc_law_name_by.nd rfl (Or.inl rfl) (pe_op op_add_str (pv 2) (pe_ix ix_str pe_str (pe_op op_mod (pe_op op_fdiv (pv 1) pe_int) pe_int) (fun _ _ => rfl))))
    (pss_one (ps_set (i := 1) sc_law_name_by.nd rfl (Or.inl rfl) (pe_ok G_law_next hr (by first | exact Nat.le_refl _ | decide | assumption | exact Nat.le_trans (by decide) hk | omega) rfl (pa_cons (pv 1) pa_nil))))))
    (pss_one (ps_ret (pv 2)))))), ?_⟩
  have h0 := Int.emod_nonneg c (show (12 : Int) ≠ 0 by decide)
  have h1 := Int.emod_lt_of_pos c (show (0 : Int) < 12 by decide)
  refine ⟨_, rfl, c, rfl, _, rfl, _, _, rfl, rfl, (by show (0 : Int) < 12; decide), _, _, rfl, rfl, _, rfl, (by omega), (by omega), ?_⟩
  refine for_range (lo := 0) (n := (1 + c % 12).toNat) (fun i σ H' => H' = H ∧ ∃ (sd : Int) (x : Str) (o : Option V), σ = [some (.int c), some (.int sd), some (.str x), o] ∧ x.length = i ∧ ∀ d ∈ x.cps.toList, 97 ≤ d ∧ d ≤ 122) ⟨rfl, _, "", none, rfl, rfl, (fun d hd => by cases hd)⟩ (fun i σ H' hi hP => ?_) (fun σ H' hP => ?_)
  · obtain ⟨rfl, sd, x, o, rfl, hl, hx⟩ := hP
    obtain ⟨d, hd, d1, d2⟩ := alpha (sd / 64)
    refine ⟨_, rfl, _, rfl, _, _, rfl, rfl, ⟨by decide, by decide⟩, _, _, rfl, rfl, (by show (0 : Int) < 26; decide), _, _, d, rfl, rfl, (by decide +kernel), hd, _, _, rfl, rfl, ?_, ?_⟩
    · show x.length + 1 ≤ sizeLine
      rw [sizeLine_eq]; omega
    · refine ⟨_, rfl, _, rfl, rfl, _, _, _, rfl, ?_, ?_⟩
      · rw [str_add_len, hl]; rfl
      · intro e he
        rw [str_add_cps] at he
        rcases List.mem_append.mp he with he | he
        · exact hx e he
        · have : e = d := by simpa using he
          omega
  · obtain ⟨rfl, sd, x, o, rfl, hl, hx⟩ := hP
    exact ⟨_, rfl, q x ⟨by omega, by omega, hx⟩⟩
def spNames : Sp := fun vs H Q _ => ∃ c : Int, vs = [.int c] ∧ ∀ (l : Addr) (x y z : Str) (H' : Hp), Same H H' → IsName x → IsName y → IsName z → H' l = some (.lst [.str x, .str y, .str z]) → Q (.ref l) H'
theorem ok_law_names_by (D : Def K mg "_law_names_by" s_law_names_by ["cell"]) (G_law_name_by : Ok P w K mg base "_law_name_by" ["cell"] 2 spName) : Ok P w K mg base "_law_names_by" ["cell"] 3 spNames := by
  refine D.ok sc_law_names_by (fun vs H Q E h => ?_) (fun f cdv A outer s H vs Q E hr h => ?_)
  · obtain ⟨a, rfl, _⟩ := h
    rfl
  obtain ⟨c, rfl, q⟩ := h
  refine ⟨_, (pss_one (ps_ret (pe_lst (pa_cons (pe_ok G_law_name_by hr (by first | exact Nat.le_refl _ | decide | assumption | exact Nat.le_trans (by decide) hk | omega) rfl (pa_cons (pv 0) pa_nil)) (pa_cons (pe_ok G_law_name_by hr (by first | exact Nat.le_refl _ | decide | assumption | exact Nat.le_trans (by decide) hk | omega) rfl (pa_cons (pe_op op_add (pe_op op_fdiv (pv 0) pe_int) pe_int) pa_nil)) (pa_cons (pe_slice sl_str (pe_ok G_law_name_by hr (by first | exact Nat.le_refl _ | decide | assumption | exact Nat.le_trans (by decide) hk | omega) rfl (pa_cons (pv 0) pa_nil)) po_none (po_some pe_int)) pa_nil)))))), ?_⟩
  refine ⟨_, rfl, _, rfl, fun x hx => ?_⟩
  refine ⟨_, rfl, _, _, rfl, rfl, ⟨by decide, by decide⟩, _, _, rfl, rfl, _, rfl, fun y hy => ?_⟩
  refine ⟨_, rfl, _, rfl, fun z hz => ?_⟩
  refine ⟨1, rfl, z, rfl, ?_, (by show 3 ≤ sizeLine; decide), fun p hp => ?_⟩
  · have := hz.2.1
    rw [sizeLine_eq]; omega
  · exact q p x y _ _ (same_new hp _) hx hy (name_head hz) upd_same
def spVar : Sp := fun vs H Q _ => ∃ s : Int, vs = [.int s] ∧ ∀ (r : V) (n : Int) (H' : Hp), Same H H' → Rw H' (.var n) r → 0 ≤ n → n < 1000 → Q r H'
theorem ok_law_var_by (D : Def K mg "_law_var_by" s_law_var_by ["seed"]) : Ok P w K mg base "_law_var_by" ["seed"] 1 spVar := by
  refine D.ok sc_law_var_by (fun vs H Q E h => ?_) (fun f cdv A outer s H vs Q E hr h => ?_)
  · obtain ⟨a, rfl, _⟩ := h
    rfl
  obtain ⟨c, rfl, q⟩ := h
  refine ⟨_, (pss_cons (ps_if (pt_cmpR op_eq (pe_op op_mod (pv 0) pe_int) pe_int (nomark _)) (pss_one (ps_ret (pe_tup (pa_cons pe_str (pa_cons (pe_op op_mod (pe_op op_fdiv (pv 0) pe_int) pe_int) pa_nil))))) pss_nil)
    (pss_one (ps_ret (pe_tup (pa_cons pe_str (pa_cons (pe_op op_mod (pe_op op_fdiv (pv 0) pe_int) pe_int) pa_nil)))))), ?_⟩
  refine ⟨_, rfl, _, _, rfl, rfl, (by show (0 : Int) < 9; decide), rfl, _, rfl, ?_⟩
  refine ite2 (fun _ => ?_) (fun _ => ?_)
  · refine ⟨_, rfl, _, _, rfl, rfl, ⟨by decide, by decide⟩, _, _, rfl, rfl, (by show (0 : Int) < 1000; decide), (by show 2 ≤ sizeLine; decide), fun p hp => ?_⟩
    have h0 := Int.emod_nonneg (c / 9) (show (1000 : Int) ≠ 0 by decide)
    have h1 := Int.emod_lt_of_pos (c / 9) (show (0 : Int) < 1000 by decide)
    exact q _ _ _ (same_new hp _) (.var upd_same) h0 h1
  · refine ⟨_, rfl, _, _, rfl, rfl, ⟨by decide, by decide⟩, _, _, rfl, rfl, (by show (0 : Int) < 4; decide), (by show 2 ≤ sizeLine; decide), fun p hp => ?_⟩
    have h0 := Int.emod_nonneg (c / 9) (show (4 : Int) ≠ 0 by decide)
    have h1 := Int.emod_lt_of_pos (c / 9) (show (0 : Int) < 4 by decide)
    exact q _ _ _ (same_new hp _) (.var upd_same) h0 (by omega)
/-- the names that a word may have, as a list in the heap -/
def Nms (H : Hp) (l : Addr) : Prop := ∃ x y z : Str, IsName x ∧ IsName y ∧ IsName z ∧ H l = some (.lst [.str x, .str y, .str z])
theorem Nms.mono {H H' : Hp} {l : Addr} (h : Nms H l) (s : Same H H') : Nms H' l := by
  obtain ⟨x, y, z, hx, hy, hz, e⟩ := h
  exact ⟨x, y, z, hx, hy, hz, s.at e⟩
theorem Nms.at {H : Hp} {l : Addr} (h : Nms H l) (m : Int) : ∃ (xs : List V) (x : Str), H l = some (.lst xs) ∧ atI xs (m % 3) = some (.str x) ∧ IsName x := by
  obtain ⟨x, y, z, hx, hy, hz, e⟩ := h
  have h0 := Int.emod_nonneg m (show (3 : Int) ≠ 0 by decide)
  have h1 := Int.emod_lt_of_pos m (show (0 : Int) < 3 by decide)
  have h : m % 3 = 0 ∨ m % 3 = 1 ∨ m % 3 = 2 := by omega
  rcases h with e' | e' | e' <;> rw [e']
  · exact ⟨_, x, e, at0, hx⟩
  · exact ⟨_, y, e, at1, hy⟩
  · exact ⟨_, z, e, at2, hz⟩
def spTerm (N : Nat) : Sp := fun vs H Q _ => ∃ (s : Int) (n : Nat) (l : Addr), vs = [.int s, .int n, .ref l] ∧ n ≤ N ∧ Nms H l ∧ ∀ (r : V) (w : Wd) (H' : Hp), Same H H' → Rw H' w r → IsTerm n w → Q r H'
theorem ok_law_term_by (D : Def K mg "_law_term_by" s_law_term_by ["seed", "deep", "names"]) (B : Blt mg) (G_law_part : Ok P w K mg base "_law_part" ["seed", "k"] 1 spPart) (G_law_var_by : Ok P w K mg base "_law_var_by" ["seed"] 1 spVar) :
    ∀ N : Nat, Ok P w K mg base "_law_term_by" ["seed", "deep", "names"] (N + 2) (spTerm N) := by
  have step : ∀ (N : Nat) (sp : Sp), (N = 0 ∧ sp = (fun _ _ _ _ => False)) ∨ (∃ M, N = M + 1 ∧ sp = spTerm M) → Ok P w K mg base "_law_term_by" ["seed", "deep", "names"] (N + 1) sp → Ok P w K mg base "_law_term_by" ["seed", "deep", "names"] (N + 2) (spTerm N) := by
    intro N sp hsp G_law_term_by
    refine D.ok sc_law_term_by (fun vs H Q E h => ?_) (fun f cdv A outer s H vs Q E hr h => ?_)
    · obtain ⟨a, n, l, rfl, _⟩ := h
      rfl
    obtain ⟨sd, n, l, rfl, hn, hl, q⟩ := h
    refine ⟨_, (pss_cons (ps_if (PW.pt (pw_or (pt_cmpR op_eq (pv 1) pe_int (nomark _)) (pw_or1 (pt_cmpR op_eq (pe_op op_mod (pv 0) pe_int) pe_int (nomark _))))) (pss_one (ps_ret (pe_ok G_law_var_by hr (by first | exact Nat.le_refl _ | decide | assumption | exact Nat.le_trans (by decide) hk | omega) rfl (pa_cons (pe_op op_fdiv (pv 0) pe_int) pa_nil)))) pss_nil)
    (pss_cons (ps_set (i := 3) sc_law_term_by.nd rfl (Or.inl rfl) (pe_lst pa_nil))
    (pss_cons (ps_for PassesOwn.never rfl (pi_range1 (by rfl) B.range (pa_cons (pe_op op_mod (pe_op op_fdiv (pv 0) pe_int) pe_int) pa_nil)) (pg_name (i := 4) sc_law_term_by.nd rfl (Or.inl rfl)) (pss_one (ps_expr (pe_bm PySem.F.plainAttrs_list PySem.F.slot_list_append PySem.F.type_list_append mt_append (pv 3) (pa_cons (pe_ok G_law_term_by hr (by first | exact Nat.le_refl _ | decide | assumption | exact Nat.le_trans (by decide) hk | omega) rfl (pa_cons (pe_ok G_law_part hr (by first | exact Nat.le_refl _ | decide | assumption | exact Nat.le_trans (by decide) hk | omega) rfl (pa_cons (pv 0) (pa_cons (pv 4) pa_nil))) (pa_cons (pe_op op_sub (pv 1) pe_int) (pa_cons (pv 2) pa_nil)))) pa_nil)))))
    (pss_one (ps_ret (pe_tup (pa_cons pe_str (pa_cons (pe_ix ix_list (pv 2) (pe_op op_mod (pe_op op_fdiv (pv 0) pe_int) pe_int) (fun _ _ => rfl)) (pa_cons (pe_callTy call_tuple_of (by rfl) B.tuple PyProof.Rows.boot_tuple (pa_cons (pv 3) pa_nil)) pa_nil))))))))), ?_⟩
    have var : ∀ H1, Same H H1 → spVar [.int (sd / 3)] H1 Q E0 := fun H1 s1 => ⟨_, rfl, fun r m H' s2 hr' h0 h1 => q r _ H' (s1.trans s2) hr' (by cases n <;> exact ⟨h0, h1⟩)⟩
    refine ⟨_, rfl, rfl, _, rfl, ?_⟩
    refine ite2 (fun _ => ?_) (fun c => ?_)
    · exact iteT ⟨_, rfl, _, _, rfl, rfl, ⟨by decide, by decide⟩, var H (Same.refl H)⟩
    have c' : ¬ V.int n = V.int 0 := of_decide_eq_false (Bool.eq_false_iff.mpr c)
    have hn0 : n ≠ 0 := fun e => c' (by rw [e]; rfl)
    refine ⟨_, rfl, _, _, rfl, rfl, (by show (0 : Int) < 3; decide), rfl, _, rfl, ?_⟩
    refine ite2 (fun _ => ?_) (fun _ => ?_)
    · exact ⟨_, rfl, _, _, rfl, rfl, ⟨by decide, by decide⟩, var H (Same.refl H)⟩
    rcases hsp with ⟨rfl, _⟩ | ⟨M, rfl, rfl⟩
    · exact absurd (Nat.le_zero.mp hn) hn0
    obtain ⟨m, rfl⟩ : ∃ m, n = m + 1 := Nat.exists_eq_succ_of_ne_zero hn0
    have h0 := Int.emod_nonneg (sd / 3) (show (4 : Int) ≠ 0 by decide)
    have h1 := Int.emod_lt_of_pos (sd / 3) (show (0 : Int) < 4 by decide)
    have h4 := toNat4 h1
    refine ⟨(by show 0 ≤ sizeLine; decide), fun pl hpl => ?_⟩
    refine ⟨_, rfl, _, _, rfl, rfl, ⟨by decide, by decide⟩, _, _, rfl, rfl, (by show (0 : Int) < 4; decide), _, rfl, (by omega), (by omega), ?_⟩
    refine for_range (lo := 0) (n := (sd / 3 % 4).toNat) (fun i σ H1 => Same H H1 ∧ ∃ (o : Option V) (xs : List V) (ws : List Wd), σ = [some (.int sd), some (.int ((m + 1 : Nat) : Int)), some (.ref l), some (.ref pl), o] ∧ H1 pl = some (.lst xs) ∧ Rws H1 ws xs ∧ ws.length = i ∧ ∀ w ∈ ws, IsTerm m w)
      ⟨same_new hpl _, none, [], [], rfl, upd_same, .nil, rfl, fun w hw => by cases hw⟩ (fun i σ H1 hi hP => ?_) (fun σ H1 hP => ?_)
    · obtain ⟨s1, o, xs, ws, rfl, hx, hws, hlen, hT⟩ := hP
      refine ⟨_, rfl, .inl ⟨rfl, xs, SqL.of hx⟩, ?_⟩
      refine ⟨_, rfl, _, rfl, _, _, rfl, fun r H2 s2 => ?_⟩
      refine ⟨_, rfl, _, _, rfl, rfl, _, rfl, r, m, l, ?_, Nat.le_of_succ_le_succ hn, hl.mono (s1.trans s2), fun v w H3 s3 hv hw => ?_⟩
      · show [V.int r, V.int (((m + 1 : Nat) : Int) - 1), V.ref l] = _
        rw [downI]
      · have s4 := s2.trans s3
        have hx3 := s4.at hx
        have hlx := hws.length
        refine ⟨pl, xs, v, rfl, rfl, hx3, few hlx (Nat.le_trans (Nat.le_of_eq hlen) (Nat.le_trans (Nat.le_of_lt hi) (Nat.le_trans h4 (by decide)))), ?_⟩
        have k3 := tk_lst hx3 (.lst (xs ++ [v]))
        refine ⟨same_own (s1.trans s4) hpl hx3 _, _, _, ws ++ [w], rfl, upd_same, ((hws.mono (tk_of s4)).snoc hv).mono k3, by rw [List.length_append, hlen]; rfl, fun u hu => ?_⟩
        rcases List.mem_append.mp hu with hu | hu
        · exact hT u hu
        · have : u = w := by simpa using hu
          rw [this]; exact hw
    · obtain ⟨s1, o, xs, ws, rfl, hx, hws, hlen, hT⟩ := hP
      obtain ⟨ns, nm, hl1, hat, hnm⟩ := (hl.mono s1).at (sd / 12)
      refine ⟨_, rfl, _, rfl, _, _, rfl, rfl, ⟨by decide, by decide⟩, _, _, rfl, rfl, (by show (0 : Int) < 3; decide), l, _, _, _, rfl, rfl, SqL.of hl1, hat, ?_⟩
      refine ⟨_, rfl, pl, xs, rfl, .inl ⟨SqL.of hx, fun t ht => ?_⟩⟩
      refine ⟨(by show 3 ≤ sizeLine; decide), fun p hp => ?_⟩
      have s2 := same_new ht (.tup xs)
      have s3 := same_new hp (.tup [.str "fun", .str nm, .ref t])
      refine q (.ref p) (.node .fn nm ws) _ (s1.trans (s2.trans s3)) (.node (hws.mono (tk_of (s2.trans s3))) (.named t rfl upd_same (s3.at upd_same))) ?_
      show _ ∧ _
      exact ⟨rfl, hnm, Nat.le_trans (Nat.le_of_eq hlen) h4, hT⟩
  intro N
  induction N with
  | zero => exact step 0 _ (.inl ⟨rfl, rfl⟩) (D.void fun _ _ _ _ h => h)
  | succ N ih => exact step (N + 1) _ (.inr ⟨N, rfl, rfl⟩) ih
def spForm (N : Nat) : Sp := fun vs H Q _ => ∃ (s : Int) (n : Nat) (l : Addr), vs = [.int s, .int n, .ref l] ∧ n ≤ N ∧ Nms H l ∧ ∀ (r : V) (w : Wd) (H' : Hp), Same H H' → Rw H' w r → IsForm n w → Q r H'
theorem ok_law_form_by (D : Def K mg "_law_form_by" s_law_form_by ["seed", "deep", "names"]) (B : Blt mg) (G_law_part : Ok P w K mg base "_law_part" ["seed", "k"] 1 spPart) (G_law_term_by : Ok P w K mg base "_law_term_by" ["seed", "deep", "names"] 4 (spTerm 2)) :
    ∀ N : Nat, Ok P w K mg base "_law_form_by" ["seed", "deep", "names"] (N + 5) (spForm N) := by
  have step : ∀ (N : Nat) (sp : Sp), (N = 0 ∧ sp = (fun _ _ _ _ => False)) ∨ (∃ M, N = M + 1 ∧ sp = spForm M) → Ok P w K mg base "_law_form_by" ["seed", "deep", "names"] (N + 4) sp → Ok P w K mg base "_law_form_by" ["seed", "deep", "names"] (N + 5) (spForm N) := by
    intro N sp hsp G_law_form_by
    refine D.ok sc_law_form_by (fun vs H Q E h => ?_) (fun f cdv A outer s H vs Q E hr h => ?_)
    · obtain ⟨a, n, l, rfl, _⟩ := h
      rfl
    obtain ⟨sd, n, l, rfl, hn, hl, q⟩ := h
    refine ⟨_, (pss_cons (ps_set (i := 3) sc_law_form_by.nd rfl (Or.inl rfl) (pe_op op_mod (pv 0) pe_int))
    (pss_cons (ps_if (pt_cmpR op_eq (pv 3) pe_int (nomark _)) (pss_one (ps_ret (pe_tup (pa_cons pe_str pa_nil)))) pss_nil)
    (pss_cons (ps_set (i := 4) sc_law_form_by.nd rfl (Or.inl rfl) (pe_op op_add pe_int (pe_callTy call_int1 (by rfl) B.int PyProof.Rows.boot_int (pa_cons (pe_cmpR op_eq (pe_op op_mod (pe_op op_fdiv (pv 0) pe_int) pe_int) pe_int (nomark _)) pa_nil))))
    (pss_cons (ps_if (pt_cmpR op_eq (pv 3) pe_int (nomark _)) (pss_cons (ps_set (i := 5) sc_law_form_by.nd rfl (Or.inl rfl) (pe_ok G_law_term_by hr (by first | exact Nat.le_refl _ | decide | assumption | exact Nat.le_trans (by decide) hk | omega) rfl (pa_cons (pe_ok G_law_part hr (by first | exact Nat.le_refl _ | decide | assumption | exact Nat.le_trans (by decide) hk | omega) rfl (pa_cons (pv 0) (pa_cons pe_int pa_nil))) (pa_cons (pv 4) (pa_cons (pv 2) pa_nil)))))
    (pss_one (ps_ret (pe_tup (pa_cons pe_str (pa_cons (pv 5) (pa_cons (pe_ok G_law_term_by hr (by first | exact Nat.le_refl _ | decide | assumption | exact Nat.le_trans (by decide) hk | omega) rfl (pa_cons (pe_ok G_law_part hr (by first | exact Nat.le_refl _ | decide | assumption | exact Nat.le_trans (by decide) hk | omega) rfl (pa_cons (pv 0) (pa_cons pe_int pa_nil))) (pa_cons pe_int (pa_cons (pv 2) pa_nil)))) pa_nil))))))) pss_nil)
    (pss_cons (ps_if (PW.pt (pw_or (pt_cmpR op_lt (pv 3) pe_int (nomark _)) (pw_or1 (pt_cmpR op_eq (pv 1) pe_int (nomark _))))) (pss_cons (ps_set (i := 6) sc_law_form_by.nd rfl (Or.inl rfl) (pe_lst pa_nil))
    (pss_cons (ps_for PassesOwn.never rfl (pi_range1 (by rfl) B.range (pa_cons (pe_op op_mod (pe_op op_fdiv (pv 0) pe_int) pe_int) pa_nil)) (pg_name (i := 7) sc_law_form_by.nd rfl (Or.inl rfl)) (pss_one (ps_expr (pe_bm PySem.F.plainAttrs_list PySem.F.slot_list_append PySem.F.type_list_append mt_append (pv 6) (pa_cons (pe_ok G_law_term_by hr (by first | exact Nat.le_refl _ | decide | assumption | exact Nat.le_trans (by decide) hk | omega) rfl (pa_cons (pe_ok G_law_part hr (by first | exact Nat.le_refl _ | decide | assumption | exact Nat.le_trans (by decide) hk | omega) rfl (pa_cons (pv 0) (pa_cons (pv 7) pa_nil))) (pa_cons (pe_ifExp (pt_cmpR op_eq (pv 7) pe_int (nomark _)) (pv 4) pe_int) (pa_cons (pv 2) pa_nil)))) pa_nil)))))
    (pss_one (ps_ret (pe_tup (pa_cons pe_str (pa_cons (pe_ix ix_list (pv 2) (pe_op op_mod (pe_op op_fdiv (pv 0) pe_int) pe_int) (fun _ _ => rfl)) (pa_cons (pe_callTy call_tuple_of (by rfl) B.tuple PyProof.Rows.boot_tuple (pa_cons (pv 6) pa_nil)) pa_nil)))))))) pss_nil)
    (pss_cons (ps_if (pt_cmpR op_gt (pv 3) pe_int (nomark _)) (pss_one (ps_ret (pe_tup (pa_cons pe_str (pa_cons (pe_ok G_law_form_by hr (by first | exact Nat.le_refl _ | decide | assumption | exact Nat.le_trans (by decide) hk | omega) rfl (pa_cons (pe_ok G_law_part hr (by first | exact Nat.le_refl _ | decide | assumption | exact Nat.le_trans (by decide) hk | omega) rfl (pa_cons (pv 0) (pa_cons pe_int pa_nil))) (pa_cons (pe_op op_sub (pv 1) pe_int) (pa_cons (pv 2) pa_nil)))) pa_nil))))) pss_nil)
    (pss_cons (ps_set (i := 5) sc_law_form_by.nd rfl (Or.inl rfl) (pe_ok G_law_form_by hr (by first | exact Nat.le_refl _ | decide | assumption | exact Nat.le_trans (by decide) hk | omega) rfl (pa_cons (pe_ok G_law_part hr (by first | exact Nat.le_refl _ | decide | assumption | exact Nat.le_trans (by decide) hk | omega) rfl (pa_cons (pv 0) (pa_cons pe_int pa_nil))) (pa_cons (pe_op op_sub (pv 1) pe_int) (pa_cons (pv 2) pa_nil)))))
    (pss_one (ps_ret (pe_tup (pa_cons pe_str (pa_cons (pv 5) (pa_cons (pe_ok G_law_form_by hr (by first | exact Nat.le_refl _ | decide | assumption | exact Nat.le_trans (by decide) hk | omega) rfl (pa_cons (pe_ok G_law_part hr (by first | exact Nat.le_refl _ | decide | assumption | exact Nat.le_trans (by decide) hk | omega) rfl (pa_cons (pv 0) (pa_cons pe_int pa_nil))) (pa_cons (pe_op op_sub (pv 1) pe_int) (pa_cons (pv 2) pa_nil)))) pa_nil))))))))))))), ?_⟩
    refine ⟨_, rfl, _, _, rfl, rfl, (by show (0 : Int) < 8; decide), ?_⟩
    refine ⟨_, rfl, rfl, _, rfl, ite2 (fun _ => ?_) (fun _ => ?_)⟩
    · refine ⟨(by show 1 ≤ sizeLine; decide), fun p hp => ?_⟩
      exact q (.ref p) (.node .no "" []) _ (same_new hp _) (.node .nil (.plain rfl upd_same rfl)) .no
    refine ⟨_, rfl, _, _, rfl, rfl, ⟨by decide, by decide⟩, _, _, rfl, rfl, (by show (0 : Int) < 3; decide), rfl, .inr ⟨_, rfl, _, _, rfl, rfl, ?_⟩⟩
    dsimp only
    obtain ⟨ft, e, hft⟩ := fst_of (decide (V.int (sd / 8 % 3) = V.int 0))
    rw [e]
    refine ⟨_, rfl, rfl, _, rfl, ite2 (fun _ => ?_) (fun _ => ?_)⟩
    · refine ⟨_, rfl, _, _, rfl, fun r H1 s1 => ⟨_, rfl, _, rfl, r, ft, l, rfl, hft, hl.mono s1, fun v w H2 s2 hv hw => ?_⟩⟩
      refine ⟨_, rfl, _, rfl, _, _, rfl, fun r' H3 s3 => ⟨_, rfl, r', 1, l, rfl, (by decide), hl.mono (s1.trans (s2.trans s3)), fun v' w' H4 s4 hv' hw' => ?_⟩⟩
      refine ⟨(by show 3 ≤ sizeLine; decide), fun p hp => ?_⟩
      have s5 := same_new hp (.tup [.str "same", v, v'])
      exact q (.ref p) (.node .same "" [w, w']) _ (s1.trans (s2.trans (s3.trans (s4.trans s5)))) (.node (.cons (hv.mono (tk_of (s3.trans (s4.trans s5)))) (.cons (hv'.mono (tk_of s5)) .nil)) (.plain rfl upd_same rfl)) (.same (hw.mono hft) (hw'.mono (by decide)))
    refine ⟨_, rfl, _, _, rfl, rfl, _, rfl, orJoin ?_ (fun _ hT => ?_)⟩
    · have h0 := Int.emod_nonneg (sd / 24) (show (4 : Int) ≠ 0 by decide)
      have h1 := Int.emod_lt_of_pos (sd / 24) (show (0 : Int) < 4 by decide)
      have h4 := toNat4 h1
      refine ⟨(by show 0 ≤ sizeLine; decide), fun pl hpl => ?_⟩
      refine ⟨_, rfl, _, _, rfl, rfl, ⟨by decide, by decide⟩, _, _, rfl, rfl, (by show (0 : Int) < 4; decide), _, rfl, (by omega), (by omega), ?_⟩
      refine for_range (lo := 0) (n := (sd / 24 % 4).toNat) (fun i σ H1 => Same H H1 ∧ ∃ (o : Option V) (xs : List V) (ws : List Wd), σ = [some (.int sd), some (.int n), some (.ref l), some (.int (sd % 8)), some (.int ft), none, some (.ref pl), o] ∧ H1 pl = some (.lst xs) ∧ Rws H1 ws xs ∧ ws.length = i ∧ ∀ w ∈ ws, IsTerm 2 w)
        ⟨same_new hpl _, none, [], [], rfl, upd_same, .nil, rfl, fun w hw => by cases hw⟩ (fun i σ H1 hi hP => ?_) (fun σ H1 hP => ?_)
      · obtain ⟨s1, o, xs, ws, rfl, hx, hws, hlen, hT⟩ := hP
        refine ⟨_, rfl, .inl ⟨rfl, xs, SqL.of hx⟩, ?_⟩
        refine ⟨_, rfl, _, rfl, _, _, rfl, fun r H2 s2 => ?_⟩
        have go : ∀ m : Nat, m ≤ 2 → spTerm 2 [.int r, .int m, .ref l] H2 (fun x H1 => rAppend (.ref pl) [x] H1 fun _ H1 => Same H H1 ∧ ∃ (o : Option V) (xs : List V) (ws : List Wd), [some (.int sd), some (.int n), some (.ref l), some (.int (sd % 8)), some (.int ft), none, some (.ref pl), some (.int (0 + i))] = [some (.int sd), some (.int n), some (.ref l), some (.int (sd % 8)), some (.int ft), none, some (.ref pl), o] ∧ H1 pl = some (.lst xs) ∧ Rws H1 ws xs ∧ ws.length = i + 1 ∧ ∀ w ∈ ws, IsTerm 2 w) E0 := by
          intro m hm
          refine ⟨r, m, l, rfl, hm, hl.mono (s1.trans s2), fun v w H3 s3 hv hw => ?_⟩
          have s4 := s2.trans s3
          have hx3 := s4.at hx
          have hlx := hws.length
          refine ⟨pl, xs, v, rfl, rfl, hx3, few hlx (Nat.le_trans (Nat.le_of_eq hlen) (Nat.le_trans (Nat.le_of_lt hi) (Nat.le_trans h4 (by decide)))), ?_⟩
          have k3 := tk_lst hx3 (.lst (xs ++ [v]))
          refine ⟨same_own (s1.trans s4) hpl hx3 _, _, _, ws ++ [w], rfl, upd_same, ((hws.mono (tk_of s4)).snoc hv).mono k3, by rw [List.length_append, hlen]; rfl, fun u hu => ?_⟩
          rcases List.mem_append.mp hu with hu | hu
          · exact hT u hu
          · have : u = w := by simpa using hu
            rw [this]; exact hw.mono hm
        refine ⟨_, rfl, rfl, _, rfl, ite2 (fun _ => ?_) (fun _ => ?_)⟩
        · exact ⟨_, rfl, _, rfl, go ft hft⟩
        · exact ⟨_, rfl, go 1 (by decide)⟩
      · obtain ⟨s1, o, xs, ws, rfl, hx, hws, hlen, hT⟩ := hP
        obtain ⟨ns, nm, hl1, hat, hnm⟩ := (hl.mono s1).at (sd / 96)
        refine ⟨_, rfl, _, rfl, _, _, rfl, rfl, ⟨by decide, by decide⟩, _, _, rfl, rfl, (by show (0 : Int) < 3; decide), l, _, _, _, rfl, rfl, SqL.of hl1, hat, ?_⟩
        refine ⟨_, rfl, pl, xs, rfl, .inl ⟨SqL.of hx, fun t ht => ?_⟩⟩
        refine ⟨(by show 3 ≤ sizeLine; decide), fun p hp => ?_⟩
        have s2 := same_new ht (.tup xs)
        have s3 := same_new hp (.tup [.str "rel", .str nm, .ref t])
        exact q (.ref p) (.node .rel nm ws) _ (s1.trans (s2.trans s3)) (.node (hws.mono (tk_of (s2.trans s3))) (.named t rfl upd_same (s3.at upd_same))) (.rel hnm (Nat.le_trans (Nat.le_of_eq hlen) h4) hT)
    refine ⟨_, rfl, rfl, _, rfl, ite2 (fun _ => hT) (fun c => ?_)⟩
    have c' : ¬ V.int n = V.int 0 := of_decide_eq_false (Bool.eq_false_iff.mpr c)
    have hn0 : n ≠ 0 := fun e => c' (by rw [e]; rfl)
    rcases hsp with ⟨rfl, _⟩ | ⟨M, rfl, rfl⟩
    · exact absurd (Nat.le_zero.mp hn) hn0
    obtain ⟨m, rfl⟩ : ∃ m, n = m + 1 := Nat.exists_eq_succ_of_ne_zero hn0
    have em : ∀ r : Int, [V.int r, V.int (((m + 1 : Nat) : Int) - 1), V.ref l] = [V.int r, V.int (m : Int), V.ref l] := fun r => by
      rw [downI]
    refine ⟨_, rfl, _, _, rfl, rfl, _, rfl, ite2 (fun _ => ?_) (fun _ => ?_)⟩
    · refine ⟨_, rfl, _, _, rfl, fun r H1 s1 => ⟨_, rfl, _, _, rfl, rfl, _, rfl, r, m, l, em r, Nat.le_of_succ_le_succ hn, hl.mono s1, fun v w H2 s2 hv hw => ?_⟩⟩
      refine ⟨(by show 2 ≤ sizeLine; decide), fun p hp => ?_⟩
      have s3 := same_new hp (.tup [.str "all", v])
      exact q (.ref p) (.node .all "" [w]) _ (s1.trans (s2.trans s3)) (.node (.cons (hv.mono (tk_of s3)) .nil) (.plain rfl upd_same rfl)) (.all hw)
    · refine ⟨_, rfl, _, _, rfl, fun r H1 s1 => ⟨_, rfl, _, _, rfl, rfl, _, rfl, r, m, l, em r, Nat.le_of_succ_le_succ hn, hl.mono s1, fun v w H2 s2 hv hw => ?_⟩⟩
      refine ⟨_, rfl, _, rfl, _, _, rfl, fun r' H3 s3 => ⟨_, rfl, _, _, rfl, rfl, _, rfl, r', m, l, em r', Nat.le_of_succ_le_succ hn, hl.mono (s1.trans (s2.trans s3)), fun v' w' H4 s4 hv' hw' => ?_⟩⟩
      refine ⟨(by show 3 ≤ sizeLine; decide), fun p hp => ?_⟩
      have s5 := same_new hp (.tup [.str "if", v, v'])
      exact q (.ref p) (.node .cond "" [w, w']) _ (s1.trans (s2.trans (s3.trans (s4.trans s5)))) (.node (.cons (hv.mono (tk_of (s3.trans (s4.trans s5)))) (.cons (hv'.mono (tk_of s5)) .nil)) (.plain rfl upd_same rfl)) (.cond hw hw')
  intro N
  induction N with
  | zero => exact step 0 _ (.inl ⟨rfl, rfl⟩) (D.void fun _ _ _ _ h => h)
  | succ N ih => exact step (N + 1) _ (.inr ⟨N, rfl, rfl⟩) ih
theorem ok_law_like (D : Def K mg "_law_like" s_law_like ["found", "due"]) (B : Blt mg) : ∀ n : Nat, Ok P w K mg base "_law_like" ["found", "due"] n (spLike n)
  | 0 => D.void fun vs H Q E h => by
    obtain ⟨v, u, d, _, _, _, h, _⟩ := h
    have := ddep_pos d
    omega
  | n + 1 => by
    have G_law_like := ok_law_like D B n
    refine D.ok sc_law_like (fun vs H Q E h => ?_) (fun f cdv A outer s H vs Q E hr h => ?_)
    · obtain ⟨v, u, d, rfl, _⟩ := h
      rfl
    obtain ⟨v, u, d, rfl, h1, h2, hd, q⟩ := h
    refine ⟨_, (pss_cons (ps_if (pt_val (pe_callB call_isinst (by rfl) B.isinstance PyProof.Rows.boot_isinstance (pa_cons (pv 1) (pa_cons (pe_ty_tuple B.tuple rfl) pa_nil)))) (pss_cons (ps_if (PW.pt (pw_or (pt_not (pt_val (pe_callB call_isinst (by rfl) B.isinstance PyProof.Rows.boot_isinstance (pa_cons (pv 0) (pa_cons (pe_ty_tuple B.tuple rfl) pa_nil))))) (pw_or1 (pt_cmpR op_ne (pe_callB call_len_seq (by rfl) B.len PySem.boot_len (pa_cons (pv 0) pa_nil)) (pe_callB call_len_seq (by rfl) B.len PySem.boot_len (pa_cons (pv 1) pa_nil)) (nomark _))))) (pss_one (ps_ret pe_bl)) pss_nil)
    (pss_cons (ps_for PassesOwn.never rfl (pi_zip (by rfl) B.zip (pa_cons (pv 0) (pa_cons (pv 1) pa_nil))) (pg_tup rfl (pgs_cons (pg_name (i := 2) sc_law_like.nd rfl (Or.inl rfl)) (pgs_cons (pg_name (i := 3) sc_law_like.nd rfl (Or.inl rfl)) pgs_nil))) (pss_one (ps_if (pt_not (pt_val (pe_ok G_law_like hr (by first | exact Nat.le_refl _ | decide | assumption | exact Nat.le_trans (by decide) hk | omega) rfl (pa_cons (pv 2) (pa_cons (pv 3) pa_nil))))) (pss_one (ps_ret pe_bl)) pss_nil)))
    (pss_one (ps_ret pe_bl)))) pss_nil)
    (pss_cons (ps_if (pt_val (pe_callB call_isinst (by rfl) B.isinstance PyProof.Rows.boot_isinstance (pa_cons (pv 1) (pa_cons (pe_ty_str B.str rfl) pa_nil)))) (pss_one (ps_ret (pe_and (pe_callB call_isinst (by rfl) B.isinstance PyProof.Rows.boot_isinstance (pa_cons (pv 0) (pa_cons (pe_ty_str B.str rfl) pa_nil))) (pe_one (pe_cmpR op_eq (pv 0) (pv 1) (nomark _)))))) pss_nil)
    (pss_one (ps_ret (pe_and (pe_callB call_isinst (by rfl) B.isinstance PyProof.Rows.boot_isinstance (pa_cons (pv 0) (pa_cons (pe_ty_int B.int rfl) pa_nil))) (pe_and (pe_not (pe_callB call_isinst (by rfl) B.isinstance PyProof.Rows.boot_isinstance (pa_cons (pv 0) (pa_cons (pe_ty_bool B.bool rfl) pa_nil)))) (pe_one (pe_cmpR op_eq (pv 0) (pv 1) (nomark _))))))))), ?_⟩
    cases d with
    | int i =>
      rw [Rd] at h1 h2
      subst h1; subst h2
      refine ⟨_, rfl, .int i, "tuple", .type "int", false, rfl, .int i, kit_int_tup, false, rfl, iteF ?_⟩
      refine ⟨_, rfl, .int i, "str", .type "int", false, rfl, .int i, kit_int_str, false, rfl, iteF ?_⟩
      refine ⟨_, rfl, .int i, "int", .type "int", true, rfl, .int i, kit_int_int, true, rfl, iteT ?_⟩
      refine ⟨_, rfl, .int i, "bool", .type "int", false, rfl, .int i, kit_int_bool, false, rfl, true, rfl, iteT ?_⟩
      refine ⟨_, rfl, _, rfl, rfl, ?_⟩
      rw [decide_eq_true rfl]
      exact q H (Same.refl H)
    | str x =>
      rw [Rd] at h1 h2
      subst h1; subst h2
      refine ⟨_, rfl, .str x, "tuple", .type "str", false, rfl, .str x, kit_str_tup, false, rfl, iteF ?_⟩
      refine ⟨_, rfl, .str x, "str", .type "str", true, rfl, .str x, kit_str_str, true, rfl, iteT ?_⟩
      refine ⟨_, rfl, .str x, "str", .type "str", true, rfl, .str x, kit_str_str, true, rfl, iteT ?_⟩
      refine ⟨_, rfl, _, rfl, rfl, ?_⟩
      rw [decide_eq_true rfl]
      exact q H (Same.refl H)
    | tup ds =>
      rw [Rd] at h1 h2
      obtain ⟨a, xs, rfl, ha, rx⟩ := h1
      obtain ⟨b, ys, rfl, hb, ry⟩ := h2
      have lx := rx.length
      have ly := ry.length
      refine ⟨_, rfl, .ref b, "tuple", .type "tuple", true, rfl, .tup hb, kit_tup_tup, true, rfl, iteT ?_⟩
      refine ⟨_, rfl, .ref a, "tuple", .type "tuple", true, rfl, .tup ha, kit_tup_tup, true, rfl, iteF ?_⟩
      refine ⟨_, rfl, a, xs, rfl, .inr (SqT.of ha), _, rfl, b, ys, rfl, .inr (SqT.of hb), rfl, _, rfl, iteNS (by rw [lx, ly]) ?_⟩
      refine ⟨_, rfl, _, rfl, a, b, xs, ys, rfl, ha, hb, ?_⟩
      refine for_zip (by rw [lx, ly]) (fun i σ H2 => Same H H2 ∧ ∃ o1 o2 : Option V, σ = [some (.ref a), some (.ref b), o1, o2]) ⟨Same.refl H, _, _, rfl⟩ (fun i σ H2 hP => ⟨hP.1.at ha, hP.1.at hb⟩) (fun i x y p σ H2 hx hy hp hP => ?_) (fun σ H2 hP => ?_)
      · obtain ⟨s2, o1, o2, rfl⟩ := hP
        have s3 := s2.trans (same_new hp (.tup [x, y]))
        obtain ⟨d1, e1, r1⟩ := rx.get hx
        obtain ⟨d2, e2, r2⟩ := ry.get hy
        rw [e1] at e2; cases e2
        have hm := ddepL_mem (List.mem_of_getElem? e1)
        rw [ddep] at hd
        refine ⟨p, _, rfl, SqT.of upd_same, rfl, _, _, rfl, _, _, rfl, rfl, ?_⟩
        refine ⟨_, rfl, _, rfl, x, y, d1, rfl, r1.mono (tk_of s3), r2.mono (tk_of s3), (by omega), fun H3 s4 => ⟨true, rfl, iteF ?_⟩⟩
        exact ⟨s3.trans s4, _, _, rfl⟩
      · obtain ⟨s2, o1, o2, rfl⟩ := hP
        exact q H2 s2
theorem lc_law_term_text_1 : LcScope "part" [] (defScope s_law_term_text) (lcS (exA (exR (exL (stE (stB s_law_term_text 1)))) 0)) := ⟨rfl, by decide +kernel, rfl, by decide +kernel, by decide +kernel, by decide +kernel, by decide +kernel⟩
theorem ok_law_term_text (D : Def K mg "_law_term_text" s_law_term_text ["term"]) (B : Blt mg) : ∀ n : Nat, Ok P w K mg base "_law_term_text" ["term"] n (spTermS n)
  | 0 => D.void fun vs H Q E h => by
    obtain ⟨v, w, d, _, _, _, h, _⟩ := h
    have := dep_pos w
    omega
  | n + 1 => by
    have G_law_term_text := ok_law_term_text D B n
    refine D.ok sc_law_term_text (fun vs H Q E h => ?_) (fun f cdv A outer s H vs Q E hr h => ?_)
    · obtain ⟨v, w, d, rfl, _⟩ := h
      rfl
    obtain ⟨v, w, d, rfl, hw, hT, hd, hk, q⟩ := h
    refine ⟨_, (pss_cons (ps_if (pt_cmpR op_eq (pe_ix ix_tup (pv 0) pe_int (fun _ _ => rfl)) pe_str (nomark _)) (pss_one (ps_ret (pe_op op_add_str pe_str (pe_callTy call_str_int (by rfl) B.str PyProof.Rows.boot_str (pa_cons (pe_ix ix_tup (pv 0) pe_int (fun _ _ => rfl)) pa_nil))))) pss_nil)
    (pss_one (ps_ret (pe_op op_add_str (pe_op op_add_str (pe_op op_add_str (pe_ix ix_tup (pv 0) pe_int (fun _ _ => rfl)) pe_str) (pe_bm PySem.F.plainAttrs_str PySem.F.slot_str_join PySem.F.type_str_join mt_join pe_str (pa_cons (pe_lcomp rfl rfl lc_law_term_text_1 (ix := []) rfl (lcN (N := ["term"]) (by decide +kernel)) (pi_tup (pe_ix ix_tup (pv 0) pe_int (fun _ _ => rfl))) (fun s₃ H₃ fp pins => (pe_ok G_law_term_text hr (by first | exact Nat.le_refl _ | decide | assumption | exact Nat.le_trans (by decide) hk | omega) rfl (pa_cons (pv 0) pa_nil)))) pa_nil))) pe_str)))), ?_⟩
    cases w with
    | var m =>
      have hT' : 0 ≤ m ∧ m < 1000 := by cases d <;> exact hT
      rw [Rw] at hw
      obtain ⟨a, rfl, ha⟩ := hw
      refine ⟨_, rfl, a, _, _, _, rfl, rfl, SqT.of ha, at0, rfl, _, rfl, ?_⟩
      rw [var_var]
      have e : ("#" : Str) ++ (toString m : Str) = tS (sh (.var m)) := str_eq (by rw [str_add_cps, cps_tS, l35, sh]; rfl)
      refine iteT ⟨_, rfl, a, _, _, _, rfl, rfl, SqT.of ha, at1, m, rfl, log_small hT'.1 hT'.2, _, _, rfl, rfl, big ?_, ?_⟩
      · have := dig_len hT'.1 hT'.2
        rw [show ("#" : Str).length = 1 from rfl]; omega
      · rw [e]
        exact q H (Same.refl H)
    | node t nm ps =>
      cases d with
      | zero => simp only [IsTerm] at hT
      | succ d =>
        simp only [IsTerm] at hT
        obtain ⟨rfl, hn, h3, hps⟩ := hT
        obtain ⟨a, b, xs, rfl, ha, hb, hx⟩ := hw.named rfl
        have lx := hx.length
        rw [dep] at hd
        rw [knots] at hk
        have n2 : nm.length ≤ 20000 := Nat.le_trans hn.2.1 (by decide)
        have rl := shRL hps (by omega)
        refine ⟨_, rfl, a, _, _, _, rfl, rfl, SqT.of ha, at0, rfl, _, rfl, ?_⟩
        rw [tag_var]
        refine iteF ⟨_, rfl, a, _, _, _, rfl, rfl, SqT.of ha, at1, _, _, rfl, rfl, bs2 n2 (by decide), ?_⟩
        refine ⟨rfl, _, rfl, a, _, _, _, rfl, rfl, SqT.of ha, at2, b, rfl, ⟨xs, SqT.of hb⟩, ?_⟩
        refine lc_tup2 (xs := xs) (LcT H ps) lct_0 (fun i L H2 _ hP => SqT.of (hP.2.1.at hb)) (fun i L x H2 hi hP => ?_) (fun L H2 hP => ?_)
        · obtain ⟨u, hu, ru⟩ := hx.get hi
          have hum := List.mem_of_getElem? hu
          have hdl := depL_mem hum
          have hkl := knotsL_mem hum
          exact ⟨_, rfl, x, u, d, rfl, ru.mono (tk_of hP.2.1), hps u hum, (by omega), (by omega), fun H3 s3 => lct_s hP hu (by omega) s3⟩
        · obtain ⟨_, s2, hz⟩ := hP
          rw [lx, List.take_length] at hz
          refine ⟨" ", L, _, rfl, rfl, hz, join_sum hps (by omega), ?_⟩
          rw [glue_sh]
          refine ⟨_, _, rfl, rfl, bs3 n2 (by decide) rl, ?_⟩
          refine ⟨_, _, rfl, rfl, bs4 n2 (by decide) rl (by decide), ?_⟩
          rw [show ((nm ++ "(") ++ tS (shR ps)) ++ ")" = tS (sh (.node .fn nm ps)) from str_eq (by simp only [str_add_cps, cps_tS, l40, l41, sh]; simp)]
          exact q H2 s2
theorem lc_law_text_1 : LcScope "part" [] (defScope s_law_text) (lcS (exA (exR (exL (stE (stB s_law_text 4)))) 0)) := ⟨rfl, by decide +kernel, rfl, by decide +kernel, by decide +kernel, by decide +kernel, by decide +kernel⟩
theorem ok_law_text (D : Def K mg "_law_text" s_law_text ["form"]) (B : Blt mg) (G_law_term_text : Ok P w K mg base "_law_term_text" ["term"] 4 (spTermS 4)) : ∀ n : Nat, Ok P w K mg base "_law_text" ["form"] (n + 5) (spShown n)
  | 0 => D.void fun vs H Q E h => by
    obtain ⟨v, w, d, _, _, _, h, _⟩ := h
    exact absurd (Nat.le_trans (dep_pos w) h) (Nat.not_succ_le_zero 0)
  | n + 1 => by
    have G_law_text := ok_law_text D B G_law_term_text n
    refine D.ok sc_law_text (fun vs H Q E h => ?_) (fun f cdv A outer s H vs Q E hr h => ?_)
    · obtain ⟨v, w, d, rfl, _⟩ := h
      rfl
    obtain ⟨v, w, d, rfl, hw, hF, hd, hk, q⟩ := h
    refine ⟨_, (pss_cons (ps_if (pt_cmpR op_eq (pe_ix ix_tup (pv 0) pe_int (fun _ _ => rfl)) pe_str (nomark _)) (pss_one (ps_ret pe_str)) pss_nil)
    (pss_cons (ps_if (pt_cmpR op_eq (pe_ix ix_tup (pv 0) pe_int (fun _ _ => rfl)) pe_str (nomark _)) (pss_one (ps_ret (pe_op op_add_str pe_str (pe_ok G_law_text hr (by first | exact Nat.le_refl _ | decide | assumption | exact Nat.le_trans (by decide) hk | omega) rfl (pa_cons (pe_ix ix_tup (pv 0) pe_int (fun _ _ => rfl)) pa_nil))))) pss_nil)
    (pss_cons (ps_if (pt_cmpR op_eq (pe_ix ix_tup (pv 0) pe_int (fun _ _ => rfl)) pe_str (nomark _)) (pss_one (ps_ret (pe_op op_add_str (pe_op op_add_str (pe_op op_add_str (pe_op op_add_str pe_str (pe_ok G_law_term_text hr (by first | exact Nat.le_refl _ | decide | assumption | exact Nat.le_trans (by decide) hk | omega) rfl (pa_cons (pe_ix ix_tup (pv 0) pe_int (fun _ _ => rfl)) pa_nil))) pe_str) (pe_ok G_law_term_text hr (by first | exact Nat.le_refl _ | decide | assumption | exact Nat.le_trans (by decide) hk | omega) rfl (pa_cons (pe_ix ix_tup (pv 0) pe_int (fun _ _ => rfl)) pa_nil))) pe_str))) pss_nil)
    (pss_cons (ps_if (pt_cmpR op_eq (pe_ix ix_tup (pv 0) pe_int (fun _ _ => rfl)) pe_str (nomark _)) (pss_one (ps_ret (pe_op op_add_str (pe_op op_add_str (pe_op op_add_str (pe_op op_add_str pe_str (pe_ok G_law_text hr (by first | exact Nat.le_refl _ | decide | assumption | exact Nat.le_trans (by decide) hk | omega) rfl (pa_cons (pe_ix ix_tup (pv 0) pe_int (fun _ _ => rfl)) pa_nil))) pe_str) (pe_ok G_law_text hr (by first | exact Nat.le_refl _ | decide | assumption | exact Nat.le_trans (by decide) hk | omega) rfl (pa_cons (pe_ix ix_tup (pv 0) pe_int (fun _ _ => rfl)) pa_nil))) pe_str))) pss_nil)
    (pss_one (ps_ret (pe_op op_add_str (pe_op op_add_str (pe_op op_add_str (pe_ix ix_tup (pv 0) pe_int (fun _ _ => rfl)) pe_str) (pe_bm PySem.F.plainAttrs_str PySem.F.slot_str_join PySem.F.type_str_join mt_join pe_str (pa_cons (pe_lcomp rfl rfl lc_law_text_1 (ix := []) rfl (lcN (N := ["form"]) (by decide +kernel)) (pi_tup (pe_ix ix_tup (pv 0) pe_int (fun _ _ => rfl))) (fun s₃ H₃ fp pins => (pe_ok G_law_term_text hr (by first | exact Nat.le_refl _ | decide | assumption | exact Nat.le_trans (by decide) hk | omega) rfl (pa_cons (pv 0) pa_nil)))) pa_nil))) pe_str))))))), ?_⟩
    cases w with
    | var m => simp only [IsForm] at hF
    | node t nm ps =>
      obtain ⟨a, ys, rfl, ha⟩ := hw.head
      refine ⟨_, rfl, a, _, _, _, rfl, rfl, SqT.of ha, at0, rfl, _, rfl, ?_⟩
      rw [tag_no]
      cases t with
      | fn => simp only [IsForm] at hF
      | no => exact iteT (by rw [show ("!" : Str) = tS (sh (.node .no nm ps)) by simp only [sh]; rfl]; exact q H (Same.refl H))
      | all =>
        cases d with
        | zero => simp only [IsForm] at hF
        | succ d =>
          simp only [IsForm] at hF
          obtain ⟨rfl, x, rfl, hx⟩ := hF
          obtain ⟨a', zs, ea, ha', hz, _⟩ := hw.plain rfl
          cases ea
          obtain ⟨v1, rfl, r1⟩ := hz.one
          simp only [dep, depL] at hd
          simp only [knots, knotsL] at hk
          have hk2 := two_le hk
          have lx := shFL hx hk2.1
          refine iteF ⟨_, rfl, a, _, _, _, rfl, rfl, SqT.of ha, at0, rfl, _, rfl, ?_⟩
          rw [tag_all]
          refine iteT ⟨_, rfl, a, _, _, _, rfl, rfl, SqT.of ha', at1, v1, x, d, rfl, r1, hx, (dep_le hd).1, hk2.1, fun H1 s1 => ?_⟩
          refine ⟨_, _, rfl, rfl, bs2 (by decide) lx, ?_⟩
          rw [show "*" ++ tS (sh x) = tS (sh (.node .all "" [x])) from str_eq (by simp only [str_add_cps, cps_tS, l42, sh, shR, shT]; simp)]
          exact q H1 s1
      | same =>
        simp only [IsForm] at hF
        obtain ⟨rfl, x, y, rfl, hx, hy⟩ := hF
        obtain ⟨a', zs, ea, ha', hz, _⟩ := hw.plain rfl
        cases ea
        obtain ⟨v1, v2, rfl, r1, r2⟩ := hz.two
        rw [knots_two] at hk
        have hk2 := two_le hk
        have lx := shL hx hk2.1
        have ly := shL hy hk2.2
        have dx := hx.dep
        have dy := hy.dep
        refine iteF ⟨_, rfl, a, _, _, _, rfl, rfl, SqT.of ha, at0, rfl, _, rfl, ?_⟩
        rw [tag_all]
        refine iteF ⟨_, rfl, a, _, _, _, rfl, rfl, SqT.of ha, at0, rfl, _, rfl, ?_⟩
        rw [tag_same]
        refine iteT ⟨_, rfl, a, _, _, _, rfl, rfl, SqT.of ha', at1, v1, x, 2, rfl, r1, hx, Nat.le_succ_of_le dx, hk2.1, fun H1 s1 => ?_⟩
        refine ⟨_, _, rfl, rfl, bs2 (by decide) lx, ?_⟩
        refine ⟨_, _, rfl, rfl, bs3 (by decide) lx (by decide), ?_⟩
        refine ⟨_, rfl, a, _, _, _, rfl, rfl, SqT.of (s1.at ha'), at2, v2, y, 2, rfl, r2.mono (tk_of s1), hy, Nat.le_succ_of_le dy, hk2.2, fun H2 s2 => ?_⟩
        refine ⟨_, _, rfl, rfl, bs4 (by decide) lx (by decide) ly, ?_⟩
        refine ⟨_, _, rfl, rfl, bs5 (by decide) lx (by decide) ly (by decide), ?_⟩
        rw [show ((("(" ++ tS (sh x)) ++ " = ") ++ tS (sh y)) ++ ")" = tS (sh (.node .same "" [x, y])) from str_eq (by simp only [str_add_cps, cps_tS, l40, lEq, l41, sh, shM, shR, shT]; simp)]
        exact q H2 (s1.trans s2)
      | cond =>
        cases d with
        | zero => simp only [IsForm] at hF
        | succ d =>
          simp only [IsForm] at hF
          obtain ⟨rfl, x, y, rfl, hx, hy⟩ := hF
          obtain ⟨a', zs, ea, ha', hz, _⟩ := hw.plain rfl
          cases ea
          obtain ⟨v1, v2, rfl, r1, r2⟩ := hz.two
          rw [knots_two] at hk
          have hk2 := two_le hk
          simp only [dep, depL] at hd
          have hd2 := dep_le hd
          have lx := shFL hx hk2.1
          have ly := shFL hy hk2.2
          refine iteF ⟨_, rfl, a, _, _, _, rfl, rfl, SqT.of ha, at0, rfl, _, rfl, ?_⟩
          rw [tag_all]
          refine iteF ⟨_, rfl, a, _, _, _, rfl, rfl, SqT.of ha, at0, rfl, _, rfl, ?_⟩
          rw [tag_same]
          refine iteF ⟨_, rfl, a, _, _, _, rfl, rfl, SqT.of ha, at0, rfl, _, rfl, ?_⟩
          rw [tag_if]
          refine iteT ⟨_, rfl, a, _, _, _, rfl, rfl, SqT.of ha', at1, v1, x, d, rfl, r1, hx, hd2.1, hk2.1, fun H1 s1 => ?_⟩
          refine ⟨_, _, rfl, rfl, bs2 (by decide) lx, ?_⟩
          refine ⟨_, _, rfl, rfl, bs3 (by decide) lx (by decide), ?_⟩
          refine ⟨_, rfl, a, _, _, _, rfl, rfl, SqT.of (s1.at ha'), at2, v2, y, d, rfl, r2.mono (tk_of s1), hy, Nat.le_trans (Nat.le_max_left _ _) hd2.2, hk2.2, fun H2 s2 => ?_⟩
          refine ⟨_, _, rfl, rfl, bs4 (by decide) lx (by decide) ly, ?_⟩
          refine ⟨_, _, rfl, rfl, bs5 (by decide) lx (by decide) ly (by decide), ?_⟩
          rw [show ((("(" ++ tS (sh x)) ++ " > ") ++ tS (sh y)) ++ ")" = tS (sh (.node .cond "" [x, y])) from str_eq (by simp only [str_add_cps, cps_tS, l40, lGt, l41, sh, shM, shR, shT]; simp)]
          exact q H2 (s1.trans s2)
      | rel =>
        simp only [IsForm] at hF
        obtain ⟨hn, h3, hps⟩ := hF
        obtain ⟨a', b, xs, ea, ha', hb, hx⟩ := hw.named rfl
        cases ea
        have lx := hx.length
        rw [knots] at hk
        have hk2 := Nat.le_trans (Nat.le_add_left _ _) hk
        have rl := shRL hps hk2
        have n2 : nm.length ≤ 20000 := Nat.le_trans hn.2.1 (by decide)
        refine iteF ⟨_, rfl, a, _, _, _, rfl, rfl, SqT.of ha, at0, rfl, _, rfl, ?_⟩
        rw [tag_all]
        refine iteF ⟨_, rfl, a, _, _, _, rfl, rfl, SqT.of ha, at0, rfl, _, rfl, ?_⟩
        rw [tag_same]
        refine iteF ⟨_, rfl, a, _, _, _, rfl, rfl, SqT.of ha, at0, rfl, _, rfl, ?_⟩
        rw [tag_if]
        refine iteF ⟨_, rfl, a, _, _, _, rfl, rfl, SqT.of ha', at1, _, _, rfl, rfl, bs2 n2 (by decide), ?_⟩
        refine ⟨rfl, _, rfl, a, _, _, _, rfl, rfl, SqT.of ha', at2, b, rfl, ⟨xs, SqT.of hb⟩, ?_⟩
        refine lc_tup2 (xs := xs) (LcT H ps) lct_0 (fun i L H2 _ hP => SqT.of (hP.2.1.at hb)) (fun i L x H2 hi hP => ?_) (fun L H2 hP => ?_)
        · obtain ⟨u, hu, ru⟩ := hx.get hi
          have hum := List.mem_of_getElem? hu
          have hdl := (hps u hum).dep
          have hkl := knotsL_mem hum
          exact ⟨_, rfl, x, u, 2, rfl, ru.mono (tk_of hP.2.1), hps u hum, Nat.le_succ_of_le hdl, Nat.le_trans hkl hk2, fun H3 s3 => lct_s hP hu (Nat.le_trans h3 (by decide)) s3⟩
        · obtain ⟨_, s2, hz⟩ := hP
          rw [lx, List.take_length] at hz
          refine ⟨" ", L, _, rfl, rfl, hz, join_sum hps hk2, ?_⟩
          rw [glue_sh]
          refine ⟨_, _, rfl, rfl, bs3 n2 (by decide) rl, ?_⟩
          refine ⟨_, _, rfl, rfl, bs4 n2 (by decide) rl (by decide), ?_⟩
          rw [show ((nm ++ "[") ++ tS (shR ps)) ++ "]" = tS (sh (.node .rel nm ps)) from str_eq (by simp only [str_add_cps, cps_tS, l91, l93, sh]; simp)]
          exact q H2 s2
theorem ok_law_run (D : Def K mg "_law_run" s_law_run ["text", "at", "signs"]) (B : Blt mg) : Ok P w K mg base "_law_run" ["text", "at", "signs"] 1 spLRun := by
  refine D.ok sc_law_run (fun vs H Q E h => ?_) (fun f cdv A outer s H vs Q E hr h => ?_)
  · obtain ⟨T, sg, p, l, pr, rfl, _⟩ := h
    rfl
  obtain ⟨T, sg, p, l, pr, rfl, ok, hl, hin, q⟩ := h
  have hw := tw_at pr hl
  have hpr := tw_all pr l
  have hst := tw_stp pr l
  generalize l.takeWhile pr = ss at hw hpr q
  generalize l.dropWhile pr = r at hw hst
  have hlen := hw.len
  rw [List.length_append] at hlen
  refine ⟨_, (pss_cons (ps_while PassesOwn.never (PW.pt (pw_and (pt_cmpR op_lt (pv 1) (pe_callB call_len_str (by rfl) B.len PySem.boot_len (pa_cons (pv 0) pa_nil)) (nomark _)) (pw_and1 (pt_cmpR op_in_str (pe_ix ix_str (pv 0) (pv 1) (fun _ _ => rfl)) (pv 2) (by with_unfolding_all rfl))))) (pss_one (ps_set (i := 1) sc_law_run.nd rfl (Or.inl rfl) (pe_op op_add (pv 1) pe_int))))
    (pss_one (ps_ret (pv 1)))), ?_⟩
  refine ⟨fun m σ H1 => H1 = H ∧ ∃ j, j ≤ ss.length ∧ m = ss.length - j ∧ σ = [some (.str T), some (.int (p + j : Nat)), some (.str sg)], ⟨ss.length, rfl, 0, Nat.zero_le _, rfl, rfl⟩, fun m σ H1 hP => ?_⟩
  obtain ⟨rfl, j, hj, rfl, rfl⟩ := hP
  have sz := ok.sz
  have hat : At T (p + j) (ss.drop j ++ r) := by
    have : ss = ss.take j ++ ss.drop j := (List.take_append_drop j ss).symm
    rw [this, List.append_assoc] at hw
    have h2 := hw.go
    rw [List.length_take, Nat.min_eq_left hj] at h2
    exact h2
  have sub : ∀ c, c ∈ T.cps.toList → inS sg c = pr c := fun c hc => hin c (ok.2 c hc)
  refine ⟨_, rfl, _, rfl, T, rfl, sz, _, _, rfl, rfl, _, rfl, ite2 (fun c => ?_) (fun c => ?_)⟩
  · have c' := of_decide_eq_true c
    have lt : p + j < T.length := Int.ofNat_lt.mp c'
    have lt2 : p + j < T.cps.toList.length := by rw [len_cps]; exact lt
    refine ⟨_, rfl, _, rfl, T, _, T.cps.toList[p + j], rfl, rfl, sz, atI_nat (List.getElem?_eq_getElem lt2), _, rfl, _, sg, rfl, rfl, ?_⟩
    have e := sub _ (List.getElem_mem lt2)
    unfold inS at e
    rw [e]
    refine ⟨_, rfl, ?_⟩
    by_cases hj2 : j < ss.length
    · have hc : T.cps.toList[p + j] = ss[j] := by
        have h3 := At.get (T := T) (p := p + j) (c := ss[j]) (b := ss.drop (j + 1) ++ r) (by
          rw [List.drop_eq_getElem_cons hj2] at hat
          exact hat)
        rw [List.getElem?_eq_getElem lt2] at h3
        exact Option.some.inj h3
      rw [hc, hpr _ (List.getElem_mem hj2)]
      refine iteT ⟨fun σ' H' => ∃ m', m' < ss.length - j ∧ H' = H1 ∧ ∃ j, j ≤ ss.length ∧ m' = ss.length - j ∧ σ' = [some (.str T), some (.int (p + j : Nat)), some (.str sg)], fun σ' H' h => h, ?_⟩
      refine ⟨_, rfl, _, _, rfl, rfl, ss.length - (j + 1), Nat.sub_succ_lt_self _ _ hj2, rfl, j + 1, hj2, rfl, ?_⟩
      rfl
    · have ej := Nat.le_antisymm hj (Nat.le_of_not_lt hj2)
      subst ej
      rw [List.drop_length, List.nil_append] at hat
      have hp : pr T.cps.toList[p + ss.length] = false := by
        cases hr' : r with
        | nil =>
          rw [hr'] at hat
          have := hat.len
          exact absurd lt (Nat.not_lt_of_le (Nat.le_of_eq this.symm))
        | cons c r' =>
          rw [hr'] at hat
          have h3 := hat.get
          rw [List.getElem?_eq_getElem lt2] at h3
          rw [Option.some.inj h3]
          exact hst c r' hr'
      rw [hp]
      exact iteF ⟨_, rfl, q⟩
  · have c' := of_decide_eq_false (Bool.eq_false_iff.mpr c)
    have ej := runs_end hj hlen c'
    subst ej
    exact ⟨_, rfl, q⟩
theorem ok_law_parts_at {k d : Nat} (D : Def K mg "_law_parts_at" s_law_parts_at ["text", "at", "end"]) (B : Blt mg) (G_law_term_at : Ok P w K mg base "_law_term_at" ["text", "at"] k (spTermAt d)) : Ok P w K mg base "_law_parts_at" ["text", "at", "end"] (k + 1) (spPartsAt d) := by
  refine D.ok sc_law_parts_at (fun vs H Q E h => ?_) (fun f cdv A outer s H vs Q E hr h => ?_)
  · obtain ⟨T, p, c, l, rfl, _⟩ := h
    rfl
  obtain ⟨T, p, c, l, rfl, hc, ok, hl, ho, q1, q2⟩ := h
  have sz := ok.sz
  have h5 := (at_le ok hl).1
  unfold pRow at q1 q2
  refine ⟨_, (pss_cons (ps_set (i := 3) sc_law_parts_at.nd rfl (Or.inl rfl) (pe_lst pa_nil))
    (pss_cons (ps_while PassesOwn.never (pt_cmpR op_ne (pe_slice sl_str (pv 0) (po_some (pv 1)) (po_some (pe_op op_add (pv 1) pe_int))) (pv 2) (nomark _)) (pss_cons (ps_if (PW.pt (pw_or (pt_cmpR op_eq (pe_callB call_len_seq (by rfl) B.len PySem.boot_len (pa_cons (pv 3) pa_nil)) pe_int (nomark _)) (pw_or1 (PW.pt (pw_and (pt_cmpR op_gt (pe_callB call_len_seq (by rfl) B.len PySem.boot_len (pa_cons (pv 3) pa_nil)) pe_int (nomark _)) (pw_and1 (pt_cmpR op_ne (pe_slice sl_str (pv 0) (po_some (pv 1)) (po_some (pe_op op_add (pv 1) pe_int))) pe_str (nomark _)))))))) (pss_one (ps_ret pe_non)) pss_nil)
    (pss_cons (ps_set (i := 4) sc_law_parts_at.nd rfl (Or.inl rfl) (pe_ok G_law_term_at hr (by first | exact Nat.le_refl _ | decide | assumption | exact Nat.le_trans (by decide) hk | omega) rfl (pa_cons (pv 0) (pa_cons (pe_op op_add (pv 1) (pe_callTy call_int1 (by rfl) B.int PyProof.Rows.boot_int (pa_cons (pe_cmpR op_gt (pe_callB call_len_seq (by rfl) B.len PySem.boot_len (pa_cons (pv 3) pa_nil)) pe_int (nomark _)) pa_nil))) pa_nil))))
    (pss_cons (ps_if (pt_cmpR op_isN (pv 4) pe_non (nomark _)) (pss_one (ps_ret pe_non)) pss_nil)
    (pss_cons (ps_expr (pe_bm PySem.F.plainAttrs_list PySem.F.slot_list_append PySem.F.type_list_append mt_append (pv 3) (pa_cons (pe_ix ix_tup (pv 4) pe_int (fun _ _ => rfl)) pa_nil)))
    (pss_one (ps_set (i := 1) sc_law_parts_at.nd rfl (Or.inl rfl) (pe_ix ix_tup (pv 4) pe_int (fun _ _ => rfl)))))))))
    (pss_one (ps_ret (pe_tup (pa_cons (pe_callTy call_tuple_of (by rfl) B.tuple PyProof.Rows.boot_tuple (pa_cons (pv 3) pa_nil)) (pa_cons (pe_op op_add (pv 1) pe_int) pa_nil))))))), ?_⟩
  refine ⟨(by show 0 ≤ sizeLine; decide), fun pl hpl => ?_⟩
  refine ⟨fun m σ H1 => Same H H1 ∧ ∃ pos l' ws xs k o, m = l'.length ∧ σ = [some (.str T), some (.int (pos : Nat)), some (.str (tS [c])), some (.ref pl), o] ∧ At T pos l' ∧ l' <:+ l ∧ l'.length < k ∧ ws.length + l'.length ≤ l.length ∧ ws.length ≤ 3 ∧ H1 pl = some (.lst xs) ∧ Rws H1 ws xs ∧ pRowL (pTerm d) c (l.length + 1) [] l = pRowL (pTerm d) c k ws l',
    ⟨l.length, same_new hpl _, p, l, [], [], l.length + 1, none, rfl, rfl, hl, List.suffix_refl _, Nat.lt_succ_self _, by simp, by simp, upd_same, .nil, rfl⟩, fun m σ H1 hP => ?_⟩
  obtain ⟨s1, pos, l', ws, xs, k', o, rfl, rfl, a1, suf, hk', hle, h3, hx1, hw1, er⟩ := hP
  have lx := hw1.length
  have o1 := opn_suf suf
  refine ⟨_, rfl, _, rfl, _, rfl, _, rfl, _, _, rfl, rfl, _, rfl, T, rfl, sz, _, rfl, rfl, _, rfl, ?_⟩
  rw [slice1 a1]
  rw [er] at q1 q2
  by_cases hc' : l'.head? = some c
  · rw [show (!decide (V.str (tS (l'.take 1)) = V.str (tS [c]))) = false by rw [head_dec rfl, decide_eq_true hc']; rfl]
    refine iteF ?_
    rw [rowL_done hk' hc'] at q1 q2
    refine ⟨_, rfl, pl, xs, rfl, .inl ⟨SqL.of hx1, fun t ht => ?_⟩⟩
    have s2 := same_new ht (.tup xs)
    refine ⟨_, rfl, _, _, rfl, rfl, (by show 2 ≤ sizeLine; decide), fun b hb => ?_⟩
    have s3 := same_new hb (.tup [.ref t, .int ((pos : Int) + 1)])
    exact q1 (ws, l'.tail) (by show lim3 (ws, l'.tail) = _; unfold lim3; rw [if_pos (show ws.length ≤ 3 from h3)]) b t xs (pos + 1) _ (s1.trans (s2.trans s3)) upd_same (s3.at upd_same) (hw1.mono (tk_of (s2.trans s3))) (a1.tail hc')
  · rw [show (!decide (V.str (tS (l'.take 1)) = V.str (tS [c]))) = true by rw [head_dec rfl, decide_eq_false hc']; rfl]
    have long := @rowL_long (pTerm d) c k' ws l' hc'
    obtain ⟨k2, rfl, es⟩ := rowL_step (pt := pTerm d) (ws := ws) hk' hc'
    rw [es] at er
    refine iteT ⟨fun σ' H' => ∃ m', m' < l'.length ∧ Same H H' ∧ ∃ pos l' ws xs k o, m' = l'.length ∧ σ' = [some (.str T), some (.int (pos : Nat)), some (.str (tS [c])), some (.ref pl), o] ∧ At T pos l' ∧ l' <:+ l ∧ l'.length < k ∧ ws.length + l'.length ≤ l.length ∧ ws.length ≤ 3 ∧ H' pl = some (.lst xs) ∧ Rws H' ws xs ∧ pRowL (pTerm d) c (l.length + 1) [] l = pRowL (pTerm d) c k ws l', fun σ' H' h => h, ?_⟩
    refine ⟨_, rfl, pl, xs, rfl, .inl (SqL.of hx1), rfl, _, rfl, ite2 (fun g => ?_) (fun g => ?_)⟩
    · have g' : V.int (xs.length : Int) = V.int 3 := of_decide_eq_true g
      injection g' with g'
      exact iteT (q2 (long (lx.symm.trans (Int.ofNat_inj.mp g'))) H1 s1)
    have g3 : ws.length ≠ 3 := fun z => g (by
      show decide (V.int (xs.length : Int) = V.int 3) = true
      rw [lx, z]; exact decide_eq_true rfl)
    rw [es] at q1 q2
    refine cutR (C := ∃ (l2 : List Nat) (n : Nat), sepd ws l' = some l2 ∧ At T (pos + n) l2 ∧ (if decide ((0 : Int) < (xs.length : Int)) = true then (1 : Int) else 0) = (n : Int)) (fun rest => ⟨_, rfl, pl, xs, rfl, .inl (SqL.of hx1), _, _, rfl, rfl, _, rfl, ite2 (fun g0 => ?_) (fun g0 => iteF (rest ?_))⟩) ?_
    · have g0' := of_decide_eq_true g0
      have h0 : ws ≠ [] := fun e => by rw [e] at lx; rw [lx] at g0'; exact absurd g0' (by decide)
      refine ⟨_, rfl, _, rfl, _, rfl, _, rfl, _, _, rfl, rfl, _, rfl, T, rfl, sz, rfl, _, rfl, ?_⟩
      rw [slice1 a1, head_dec (c := 32) (x := " ") rfl]
      by_cases h32 : l'.head? = some 32
      · rw [decide_eq_true h32]
        exact iteF (rest ⟨l'.tail, 1, by unfold sepd; rw [if_neg h0, if_pos h32], a1.tail h32, if_pos g0⟩)
      · rw [decide_eq_false h32]
        refine iteT (q2 ?_ H1 s1)
        unfold sepd
        rw [if_neg h0, if_neg h32]
        rfl
    · have g0' := of_decide_eq_false (Bool.eq_false_iff.mpr g0)
      have h0 := nil0 lx g0'
      exact ⟨l', 0, by unfold sepd; rw [if_pos h0], a1, if_neg g0⟩
    rintro ⟨l2, n, e2, at2, hn⟩
    have suf2 := sepd_suf e2
    have o2 := opn_suf suf2
    have n3 := suf2.length_le
    rw [e2] at er q1 q2
    refine ⟨_, rfl, _, rfl, _, rfl, pl, xs, rfl, .inl (SqL.of hx1), _, _, rfl, rfl, .inr ⟨_, rfl, _, _, rfl, rfl, T, pos + n, l2, ?_, ok, at2, Nat.le_trans o2 (Nat.le_trans o1 ho), fun u r eu b v p3 H3 s3 hb hv a3 => ?_, fun eu H3 s3 => ?_⟩⟩
    · show [V.str T, V.int ((pos : Int) + (if decide ((0 : Int) < (xs.length : Int)) = true then 1 else 0))] = _
      rw [hn]
      rfl
    · refine ⟨_, rfl, rfl, _, rfl, ?_⟩
      rw [show decide (V.ref b = V.non) = false from decide_eq_false fun z => by cases z]
      have hx3 := s3.at hx1
      refine iteF ⟨_, rfl, .inl ⟨rfl, xs, SqL.of hx3⟩, ?_⟩
      refine ⟨_, rfl, b, _, _, _, rfl, rfl, SqT.of hb, at0, pl, xs, v, rfl, rfl, hx3, few lx (Nat.le_trans h3 (by decide)), ?_⟩
      have nb : b ≠ pl := fun z => by rw [z, hx3] at hb; cases hb
      refine ⟨_, rfl, b, _, _, _, rfl, rfl, SqT.of (by rw [upd_ne nb]; exact hb), at1, ?_⟩
      have k4 := tk_lst hx3 (.lst (xs ++ [v]))
      obtain ⟨n1, n2⟩ := term_nar d l2 u r eu
      have n4 := Nat.lt_of_lt_of_le n2 n3
      refine ⟨r.length, n4, same_own (s1.trans s3) hpl hx3 _, p3, r, ws ++ [u], xs ++ [v], k2, _, rfl, rfl, a3, n1.trans (suf2.trans suf), Nat.lt_of_lt_of_le n4 (Nat.le_of_lt_succ hk'), snocL hle n4, snoc3 h3 g3, upd_same, ((hw1.mono (tk_of s3)).mono k4).snoc (hv.mono k4), ?_⟩
      rw [er]
      show (pTerm d l2).bind _ = _
      rw [eu]
      rfl
    · refine ⟨_, rfl, rfl, _, rfl, iteT (q2 ?_ H3 (s1.trans s3))⟩
      show ((pTerm d l2).bind _).bind _ = none
      rw [eu]
      rfl
theorem ok_law_term_at {k d : Nat} {sp : Sp} (D : Def K mg "_law_term_at" s_law_term_at ["text", "at"]) (B : Blt mg) (hk : 1 ≤ k) (G_law_run : Ok P w K mg base "_law_run" ["text", "at", "signs"] 1 spLRun)
    (hsp : (d = 0 ∧ sp = fun _ _ _ _ => False) ∨ ∃ e, d = e + 1 ∧ sp = spPartsAt e) (G_law_parts_at : Ok P w K mg base "_law_parts_at" ["text", "at", "end"] k sp) : Ok P w K mg base "_law_term_at" ["text", "at"] (k + 1) (spTermAt d) := by
  refine D.ok sc_law_term_at (fun vs H Q E h => ?_) (fun f cdv A outer s H vs Q E hr h => ?_)
  · obtain ⟨T, p, l, rfl, _⟩ := h
    rfl
  obtain ⟨T, p, l, rfl, ok, hl, ho, q1, q2⟩ := h
  have sz := ok.sz
  refine ⟨_, (pss_cons (ps_if (pt_cmpR op_eq (pe_slice sl_str (pv 0) (po_some (pv 1)) (po_some (pe_op op_add (pv 1) pe_int))) pe_str (nomark _)) (pss_cons (ps_set (i := 2) sc_law_term_at.nd rfl (Or.inl rfl) (pe_ok G_law_run hr (by first | exact Nat.le_refl _ | decide | assumption | exact Nat.le_trans (by decide) hk | omega) rfl (pa_cons (pv 0) (pa_cons (pe_op op_add (pv 1) pe_int) (pa_cons pe_str pa_nil)))))
    (pss_cons (ps_set (i := 3) sc_law_term_at.nd rfl (Or.inl rfl) (pe_slice sl_str (pv 0) (po_some (pe_op op_add (pv 1) pe_int)) (po_some (pv 2))))
    (pss_cons (ps_if (PW.pt (pw_or (pt_not (pt_chain op_le op_le pe_int (pe_callB call_len_str (by rfl) B.len PySem.boot_len (pa_cons (pv 3) pa_nil)) pe_int)) (pw_or1 (PW.pt (pw_and (pt_cmpR op_gt (pe_callB call_len_str (by rfl) B.len PySem.boot_len (pa_cons (pv 3) pa_nil)) pe_int (nomark _)) (pw_and1 (pt_cmpR op_eq (pe_ix ix_str (pv 3) pe_int (fun _ _ => rfl)) pe_str (nomark _)))))))) (pss_one (ps_ret pe_non)) pss_nil)
    (pss_one (ps_ret (pe_tup (pa_cons (pe_tup (pa_cons pe_str (pa_cons (pe_callTy call_int_text (by rfl) B.int PyProof.Rows.boot_int (pa_cons (pv 3) pa_nil)) pa_nil))) (pa_cons (pv 2) pa_nil)))))))) pss_nil)
    (pss_cons (ps_set (i := 2) sc_law_term_at.nd rfl (Or.inl rfl) (pe_ok G_law_run hr (by first | exact Nat.le_refl _ | decide | assumption | exact Nat.le_trans (by decide) hk | omega) rfl (pa_cons (pv 0) (pa_cons (pv 1) (pa_cons pe_str pa_nil)))))
    (pss_cons (ps_if (PW.pt (pw_or (pt_not (pt_chain op_le op_le pe_int (pe_op op_sub (pv 2) (pv 1)) pe_int)) (pw_or1 (pt_cmpR op_ne (pe_slice sl_str (pv 0) (po_some (pv 2)) (po_some (pe_op op_add (pv 2) pe_int))) pe_str (nomark _))))) (pss_one (ps_ret pe_non)) pss_nil)
    (pss_cons (ps_set (i := 4) sc_law_term_at.nd rfl (Or.inl rfl) (pe_ok G_law_parts_at hr (by first | exact Nat.le_refl _ | decide | assumption | exact Nat.le_trans (by decide) hk | omega) rfl (pa_cons (pv 0) (pa_cons (pe_op op_add (pv 2) pe_int) (pa_cons pe_str pa_nil)))))
    (pss_cons (ps_if (pt_cmpR op_isN (pv 4) pe_non (nomark _)) (pss_one (ps_ret pe_non)) pss_nil)
    (pss_one (ps_ret (pe_tup (pa_cons (pe_tup (pa_cons pe_str (pa_cons (pe_slice sl_str (pv 0) (po_some (pv 1)) (po_some (pv 2))) (pa_cons (pe_ix ix_tup (pv 4) pe_int (fun _ _ => rfl)) pa_nil)))) (pa_cons (pe_ix ix_tup (pv 4) pe_int (fun _ _ => rfl)) pa_nil)))))))))), ?_⟩
  refine ⟨_, rfl, _, rfl, _, rfl, _, rfl, _, _, rfl, rfl, _, rfl, T, rfl, sz, rfl, _, rfl, ?_⟩
  rw [slice1 hl, head_dec (c := 35) (x := "#") rfl]
  by_cases h35 : l.head? = some 35
  · rw [decide_eq_true h35]
    have eT : pTerm d l = pVar l.tail := by cases d <;> rw [pTerm, if_pos h35]
    rw [eT] at q1 q2
    have a1 := hl.tail h35
    refine iteT ⟨_, rfl, _, rfl, _, _, rfl, rfl, T, _, p + 1, l.tail, isFig, rfl, ok, a1, (fun c hc => fig_in ⟨c, hc⟩), ?_⟩
    have hw := tw_at isFig a1
    have figs := tw_all isFig l.tail
    have eS : Txt.slice T (some ((p : Int) + 1)) (some ((p + 1 + (l.tail.takeWhile isFig).length : Nat) : Int)) = tS (l.tail.takeWhile isFig) := sliceN hw
    refine ⟨_, rfl, _, rfl, _, _, rfl, rfl, _, rfl, _, rfl, _, rfl, T, rfl, sz, ?_⟩
    rw [eS]
    obtain ⟨_, len⟩ := tw_low (pr := isFig) ok a1
    have eI := lenI (l.tail.takeWhile isFig)
    have bL : (tS (l.tail.takeWhile isFig)).length ≤ sizeLine := big (Nat.le_trans len (by decide))
    have bad : numOk (l.tail.takeWhile isFig) = false → Q .non H := fun z => q2 (by
      unfold pVar pNum
      rw [if_neg (by rw [z]; decide)]
      rfl) H (Same.refl H)
    have good : numOk (l.tail.takeWhile isFig) = true → ∀ {R : Prop}, (∀ n, PySem.intText? (tS (l.tail.takeWhile isFig)) = some n → (tS (l.tail.takeWhile isFig)).length ≤ 640 → (∀ t, H t = none → ∀ b, upd H t (.tup [.str "var", .int n]) b = none → Q (.ref b) (upd (upd H t (.tup [.str "var", .int n])) b (.tup [.ref t, .int ((p + 1 + (l.tail.takeWhile isFig).length : Nat) : Int)]))) → R) → R := fun z {R} k => by
      refine k _ (num_text z figs) (numLen z) fun t ht b hb => ?_
      have s1 := same_new ht (.tup [.str "var", .int (numV (l.tail.takeWhile isFig))])
      have s2 := same_new hb (.tup [.ref t, .int ((p + 1 + (l.tail.takeWhile isFig).length : Nat) : Int)])
      exact q1 (.var (numV (l.tail.takeWhile isFig))) (l.tail.dropWhile isFig) (by unfold pVar pNum; rw [if_pos z]; rfl) b (.ref t) _ _ (s1.trans s2) upd_same (.var (s2.at upd_same)) hw.go
    refine ⟨_, rfl, _, rfl, bL, _, _, rfl, rfl, _, rfl, ite2 (fun c1 => ?_) (fun c1 => ?_)⟩
    · have c1' := of_decide_eq_true c1
      refine ⟨_, _, rfl, rfl, _, rfl, ite2 (fun c2 => iteT (bad (num_long eI c2))) (fun c2 => ?_)⟩
      have z3 := leI' (b := 3) eI c2
      obtain ⟨x, xs, ec⟩ : ∃ x xs, l.tail.takeWhile isFig = x :: xs := by
        cases e : l.tail.takeWhile isFig with
        | nil => rw [e] at c1'; exact absurd c1' (by decide)
        | cons x xs => exact ⟨x, xs, rfl⟩
      refine ⟨_, rfl, _, rfl, bL, _, _, rfl, rfl, _, rfl, ite2 (fun c3 => ?_) (fun c3 => iteF ?_)⟩
      · have c3' := of_decide_eq_true c3
        refine ⟨_, rfl, tS (l.tail.takeWhile isFig), _, x, rfl, rfl, bL, (by rw [cps_tS, ec]; exact at0), rfl, _, rfl, ite2 (fun c4 => bad ?_) (fun c4 => good ?_ fun n h1 h2 h3 => ⟨_, rfl, _, n, rfl, h1, h2, (by show 2 ≤ sizeLine; decide), fun t ht => ⟨_, rfl, (by show 2 ≤ sizeLine; decide), fun b hb => h3 t ht b hb⟩⟩)⟩
        · have c4' : V.str (tS [x]) = V.str (tS [48]) := of_decide_eq_true c4
          have e48 := tS_inj c4'
          injection e48 with e48
          exact num_zero eI (by rw [ec, e48]) c3'
        · have n48 : x ≠ 48 := fun z => c4 (by
            show decide (V.str (tS [x]) = V.str (tS [48])) = true
            rw [z]; exact decide_eq_true rfl)
          exact num_two ec z3 n48
      · have c3' := of_decide_eq_false (Bool.eq_false_iff.mpr c3)
        exact good (num_one eI ec c3') fun n h1 h2 h3 => ⟨_, rfl, _, n, rfl, h1, h2, (by show 2 ≤ sizeLine; decide), fun t ht => ⟨_, rfl, (by show 2 ≤ sizeLine; decide), fun b hb => h3 t ht b hb⟩⟩
    · exact ⟨_, rfl, iteT (iteT (bad (num_nil eI (of_decide_eq_false (Bool.eq_false_iff.mpr c1)))))⟩
  · rw [decide_eq_false h35]
    refine iteF ⟨_, rfl, _, rfl, T, _, p, l, isLet, rfl, ok, hl, (fun c hc => let_in ⟨c, hc⟩), ?_⟩
    have hw := tw_at isLet hl
    have eP := pmI p (l.takeWhile isLet).length
    have none_ : pNode (pTerm (d - 1)) 40 41 wFun l = none → Q .non H := fun z => q2 (by
      cases d with
      | zero => rw [pTerm, if_neg h35]
      | succ d => rw [pTerm, if_neg h35]; exact z) H (Same.refl H)
    have nbad : nmOk (l.takeWhile isLet) = false → Q .non H := fun z => none_ (by
      unfold pNode pName
      rw [if_neg (by rw [z]; decide)]
      rfl)
    refine ⟨_, rfl, _, rfl, _, _, rfl, rfl, _, _, rfl, rfl, _, rfl, ite2 (fun c1 => ?_) (fun c1 => ?_)⟩
    · refine ⟨_, _, rfl, rfl, _, rfl, ite2 (fun c2 => iteT (nbad (nm_long eP c2))) (fun c2 => ?_)⟩
      have nok := nm_good eP (of_decide_eq_true c1) c2
      have en : pName l = some (tS (l.takeWhile isLet), l.dropWhile isLet) := by unfold pName; rw [if_pos nok]
      have ox := opn_suf (name_nar en).1
      refine ⟨_, rfl, _, rfl, _, rfl, _, rfl, _, _, rfl, rfl, _, rfl, T, rfl, sz, rfl, _, rfl, ?_⟩
      rw [slice1 hw.go, head_dec (c := 40) (x := "(") rfl]
      by_cases h40 : (l.dropWhile isLet).head? = some 40
      · rw [decide_eq_true h40]
        have o40 := Nat.le_trans (Nat.le_of_eq (opn_tail h40 (.inl rfl)).symm) (Nat.le_trans ox ho)
        rcases hsp with ⟨rfl, _⟩ | ⟨e, rfl, rfl⟩
        · exact absurd o40 (Nat.not_succ_le_zero _)
        have a2 := hw.go.tail h40
        have eT : pTerm (e + 1) l = (pRow (pTerm e) 41 (l.dropWhile isLet).tail).map fun y => (wFun (tS (l.takeWhile isLet)) y.1, y.2) := by
          rw [pTerm, if_neg h35]
          unfold pNode
          rw [en]
          show (if (l.dropWhile isLet).head? = some 40 then _ else none) = _
          rw [if_pos h40]
        rw [eT] at q1 q2
        refine iteF ⟨_, rfl, _, rfl, _, _, rfl, rfl, T, _, 41, _, rfl, (by decide), ok, a2, Nat.le_of_succ_le_succ o40, fun y ey b t xs p3 H3 s3 hb ht hws a3 => ?_, fun ey H3 s3 => ?_⟩
        · refine ⟨_, rfl, rfl, _, rfl, ?_⟩
          rw [show decide (V.ref b = V.non) = false from decide_eq_false fun z => by cases z]
          refine iteF ⟨_, rfl, _, rfl, _, rfl, _, rfl, _, rfl, T, rfl, sz, ?_⟩
          rw [sliceN hw]
          refine ⟨_, rfl, b, _, _, _, rfl, rfl, SqT.of hb, at0, (by show 3 ≤ sizeLine; decide), fun t2 ht2 => ?_⟩
          have s4 := same_new ht2 (.tup [.str "fun", .str (tS (l.takeWhile isLet)), .ref t])
          refine ⟨_, rfl, b, _, _, _, rfl, rfl, SqT.of (s4.at hb), at1, (by show 2 ≤ sizeLine; decide), fun b2 hb2 => ?_⟩
          have s5 := same_new hb2 (.tup [.ref t2, .int (p3 : Nat)])
          exact q1 (wFun (tS (l.takeWhile isLet)) y.1) y.2 (by rw [ey]; rfl) b2 (.ref t2) p3 _ (s3.trans (s4.trans s5)) upd_same (.node (hws.mono (tk_of (s4.trans s5))) (.named t rfl (s5.at upd_same) ((s4.trans s5).at ht))) a3
        · refine ⟨_, rfl, rfl, _, rfl, iteT (q2 (by rw [ey]; rfl) H3 s3)⟩
      · rw [decide_eq_false h40]
        refine iteT (none_ ?_)
        unfold pNode
        rw [en]
        show (if (l.dropWhile isLet).head? = some 40 then _ else none) = none
        rw [if_neg h40]
    · exact ⟨_, rfl, iteT (iteT (nbad (nm_nil eP (of_decide_eq_false (Bool.eq_false_iff.mpr c1)))))⟩
theorem ok_law_terms_at (Dt_ : Def K mg "_law_term_at" s_law_term_at ["text", "at"]) (Dr : Def K mg "_law_parts_at" s_law_parts_at ["text", "at", "end"]) (B : Blt mg) (G_law_run : Ok P w K mg base "_law_run" ["text", "at", "signs"] 1 spLRun) :
    ∀ d : Nat, Ok P w K mg base "_law_term_at" ["text", "at"] (2 * d + 2) (spTermAt d) ∧ Ok P w K mg base "_law_parts_at" ["text", "at", "end"] (2 * d + 3) (spPartsAt d)
  | 0 => by
    have t := ok_law_term_at (k := 1) (d := 0) Dt_ B (Nat.le_refl 1) G_law_run (.inl ⟨rfl, rfl⟩) (Dr.void fun _ _ _ _ h => h)
    exact ⟨t, ok_law_parts_at Dr B t⟩
  | d + 1 => by
    have ih := ok_law_terms_at Dt_ Dr B G_law_run d
    have t := ok_law_term_at (k := 2 * d + 3) (d := d + 1) Dt_ B (Nat.le_add_left 1 _) G_law_run (.inr ⟨d, rfl, rfl⟩) ih.2
    exact ⟨t, ok_law_parts_at Dr B t⟩
theorem ok_law_two_at {k g d : Nat} (D : Def K mg "_law_two_at" s_law_two_at ["text", "at"]) (B : Blt mg) (G_law_term_at : Ok P w K mg base "_law_term_at" ["text", "at"] k (spTermAt g)) (G_law_form_at : Ok P w K mg base "_law_form_at" ["text", "at"] k (spFormAt g d)) :
    Ok P w K mg base "_law_two_at" ["text", "at"] (k + 1) (spTwoAt g d) := by
  refine D.ok sc_law_two_at (fun vs H Q E h => ?_) (fun f cdv A outer s H vs Q E hr h => ?_)
  · obtain ⟨T, p, l, rfl, _⟩ := h
    rfl
  obtain ⟨T, p, l, rfl, ok, hl, ho, hog, q1', q2'⟩ := h
  have q1 : ∀ w r, pPair (pTerm g) (pForm g d) l = some (w, r) → ∀ b v p' H', Same H H' → H' b = some (.tup [v, .int (p' : Nat)]) → Rw H' w v → At T p' r → Q (.ref b) H' := q1'
  have q2 : pPair (pTerm g) (pForm g d) l = none → ∀ H', Same H H' → Q .non H' := q2'
  clear q1' q2'
  have sz := ok.sz
  refine ⟨_, (pss_cons (ps_for PassesOwn.never rfl (pi_range1 (by rfl) B.range (pa_cons pe_int pa_nil)) (pg_name (i := 2) sc_law_two_at.nd rfl (Or.inl rfl)) (pss_cons (ps_set (i := 3) sc_law_two_at.nd rfl (Or.inl rfl) (pe_ifExp (pt_cmpR op_eq (pv 2) pe_int (nomark _)) (pe_ok G_law_term_at hr (by first | exact Nat.le_refl _ | decide | assumption | exact Nat.le_trans (by decide) hk | omega) rfl (pa_cons (pv 0) (pa_cons (pv 1) pa_nil))) (pe_ok G_law_form_at hr (by first | exact Nat.le_refl _ | decide | assumption | exact Nat.le_trans (by decide) hk | omega) rfl (pa_cons (pv 0) (pa_cons (pv 1) pa_nil)))))
    (pss_one (ps_if (PW.pt (pw_and (pt_cmpR op_notN (pv 3) pe_non (nomark _)) (pw_and1 (pt_cmpR op_eq (pe_slice sl_str (pv 0) (po_some (pe_ix ix_tup (pv 3) pe_int (fun _ _ => rfl))) (po_some (pe_op op_add (pe_ix ix_tup (pv 3) pe_int (fun _ _ => rfl)) pe_int))) (pe_ix ix_list (pe_lst (pa_cons pe_str (pa_cons pe_str pa_nil))) (pv 2) (fun _ _ => rfl)) (nomark _))))) (pss_cons (ps_set (i := 4) sc_law_two_at.nd rfl (Or.inl rfl) (pe_ifExp (pt_cmpR op_eq (pv 2) pe_int (nomark _)) (pe_ok G_law_term_at hr (by first | exact Nat.le_refl _ | decide | assumption | exact Nat.le_trans (by decide) hk | omega) rfl (pa_cons (pv 0) (pa_cons (pe_op op_add (pe_ix ix_tup (pv 3) pe_int (fun _ _ => rfl)) pe_int) pa_nil))) (pe_ok G_law_form_at hr (by first | exact Nat.le_refl _ | decide | assumption | exact Nat.le_trans (by decide) hk | omega) rfl (pa_cons (pv 0) (pa_cons (pe_op op_add (pe_ix ix_tup (pv 3) pe_int (fun _ _ => rfl)) pe_int) pa_nil)))))
    (pss_cons (ps_if (PW.pt (pw_or (pt_cmpR op_isN (pv 4) pe_non (nomark _)) (pw_or1 (pt_cmpR op_ne (pe_slice sl_str (pv 0) (po_some (pe_ix ix_tup (pv 4) pe_int (fun _ _ => rfl))) (po_some (pe_op op_add (pe_ix ix_tup (pv 4) pe_int (fun _ _ => rfl)) pe_int))) pe_str (nomark _))))) (pss_one (ps_ret pe_non)) pss_nil)
    (pss_one (ps_ret (pe_tup (pa_cons (pe_tup (pa_cons (pe_ix ix_list (pe_lst (pa_cons pe_str (pa_cons pe_str pa_nil))) (pv 2) (fun _ _ => rfl)) (pa_cons (pe_ix ix_tup (pv 3) pe_int (fun _ _ => rfl)) (pa_cons (pe_ix ix_tup (pv 4) pe_int (fun _ _ => rfl)) pa_nil)))) (pa_cons (pe_op op_add (pe_ix ix_tup (pv 4) pe_int (fun _ _ => rfl)) pe_int) pa_nil))))))) pss_nil))))
    (pss_one (ps_ret pe_non))), ?_⟩
  refine ⟨_, rfl, (by decide), (by decide), ?_⟩
  refine for_range (lo := 0) (n := 2) (fun i σ H1 => Same H H1 ∧ (1 ≤ i → termAhead l = false ∨ pPair (pTerm g) (pForm g d) l = none) ∧ (2 ≤ i → pPair (pTerm g) (pForm g d) l = none) ∧ ∃ o1 o2 o3, σ = [some (.str T), some (.int (p : Nat)), o1, o2, o3])
    ⟨Same.refl _, (fun h => absurd h (by decide)), (fun h => absurd h (by decide)), _, _, _, rfl⟩ (fun i σ H1 hi hP => ?_) (fun σ H1 hP => ?_)
  · obtain ⟨s1, h1, h2, o1, o2, o3, rfl⟩ := hP
    refine ⟨_, rfl, rfl, _, rfl, ?_⟩
    obtain rfl | rfl : i = 0 ∨ i = 1 := i01 hi
    · rw [decide_eq_true (show V.int (0 + ((0 : Nat) : Int)) = V.int 0 by rfl)]
      clear h1 h2
      by_cases ta : termAhead l = true
      case neg =>
        have ta' : termAhead l = false := Bool.eq_false_iff.mpr ta
        have tn := ahead_term ta' g
        refine iteT ⟨_, rfl, _, rfl, T, p, l, rfl, ok, hl, hog, fun u r eu => ?_, fun eu H2 s2 => ?_⟩
        · rw [tn] at eu
          cases eu
        · exact ⟨_, rfl, rfl, _, rfl, iteF ⟨s1.trans s2, (fun _ => .inl ta'), (fun h => absurd h (by decide)), _, _, _, rfl⟩⟩
      have two : pPair (pTerm g) (pForm g d) l = pTwo (pTerm g) [32, 61, 32] wSame l := by unfold pPair; rw [if_pos ta]
      refine iteT ⟨_, rfl, _, rfl, T, p, l, rfl, ok, hl, hog, fun u r eu b v p2 H2 s2 hb hv a2 => ?_, fun eu H2 s2 => ?_⟩
      · refine ⟨_, rfl, rfl, _, rfl, ?_⟩
        rw [show (!decide (V.ref b = V.non)) = true by rw [decide_eq_false (show ¬ V.ref b = V.non from fun z => by cases z)]; rfl]
        refine iteT ⟨_, rfl, _, rfl, b, _, _, _, rfl, rfl, SqT.of hb, at1, _, rfl, _, rfl, b, _, _, _, rfl, rfl, SqT.of hb, at1, _, _, rfl, rfl, _, rfl, T, rfl, sz, (by show 2 ≤ sizeLine; decide), fun L hL => ?_⟩
        have s3 := same_new hL (.lst [.str " = ", .str " > "])
        refine ⟨_, rfl, L, _, _, _, rfl, rfl, SqL.of upd_same, at0, rfl, _, rfl, ?_⟩
        rw [show Txt.slice T (some (p2 : Int)) (some ((p2 : Int) + 3)) = tS (r.take ([32, 61, 32] : List Nat).length) from sliceK 3 a2, mid_dec (m := [32, 61, 32]) (x := " = ") rfl]
        cases em : mid [32, 61, 32] r with
        | none => exact iteF ⟨s1.trans (s2.trans s3), (fun _ => .inr (by rw [two]; unfold pTwo; rw [eu]; show (mid [32, 61, 32] r).bind _ = none; rw [em]; rfl)), (fun h => absurd h (by decide)), _, _, _, rfl⟩
        | some r2 =>
          have o2 := opn_suf (term_nar g l u r eu).1
          have o3 := opn_suf (mid_suf em)
          have a3 : At T (p2 + 3) r2 := at_mid a2 em
          have hb3 := s3.at hb
          refine iteT ⟨_, rfl, rfl, _, rfl, ?_⟩
          rw [decide_eq_true (show V.int (0 + ((0 : Nat) : Int)) = V.int 0 by rfl)]
          refine iteT ⟨_, rfl, _, rfl, b, _, _, _, rfl, rfl, SqT.of hb3, at1, _, _, rfl, rfl, T, p2 + 3, r2, rfl, ok, a3, Nat.le_trans o3 (Nat.le_trans o2 hog), fun u2 r3 eu2 b2 v2 p4 H4 s4 hb2 hv2 a4 => ?_, fun eu2 H4 s4 => ?_⟩
          · have hb4 := s4.at hb3
            have s34 := s3.trans s4
            refine ⟨_, rfl, rfl, _, rfl, ?_⟩
            rw [show decide (V.ref b2 = V.non) = false from decide_eq_false fun z => by cases z]
            refine iteF ⟨_, rfl, _, rfl, b2, _, _, _, rfl, rfl, SqT.of hb2, at1, _, rfl, _, rfl, b2, _, _, _, rfl, rfl, SqT.of hb2, at1, _, _, rfl, rfl, _, rfl, T, rfl, sz, rfl, _, rfl, ?_⟩
            have eqP : pPair (pTerm g) (pForm g d) l = (mid [41] r3).map fun r' => (wSame u u2, r') := by
              rw [two]
              unfold pTwo
              rw [eu]
              show (mid [32, 61, 32] r).bind _ = _
              rw [em]
              show (pTerm g r2).bind _ = _
              rw [eu2]
              rfl
            rw [slice1 a4, head_dec (c := 41) (x := ")") rfl]
            by_cases h41 : r3.head? = some 41
            · rw [decide_eq_true h41]
              refine iteF ⟨(by show 2 ≤ sizeLine; decide), fun L2 hL2 => ?_⟩
              have s5 := same_new hL2 (.lst [.str "same", .str "if"])
              refine ⟨_, rfl, L2, _, _, _, rfl, rfl, SqL.of upd_same, at0, _, rfl, b, _, _, _, rfl, rfl, SqT.of (s5.at hb4), at0, _, rfl, b2, _, _, _, rfl, rfl, SqT.of (s5.at hb2), at0, (by show 3 ≤ sizeLine; decide), fun t ht => ?_⟩
              have s6 := same_new ht (.tup [.str "same", v, v2])
              have s56 := s5.trans s6
              refine ⟨_, rfl, b2, _, _, _, rfl, rfl, SqT.of (s56.at hb2), at1, _, _, rfl, rfl, (by show 2 ≤ sizeLine; decide), fun b3 hb3 => ?_⟩
              have s7 := same_new hb3 (.tup [.ref t, .int ((p4 : Int) + 1)])
              have s57 := s56.trans s7
              have s67 := s6.trans s7
              refine q1 (wSame u u2) r3.tail ?_ b3 (.ref t) (p4 + 1) _ (s1.trans (s2.trans (s34.trans s57))) upd_same ?_ (a4.tail h41)
              · rw [eqP, mid1, if_pos h41]
                rfl
              · exact .node (.cons (hv.mono (tk_of (s34.trans s57))) (.cons (hv2.mono (tk_of s57)) .nil)) (.plain rfl (s7.at upd_same) rfl)
            · rw [decide_eq_false h41]
              refine iteT (q2 ?_ _ (s1.trans (s2.trans s34)))
              rw [eqP, mid1, if_neg h41]
              rfl
          · refine ⟨_, rfl, rfl, _, rfl, iteT (iteT (q2 ?_ _ (s1.trans (s2.trans (s3.trans s4)))))⟩
            rw [two]
            unfold pTwo
            rw [eu]
            show (mid [32, 61, 32] r).bind _ = _
            rw [em]
            show (pTerm g r2).bind _ = _
            rw [eu2]
            rfl
      · refine ⟨_, rfl, rfl, _, rfl, iteF ?_⟩
        exact ⟨s1.trans s2, (fun _ => .inr (by rw [two]; unfold pTwo; rw [eu]; rfl)), (fun h => absurd h (by decide)), _, _, _, rfl⟩
    · rw [decide_eq_false (show ¬ V.int (0 + ((1 : Nat) : Int)) = V.int 0 from fun z => by injection z with z; exact absurd z (by decide))]
      by_cases ta : termAhead l = false
      case neg =>
        have ta' : termAhead l = true := by simpa using ta
        have fn := ahead_form (g := g) ta' d
        have pn := (h1 (by decide)).resolve_left ta
        refine iteF ⟨_, rfl, _, rfl, T, p, l, rfl, ok, hl, ho, hog, fun u r eu => ?_, fun eu H2 s2 => ?_⟩
        · rw [fn] at eu
          cases eu
        · exact ⟨_, rfl, rfl, _, rfl, iteF ⟨s1.trans s2, (fun _ => .inr pn), (fun _ => pn), _, _, _, rfl⟩⟩
      have two : pPair (pTerm g) (pForm g d) l = pTwo (pForm g d) [32, 62, 32] wIf l := by unfold pPair; rw [if_neg (by rw [ta]; decide)]
      refine iteF ⟨_, rfl, _, rfl, T, p, l, rfl, ok, hl, ho, hog, fun u r eu b v p2 H2 s2 hb hv a2 => ?_, fun eu H2 s2 => ?_⟩
      · refine ⟨_, rfl, rfl, _, rfl, ?_⟩
        rw [show (!decide (V.ref b = V.non)) = true by rw [decide_eq_false (show ¬ V.ref b = V.non from fun z => by cases z)]; rfl]
        refine iteT ⟨_, rfl, _, rfl, b, _, _, _, rfl, rfl, SqT.of hb, at1, _, rfl, _, rfl, b, _, _, _, rfl, rfl, SqT.of hb, at1, _, _, rfl, rfl, _, rfl, T, rfl, sz, (by show 2 ≤ sizeLine; decide), fun L hL => ?_⟩
        have s3 := same_new hL (.lst [.str " = ", .str " > "])
        refine ⟨_, rfl, L, _, _, _, rfl, rfl, SqL.of upd_same, at1, rfl, _, rfl, ?_⟩
        rw [show Txt.slice T (some (p2 : Int)) (some ((p2 : Int) + 3)) = tS (r.take ([32, 62, 32] : List Nat).length) from sliceK 3 a2, mid_dec (m := [32, 62, 32]) (x := " > ") rfl]
        cases em : mid [32, 62, 32] r with
        | none => exact iteF ⟨s1.trans (s2.trans s3), (fun _ => .inl ta), (fun _ => by rw [two]; unfold pTwo; rw [eu]; show (mid [32, 62, 32] r).bind _ = none; rw [em]; rfl), _, _, _, rfl⟩
        | some r2 =>
          have o2 := opn_suf (form_nar g d l u r eu).1
          have o3 := opn_suf (mid_suf em)
          have a3 : At T (p2 + 3) r2 := at_mid a2 em
          have hb3 := s3.at hb
          refine iteT ⟨_, rfl, rfl, _, rfl, ?_⟩
          rw [decide_eq_false (show ¬ V.int (0 + ((1 : Nat) : Int)) = V.int 0 from fun z => by injection z with z; exact absurd z (by decide))]
          refine iteF ⟨_, rfl, _, rfl, b, _, _, _, rfl, rfl, SqT.of hb3, at1, _, _, rfl, rfl, T, p2 + 3, r2, rfl, ok, a3, Nat.le_trans o3 (Nat.le_trans o2 ho), Nat.le_trans o3 (Nat.le_trans o2 hog), fun u2 r3 eu2 b2 v2 p4 H4 s4 hb2 hv2 a4 => ?_, fun eu2 H4 s4 => ?_⟩
          · have hb4 := s4.at hb3
            have s34 := s3.trans s4
            refine ⟨_, rfl, rfl, _, rfl, ?_⟩
            rw [show decide (V.ref b2 = V.non) = false from decide_eq_false fun z => by cases z]
            refine iteF ⟨_, rfl, _, rfl, b2, _, _, _, rfl, rfl, SqT.of hb2, at1, _, rfl, _, rfl, b2, _, _, _, rfl, rfl, SqT.of hb2, at1, _, _, rfl, rfl, _, rfl, T, rfl, sz, rfl, _, rfl, ?_⟩
            have eqP : pPair (pTerm g) (pForm g d) l = (mid [41] r3).map fun r' => (wIf u u2, r') := by
              rw [two]
              unfold pTwo
              rw [eu]
              show (mid [32, 62, 32] r).bind _ = _
              rw [em]
              show (pForm g d r2).bind _ = _
              rw [eu2]
              rfl
            rw [slice1 a4, head_dec (c := 41) (x := ")") rfl]
            by_cases h41 : r3.head? = some 41
            · rw [decide_eq_true h41]
              refine iteF ⟨(by show 2 ≤ sizeLine; decide), fun L2 hL2 => ?_⟩
              have s5 := same_new hL2 (.lst [.str "same", .str "if"])
              refine ⟨_, rfl, L2, _, _, _, rfl, rfl, SqL.of upd_same, at1, _, rfl, b, _, _, _, rfl, rfl, SqT.of (s5.at hb4), at0, _, rfl, b2, _, _, _, rfl, rfl, SqT.of (s5.at hb2), at0, (by show 3 ≤ sizeLine; decide), fun t ht => ?_⟩
              have s6 := same_new ht (.tup [.str "if", v, v2])
              have s56 := s5.trans s6
              refine ⟨_, rfl, b2, _, _, _, rfl, rfl, SqT.of (s56.at hb2), at1, _, _, rfl, rfl, (by show 2 ≤ sizeLine; decide), fun b3 hb3 => ?_⟩
              have s7 := same_new hb3 (.tup [.ref t, .int ((p4 : Int) + 1)])
              have s57 := s56.trans s7
              have s67 := s6.trans s7
              refine q1 (wIf u u2) r3.tail ?_ b3 (.ref t) (p4 + 1) _ (s1.trans (s2.trans (s34.trans s57))) upd_same ?_ (a4.tail h41)
              · rw [eqP, mid1, if_pos h41]
                rfl
              · exact .node (.cons (hv.mono (tk_of (s34.trans s57))) (.cons (hv2.mono (tk_of s57)) .nil)) (.plain rfl (s7.at upd_same) rfl)
            · rw [decide_eq_false h41]
              refine iteT (q2 ?_ _ (s1.trans (s2.trans s34)))
              rw [eqP, mid1, if_neg h41]
              rfl
          · refine ⟨_, rfl, rfl, _, rfl, iteT (iteT (q2 ?_ _ (s1.trans (s2.trans (s3.trans s4)))))⟩
            rw [two]
            unfold pTwo
            rw [eu]
            show (mid [32, 62, 32] r).bind _ = _
            rw [em]
            show (pForm g d r2).bind _ = _
            rw [eu2]
            rfl
      · refine ⟨_, rfl, rfl, _, rfl, iteF ?_⟩
        exact ⟨s1.trans s2, (fun _ => .inl ta), (fun _ => by rw [two]; unfold pTwo; rw [eu]; rfl), _, _, _, rfl⟩
  · obtain ⟨s1, h1, h2, _⟩ := hP
    exact q2 (h2 (by decide)) H1 s1
theorem ok_law_form_at {k g d : Nat} {sp sp2 : Sp} (D : Def K mg "_law_form_at" s_law_form_at ["text", "at"]) (B : Blt mg) (hk : 1 ≤ k) (G_law_run : Ok P w K mg base "_law_run" ["text", "at", "signs"] 1 spLRun) (G_law_parts_at : Ok P w K mg base "_law_parts_at" ["text", "at", "end"] k (spPartsAt g))
    (hsp : (d = 0 ∧ (sp = fun _ _ _ _ => False) ∧ sp2 = fun _ _ _ _ => False) ∨ ∃ e, d = e + 1 ∧ sp = spFormAt g e ∧ sp2 = spTwoAt g e) (G_law_form_at : Ok P w K mg base "_law_form_at" ["text", "at"] k sp) (G_law_two_at : Ok P w K mg base "_law_two_at" ["text", "at"] k sp2) :
    Ok P w K mg base "_law_form_at" ["text", "at"] (k + 1) (spFormAt g d) := by
  refine D.ok sc_law_form_at (fun vs H Q E h => ?_) (fun f cdv A outer s H vs Q E hr h => ?_)
  · obtain ⟨T, p, l, rfl, _⟩ := h
    rfl
  obtain ⟨T, p, l, rfl, ok, hl, ho, hog, q1, q2⟩ := h
  have sz := ok.sz
  refine ⟨_, (pss_cons (ps_set (i := 2) sc_law_form_at.nd rfl (Or.inl rfl) (pe_slice sl_str (pv 0) (po_some (pv 1)) (po_some (pe_op op_add (pv 1) pe_int))))
    (pss_cons (ps_if (pt_cmpR op_eq (pv 2) pe_str (nomark _)) (pss_one (ps_ret (pe_tup (pa_cons (pe_tup (pa_cons pe_str pa_nil)) (pa_cons (pe_op op_add (pv 1) pe_int) pa_nil))))) pss_nil)
    (pss_cons (ps_if (pt_cmpR op_eq (pv 2) pe_str (nomark _)) (pss_one (ps_ret (pe_ok G_law_two_at hr (by first | exact Nat.le_refl _ | decide | assumption | exact Nat.le_trans (by decide) hk | omega) rfl (pa_cons (pv 0) (pa_cons (pe_op op_add (pv 1) pe_int) pa_nil))))) pss_nil)
    (pss_cons (ps_if (pt_cmpR op_eq (pv 2) pe_str (nomark _)) (pss_cons (ps_set (i := 3) sc_law_form_at.nd rfl (Or.inl rfl) (pe_ok G_law_form_at hr (by first | exact Nat.le_refl _ | decide | assumption | exact Nat.le_trans (by decide) hk | omega) rfl (pa_cons (pv 0) (pa_cons (pe_op op_add (pv 1) pe_int) pa_nil))))
    (pss_one (ps_ret (pe_ifExp (pt_cmpR op_isN (pv 3) pe_non (nomark _)) pe_non (pe_tup (pa_cons (pe_tup (pa_cons pe_str (pa_cons (pe_ix ix_tup (pv 3) pe_int (fun _ _ => rfl)) pa_nil))) (pa_cons (pe_ix ix_tup (pv 3) pe_int (fun _ _ => rfl)) pa_nil))))))) pss_nil)
    (pss_cons (ps_set (i := 4) sc_law_form_at.nd rfl (Or.inl rfl) (pe_ok G_law_run hr (by first | exact Nat.le_refl _ | decide | assumption | exact Nat.le_trans (by decide) hk | omega) rfl (pa_cons (pv 0) (pa_cons (pv 1) (pa_cons pe_str pa_nil)))))
    (pss_cons (ps_if (PW.pt (pw_or (pt_not (pt_chain op_le op_le pe_int (pe_op op_sub (pv 4) (pv 1)) pe_int)) (pw_or1 (pt_cmpR op_ne (pe_slice sl_str (pv 0) (po_some (pv 4)) (po_some (pe_op op_add (pv 4) pe_int))) pe_str (nomark _))))) (pss_one (ps_ret pe_non)) pss_nil)
    (pss_cons (ps_set (i := 5) sc_law_form_at.nd rfl (Or.inl rfl) (pe_ok G_law_parts_at hr (by first | exact Nat.le_refl _ | decide | assumption | exact Nat.le_trans (by decide) hk | omega) rfl (pa_cons (pv 0) (pa_cons (pe_op op_add (pv 4) pe_int) (pa_cons pe_str pa_nil)))))
    (pss_one (ps_ret (pe_ifExp (pt_cmpR op_isN (pv 5) pe_non (nomark _)) pe_non (pe_tup (pa_cons (pe_tup (pa_cons pe_str (pa_cons (pe_slice sl_str (pv 0) (po_some (pv 1)) (po_some (pv 4))) (pa_cons (pe_ix ix_tup (pv 5) pe_int (fun _ _ => rfl)) pa_nil)))) (pa_cons (pe_ix ix_tup (pv 5) pe_int (fun _ _ => rfl)) pa_nil))))))))))))), ?_⟩
  refine ⟨_, rfl, _, rfl, _, rfl, _, rfl, _, _, rfl, rfl, _, rfl, T, rfl, sz, ?_⟩
  rw [slice1 hl]
  refine ⟨_, rfl, rfl, _, rfl, ?_⟩
  rw [head_dec (c := 33) (x := "!") rfl]
  by_cases h33 : l.head? = some 33
  · rw [decide_eq_true h33]
    have eF : pForm g d l = some (wNo, l.tail) := by cases d <;> rw [pForm, if_pos h33]
    refine iteT ⟨(by show 1 ≤ sizeLine; decide), fun t ht => ?_⟩
    have s1 := same_new ht (.tup [.str "no"])
    refine ⟨_, rfl, _, _, rfl, rfl, (by show 2 ≤ sizeLine; decide), fun b hb => ?_⟩
    have s2 := same_new hb (.tup [.ref t, .int ((p : Int) + 1)])
    exact q1 _ _ eF b (.ref t) (p + 1) _ (s1.trans s2) upd_same (.node .nil (.plain rfl (s2.at upd_same) rfl)) (hl.tail h33)
  rw [decide_eq_false h33]
  refine iteF ⟨_, rfl, rfl, _, rfl, ?_⟩
  rw [head_dec (c := 40) (x := "(") rfl]
  by_cases h40 : l.head? = some 40
  · rw [decide_eq_true h40]
    have h42 : ¬ l.head? = some 42 := by rw [h40]; decide
    have o40 := Nat.le_of_eq (opn_tail h40 (.inl rfl)).symm
    have oe := Nat.le_trans o40 ho
    rcases hsp with ⟨rfl, _⟩ | ⟨e, rfl, rfl, rfl⟩
    · exact absurd oe (Nat.not_succ_le_zero _)
    have eF : pForm g (e + 1) l = pPair (pTerm g) (pForm g e) l.tail := by rw [pForm, if_neg h33, if_neg h42, if_pos h40]
    rw [eF] at q1 q2
    exact iteT ⟨_, rfl, _, rfl, _, _, rfl, rfl, T, p + 1, l.tail, rfl, ok, hl.tail h40, Nat.le_of_succ_le_succ oe, Nat.le_of_succ_le (Nat.le_trans o40 hog), q1, q2⟩
  rw [decide_eq_false h40]
  refine iteF ⟨_, rfl, rfl, _, rfl, ?_⟩
  rw [head_dec (c := 42) (x := "*") rfl]
  by_cases h42 : l.head? = some 42
  · rw [decide_eq_true h42]
    have o42 := Nat.le_of_eq (opn_tail h42 (.inr rfl)).symm
    have oe := Nat.le_trans o42 ho
    rcases hsp with ⟨rfl, _⟩ | ⟨e, rfl, rfl, rfl⟩
    · exact absurd oe (Nat.not_succ_le_zero _)
    have eF : pForm g (e + 1) l = (pForm g e l.tail).map fun x => (wAll x.1, x.2) := by rw [pForm, if_neg h33, if_pos h42]
    rw [eF] at q1 q2
    refine iteT ⟨_, rfl, _, rfl, _, _, rfl, rfl, T, p + 1, l.tail, rfl, ok, hl.tail h42, Nat.le_of_succ_le_succ oe, Nat.le_of_succ_le (Nat.le_trans o42 hog), fun u r eu b v p2 H2 s2 hb hv a2 => ?_, fun eu H2 s2 => ?_⟩
    · refine ⟨_, rfl, rfl, _, rfl, ?_⟩
      rw [show decide (V.ref b = V.non) = false from decide_eq_false fun z => by cases z]
      refine iteF ⟨_, rfl, b, _, _, _, rfl, rfl, SqT.of hb, at0, (by show 2 ≤ sizeLine; decide), fun t ht => ?_⟩
      have s3 := same_new ht (.tup [.str "all", v])
      refine ⟨_, rfl, b, _, _, _, rfl, rfl, SqT.of (s3.at hb), at1, (by show 2 ≤ sizeLine; decide), fun b2 hb2 => ?_⟩
      have s4 := same_new hb2 (.tup [.ref t, .int (p2 : Nat)])
      exact q1 (wAll u) r (by rw [eu]; rfl) b2 (.ref t) p2 _ (s2.trans (s3.trans s4)) upd_same (.node (.cons (hv.mono (tk_of (s3.trans s4))) .nil) (.plain rfl (s4.at upd_same) rfl)) a2
    · exact ⟨_, rfl, rfl, _, rfl, iteT (q2 (by rw [eu]; rfl) H2 s2)⟩
  rw [decide_eq_false h42]
  have eF : pForm g d l = pNode (pTerm g) 91 93 wRel l := by cases d <;> rw [pForm, if_neg h33, if_neg h42, if_neg h40]
  rw [eF] at q1 q2
  refine iteF ⟨_, rfl, _, rfl, T, _, p, l, isLet, rfl, ok, hl, (fun c hc => let_in ⟨c, hc⟩), ?_⟩
  have hw := tw_at isLet hl
  have eP := pmI p (l.takeWhile isLet).length
  have nbad : nmOk (l.takeWhile isLet) = false → Q .non H := fun z => q2 (by
    unfold pNode pName
    rw [if_neg (by rw [z]; decide)]
    rfl) H (Same.refl H)
  refine ⟨_, rfl, _, rfl, _, _, rfl, rfl, _, _, rfl, rfl, _, rfl, ite2 (fun c1 => ?_) (fun c1 => ?_)⟩
  · refine ⟨_, _, rfl, rfl, _, rfl, ite2 (fun c2 => iteT (nbad (nm_long eP c2))) (fun c2 => ?_)⟩
    have nok := nm_good eP (of_decide_eq_true c1) c2
    have en : pName l = some (tS (l.takeWhile isLet), l.dropWhile isLet) := by unfold pName; rw [if_pos nok]
    have ox : opn (l.dropWhile isLet) ≤ opn l := opn_suf (name_nar en).1
    unfold pNode at q1 q2
    rw [en] at q1 q2
    refine ⟨_, rfl, _, rfl, _, rfl, _, rfl, _, _, rfl, rfl, _, rfl, T, rfl, sz, rfl, _, rfl, ?_⟩
    rw [slice1 hw.go, head_dec (c := 91) (x := "[") rfl]
    by_cases h91 : (l.dropWhile isLet).head? = some 91
    · rw [decide_eq_true h91]
      have ot := opn_suf (List.tail_suffix (l.dropWhile isLet))
      have a2 := hw.go.tail h91
      have eN : ((some (tS (l.takeWhile isLet), l.dropWhile isLet)).bind fun x => if x.2.head? = some 91 then (pRow (pTerm g) 93 x.2.tail).map fun y => (wRel x.1 y.1, y.2) else none) = (pRow (pTerm g) 93 (l.dropWhile isLet).tail).map fun y => (wRel (tS (l.takeWhile isLet)) y.1, y.2) := by
        show (if (l.dropWhile isLet).head? = some 91 then _ else none) = _
        rw [if_pos h91]
      rw [eN] at q1 q2
      refine iteF ⟨_, rfl, _, rfl, _, _, rfl, rfl, T, _, 93, _, rfl, (by decide), ok, a2, Nat.le_trans ot (Nat.le_trans ox hog), fun y ey b t xs p3 H3 s3 hb ht hws a3 => ?_, fun ey H3 s3 => ?_⟩
      · refine ⟨_, rfl, rfl, _, rfl, ?_⟩
        rw [show decide (V.ref b = V.non) = false from decide_eq_false fun z => by cases z]
        refine iteF ⟨_, rfl, _, rfl, _, rfl, _, rfl, _, rfl, T, rfl, sz, ?_⟩
        rw [sliceN hw]
        refine ⟨_, rfl, b, _, _, _, rfl, rfl, SqT.of hb, at0, (by show 3 ≤ sizeLine; decide), fun t2 ht2 => ?_⟩
        have s4 := same_new ht2 (.tup [.str "rel", .str (tS (l.takeWhile isLet)), .ref t])
        refine ⟨_, rfl, b, _, _, _, rfl, rfl, SqT.of (s4.at hb), at1, (by show 2 ≤ sizeLine; decide), fun b2 hb2 => ?_⟩
        have s5 := same_new hb2 (.tup [.ref t2, .int (p3 : Nat)])
        exact q1 (wRel (tS (l.takeWhile isLet)) y.1) y.2 (by rw [ey]; rfl) b2 (.ref t2) p3 _ (s3.trans (s4.trans s5)) upd_same (.node (hws.mono (tk_of (s4.trans s5))) (.named t rfl (s5.at upd_same) ((s4.trans s5).at ht))) a3
      · exact ⟨_, rfl, rfl, _, rfl, iteT (q2 (by rw [ey]; rfl) H3 s3)⟩
    · rw [decide_eq_false h91]
      refine iteT (q2 ?_ H (Same.refl H))
      show (if (l.dropWhile isLet).head? = some 91 then _ else none) = none
      rw [if_neg h91]
  · exact ⟨_, rfl, iteT (iteT (nbad (nm_nil eP (of_decide_eq_false (Bool.eq_false_iff.mpr c1)))))⟩
theorem ok_law_forms_at {g k : Nat} (Df : Def K mg "_law_form_at" s_law_form_at ["text", "at"]) (Dp : Def K mg "_law_two_at" s_law_two_at ["text", "at"]) (B : Blt mg) (hk : 1 ≤ k) (G_law_run : Ok P w K mg base "_law_run" ["text", "at", "signs"] 1 spLRun) (G_law_term_at : Ok P w K mg base "_law_term_at" ["text", "at"] k (spTermAt g))
    (G_law_parts_at : Ok P w K mg base "_law_parts_at" ["text", "at", "end"] (k + 1) (spPartsAt g)) : ∀ d : Nat, Ok P w K mg base "_law_form_at" ["text", "at"] (2 * d + k + 2) (spFormAt g d)
  | 0 => by
    exact (ok_law_form_at (k := k + 1) (d := 0) Df B (Nat.le_succ_of_le hk) G_law_run G_law_parts_at (.inl ⟨rfl, rfl, rfl⟩) (Df.void fun _ _ _ _ h => h) (Dp.void fun _ _ _ _ h => h)).mono (up3 (d := 0)).2.2.2
  | d + 1 => by
    have ih := ok_law_forms_at Df Dp B hk G_law_run G_law_term_at G_law_parts_at d
    have p := ok_law_two_at (k := 2 * d + k + 2) Dp B (G_law_term_at.mono up3.2.1) ih
    exact (ok_law_form_at (k := 2 * d + k + 3) Df B (Nat.le_trans hk (Nat.le_of_succ_le up3.2.2.1)) G_law_run (G_law_parts_at.mono up3.2.2.1) (.inr ⟨d, rfl, rfl, rfl⟩) (ih.mono (Nat.le_succ _)) p).mono up3.1
abbrev oddA0 : List V := [.str "", .str " ", .str "a", .str "a[", .str "a]", .str "a[]", .str "a[#0]", .str "a[#00]", .str "a[#01]", .str "a[#999]", .str "a[#1000]", .str "a[#]", .str "a[# 1]"]
abbrev oddA1 : List V := [.str "abcdefghijkl[]", .str "abcdefghijklm[]", .str "a[#1 #2 #3]", .str "a[#1 #2 #3 #4]", .str "a[#1  #2]", .str "a[ #1]"]
abbrev oddA2 : List V := [.str "a[#1 ]", .str "A[]", .str "a1[]", .str "a b[]", .str "!!", .str "! ", .str " !", .str "*", .str "**!", .str "*a", .str "(! > !)", .str "(!>!)", .str "(! > !"]
abbrev oddA3 : List V := [.str "! > !", .str "(!)", .str "(#1 = #2)", .str "(#1 > #2)", .str "(! = !)", .str "(a() = b(#1 #2))", .str "(a[] = b())"]
abbrev oddA4 : List V := [.str "(a() = b[])", .str "a()", .str "a[b]", .str "a[b()]", .str "a[f(g(#0))]", .str "a[f(g(#0)]", .str "(f(#1 g(#2 h())) = #3)"]
abbrev oddA5 : List V := [.str "a[b(#1 #2 #3 #4)]", .str "(b(#1 #2 #3 #4) = c())", .str "a[b(#1 #2 #3)]", .str "a[#0 #1]", .str "a[#1_0]", .str "a[#+1]"]
theorem odd_ok0 : oddA0.all okV = true := by decide +kernel
theorem odd_ok1 : oddA1.all okV = true := by decide +kernel
theorem odd_ok2 : oddA2.all okV = true := by decide +kernel
theorem odd_ok3 : oddA3.all okV = true := by decide +kernel
theorem odd_ok4 : oddA4.all okV = true := by decide +kernel
theorem odd_ok5 : oddA5.all okV = true := by decide +kernel
theorem odd_all : (((((oddA0 ++ oddA1) ++ oddA2) ++ oddA3) ++ oddA4) ++ oddA5).all okV = true := by rw [List.all_append, List.all_append, List.all_append, List.all_append, List.all_append, odd_ok0, odd_ok1, odd_ok2, odd_ok3, odd_ok4, odd_ok5]; rfl
theorem ok_law_odd (D : Def K mg "_law_odd" s_law_odd ["cell"]) (B : Blt mg) : Ok P w K mg base "_law_odd" ["cell"] 1 spOdd := by
  refine D.ok sc_law_odd (fun vs H Q E h => ?_) (fun f cdv A outer s H vs Q E hr h => ?_)
  · obtain ⟨c, rfl, _⟩ := h
    rfl
  obtain ⟨c, rfl, q⟩ := h
  refine ⟨tSeq (tAsg (tLst (tCs ["", " ", "a", "a[", "a]", "a[]", "a[#0]", "a[#00]", "a[#01]", "a[#999]", "a[#1000]", "a[#]", "a[# 1]"])) (gName 1)) (tSeq (tAsg (tOp rCat (tVar 1) (tLst (tCs ["abcdefghijkl[]", "abcdefghijklm[]", "a[#1 #2 #3]", "a[#1 #2 #3 #4]", "a[#1  #2]", "a[ #1]"]))) (gName 1)) (tSeq (tAsg (tOp rCat (tVar 1) (tLst (tCs ["a[#1 ]", "A[]", "a1[]", "a b[]", "!!", "! ", " !", "*", "**!", "*a", "(! > !)", "(!>!)", "(! > !"]))) (gName 1)) (tSeq (tAsg (tOp rCat (tVar 1) (tLst (tCs ["! > !", "(!)", "(#1 = #2)", "(#1 > #2)", "(! = !)", "(a() = b(#1 #2))", "(a[] = b())"]))) (gName 1)) (tSeq (tAsg (tOp rCat (tVar 1) (tLst (tCs ["(a() = b[])", "a()", "a[b]", "a[b()]", "a[f(g(#0))]", "a[f(g(#0)]", "(f(#1 g(#2 h())) = #3)"]))) (gName 1)) (tSeq (tAsg (tOp rCat (tVar 1) (tLst (tCs ["a[b(#1 #2 #3 #4)]", "(b(#1 #2 #3 #4) = c())", "a[b(#1 #2 #3)]", "a[#0 #1]", "a[#1_0]", "a[#+1]"]))) (gName 1)) (tRet (tOp (rIxL K) (tVar 1) (tOp (rI (fun _ j => 0 < j) fun i j => .int (i % j)) (tVar 0) (tCB (fun xs H Q => ∃ p ys, xs = [.ref p] ∧ (SqL K H p ys ∨ SqT K H p ys) ∧ Q (.int ys.length) H) (tCons (tVar 1) tNil)))))))))), ?h, ?_⟩
  case h =>
    refine pss_cons ?_ ?_
    · refine ps_set (i := 1) ?_ ?_ ?_ ?_ ?_ ?_
      · exact sc_law_odd.nd
      · rfl
      · exact Or.inl rfl
      · refine pe_lst ?_
        refine pa_cstrs ?_
        rfl
      · rfl
      · exact .inr rfl
    refine pss_cons ?_ ?_
    · refine ps_set (i := 1) ?_ ?_ ?_ ?_ ?_ ?_
      · exact sc_law_odd.nd
      · rfl
      · exact Or.inl rfl
      · refine pe_op op_cat ?_ ?_
        · exact pv 1
        · refine pe_lst ?_
          refine pa_cstrs ?_
          rfl
      · rfl
      · exact .inr rfl
    refine pss_cons ?_ ?_
    · refine ps_set (i := 1) ?_ ?_ ?_ ?_ ?_ ?_
      · exact sc_law_odd.nd
      · rfl
      · exact Or.inl rfl
      · refine pe_op op_cat ?_ ?_
        · exact pv 1
        · refine pe_lst ?_
          refine pa_cstrs ?_
          rfl
      · rfl
      · exact .inr rfl
    refine pss_cons ?_ ?_
    · refine ps_set (i := 1) ?_ ?_ ?_ ?_ ?_ ?_
      · exact sc_law_odd.nd
      · rfl
      · exact Or.inl rfl
      · refine pe_op op_cat ?_ ?_
        · exact pv 1
        · refine pe_lst ?_
          refine pa_cstrs ?_
          rfl
      · rfl
      · exact .inr rfl
    refine pss_cons ?_ ?_
    · refine ps_set (i := 1) ?_ ?_ ?_ ?_ ?_ ?_
      · exact sc_law_odd.nd
      · rfl
      · exact Or.inl rfl
      · refine pe_op op_cat ?_ ?_
        · exact pv 1
        · refine pe_lst ?_
          refine pa_cstrs ?_
          rfl
      · rfl
      · exact .inr rfl
    refine pss_cons ?_ ?_
    · refine ps_set (i := 1) ?_ ?_ ?_ ?_ ?_ ?_
      · exact sc_law_odd.nd
      · rfl
      · exact Or.inl rfl
      · refine pe_op op_cat ?_ ?_
        · exact pv 1
        · refine pe_lst ?_
          refine pa_cstrs ?_
          rfl
      · rfl
      · exact .inr rfl
    exact pss_one (ps_ret (pe_ix ix_list (pv 1) (pe_op op_mod (pv 0) (pe_callB call_len_seq (by rfl) B.len PySem.boot_len (pa_cons (pv 1) pa_nil))) (fun _ _ => rfl)))
  refine ⟨(by show 13 ≤ sizeLine; decide), fun p0 h0 => ?_⟩
  refine ⟨_, rfl, (by show 6 ≤ sizeLine; decide), fun r1 k1 => ⟨p0, r1, oddA0, oddA1, rfl, rfl, (same_new k1 _).at upd_same, upd_same, (by show 13 + 6 ≤ sizeLine; decide), fun p1 h1 => ?_⟩⟩
  refine ⟨_, rfl, (by show 13 ≤ sizeLine; decide), fun r2 k2 => ⟨p1, r2, (oddA0 ++ oddA1), oddA2, rfl, rfl, (same_new k2 _).at upd_same, upd_same, (by show 19 + 13 ≤ sizeLine; decide), fun p2 h2 => ?_⟩⟩
  refine ⟨_, rfl, (by show 7 ≤ sizeLine; decide), fun r3 k3 => ⟨p2, r3, ((oddA0 ++ oddA1) ++ oddA2), oddA3, rfl, rfl, (same_new k3 _).at upd_same, upd_same, (by show 32 + 7 ≤ sizeLine; decide), fun p3 h3 => ?_⟩⟩
  refine ⟨_, rfl, (by show 7 ≤ sizeLine; decide), fun r4 k4 => ⟨p3, r4, (((oddA0 ++ oddA1) ++ oddA2) ++ oddA3), oddA4, rfl, rfl, (same_new k4 _).at upd_same, upd_same, (by show 39 + 7 ≤ sizeLine; decide), fun p4 h4 => ?_⟩⟩
  refine ⟨_, rfl, (by show 6 ≤ sizeLine; decide), fun r5 k5 => ⟨p4, r5, ((((oddA0 ++ oddA1) ++ oddA2) ++ oddA3) ++ oddA4), oddA5, rfl, rfl, (same_new k5 _).at upd_same, upd_same, (by show 46 + 6 ≤ sizeLine; decide), fun p5 h5 => ?_⟩⟩
  obtain ⟨T, e, t1, t2⟩ := odd_pick (K := K) (H := fun _ => some (.lst (((((oddA0 ++ oddA1) ++ oddA2) ++ oddA3) ++ oddA4) ++ oddA5))) (p := 0) (xs := (((((oddA0 ++ oddA1) ++ oddA2) ++ oddA3) ++ oddA4) ++ oddA5)) (SqL.of rfl) (by decide) odd_all c
  exact ⟨_, rfl, _, rfl, _, rfl, p5, (((((oddA0 ++ oddA1) ++ oddA2) ++ oddA3) ++ oddA4) ++ oddA5), rfl, .inl (SqL.of upd_same), _, _, rfl, rfl, (by show (0 : Int) < (((((((oddA0 ++ oddA1) ++ oddA2) ++ oddA3) ++ oddA4) ++ oddA5).length : Nat) : Int); decide), p5, (((((oddA0 ++ oddA1) ++ oddA2) ++ oddA3) ++ oddA4) ++ oddA5), _, _, rfl, rfl, SqL.of upd_same, e, q T _ ((same_new h0 _).trans ((same_new k1 _).trans ((same_new h1 _).trans ((same_new k2 _).trans ((same_new h2 _).trans ((same_new k3 _).trans ((same_new h3 _).trans ((same_new k4 _).trans ((same_new h4 _).trans ((same_new k5 _).trans (same_new h5 _))))))))))) t1 t2⟩
theorem ok_law_sign (D : Def K mg "_law_sign" s_law_sign ["cell"]) : Ok P w K mg base "_law_sign" ["cell"] 1 spSign := by
  refine D.ok sc_law_sign (fun vs H Q E h => ?_) (fun f cdv A outer s H vs Q E hr h => ?_)
  · obtain ⟨c, rfl, _⟩ := h
    rfl
  obtain ⟨c, rfl, q⟩ := h
  refine ⟨_, (pss_cons (ps_if (pt_cmpR op_eq (pe_op op_mod (pv 0) pe_int) pe_int (nomark _)) (pss_one (ps_ret (pe_ix ix_str pe_str (pe_op op_mod (pe_op op_fdiv (pv 0) pe_int) pe_int) (fun _ _ => rfl)))) pss_nil)
    (pss_cons (ps_set (i := 1) sc_law_sign.nd rfl (Or.inl rfl) pe_str)
    (pss_cons (ps_set (i := 1) sc_law_sign.nd rfl (Or.inl rfl) (pe_op op_add_str (pv 1) pe_str))
    (pss_one (ps_ret (pe_ix ix_str (pv 1) (pe_op op_mod (pe_op op_fdiv (pv 0) pe_int) pe_int) (fun _ _ => rfl))))))), ?_⟩
  refine ⟨_, rfl, _, _, rfl, rfl, (by show (0 : Int) < 2; decide), rfl, _, rfl, ite2 (fun _ => ?_) (fun _ => ?_)⟩
  · obtain ⟨d, e1, e2⟩ := sign_pick " ()[]*!#=>a0" (by decide) (by decide +kernel) (c / 2)
    exact ⟨_, rfl, _, _, rfl, rfl, ⟨by decide, by decide⟩, _, _, rfl, rfl, (by show (0 : Int) < 12; decide), _, _, d, rfl, rfl, (by show 12 ≤ sizeLine; decide), e1, q d e2⟩
  · refine ⟨_, rfl, _, _, rfl, rfl, (by show 64 + 30 ≤ sizeLine; decide), ?_⟩
    obtain ⟨d, e1, e2⟩ := sign_pick (" !\"#$&'()*+,-./0123456789:;<=>?@ABCDEFGHIJKLMNOPQRSTUVWXYZ[\\]^_`" ++ "abcdefghijklmnopqrstuvwxyz{|}~") (by decide +kernel) (by decide +kernel) (c / 2)
    exact ⟨_, rfl, _, rfl, _, _, rfl, rfl, ⟨by decide, by decide⟩, _, _, rfl, rfl, (by show (0 : Int) < 94; decide), _, _, d, rfl, rfl, (by show 94 ≤ sizeLine; decide), e1, q d e2⟩
theorem ok_law_refused {k n : Nat} {C_Unfit C_NoSeal C_NoThing C_NoWord C_TooLarge C_HallError : Addr} (D : Def K mg "_law_refused" s_law_refused ["text"]) (B : Blt mg) (E_Unfit : BCls mg "Unfit" C_Unfit) (E_NoSeal : BCls mg "NoSeal" C_NoSeal) (E_NoThing : BCls mg "NoThing" C_NoThing) (E_NoWord : ECls K mg base "NoWord" C_NoWord) (E_TooLarge : BCls mg "TooLarge" C_TooLarge) (E_HallError : BCls mg "HallError" C_HallError)
    (x1 : PySem.W.exmOne K (.ref C_NoWord) (.ref C_HallError) = some true) (k1 : PySem.W.kitOne K (.ref C_NoWord) (.ref C_NoSeal) = some false) (k2 : PySem.W.kitOne K (.ref C_NoWord) (.ref C_NoThing) = some false) (k3 : PySem.W.kitOne K (.ref C_NoWord) (.ref C_TooLarge) = some false) (k4 : PySem.W.kitOne K (.ref C_NoWord) (.ref C_Unfit) = some false)
    (k5 : PySem.W.kitOne K (.ref C_NoWord) (.ref C_NoWord) = some true) (k6 : PySem.W.kitOne K (.ref C_NoWord) (.type "ValueError") = some true) (G_read : OkX P w K mg base "read" ["text"] k (spXRead C_NoWord n)) : Ok P w K mg base "_law_refused" ["text"] (k + 1) (spLRef n) := by
  refine D.ok sc_law_refused (fun vs H Q E h => ?_) (fun f cdv A outer s H vs Q E hr h => ?_)
  · obtain ⟨T, rfl, _⟩ := h
    rfl
  obtain ⟨T, rfl, ok, ho, hn, q⟩ := h
  refine ⟨_, (pss_cut (ps_try ⟨rfl, rfl⟩ rfl (fun pins R => (pss_one (ps_expr (pe_okX G_read rfl hr (by first | exact Nat.le_refl _ | decide | assumption | exact Nat.le_trans (by decide) hk | omega) (by rfl) (pa_cons (pv 0) pa_nil))))) (ph_as (i := 2) sc_law_refused.nd rfl rfl (by rfl) E_HallError.bound (fun ea => (pss_cons (ps_set (i := 1) sc_law_refused.nd rfl (Or.inl rfl) (pe_or (pe_callB (call_isinstX (K := K) rfl) (by rfl) B.isinstance PyProof.Rows.boot_isinstance (pa_cons (pv 2) (pa_cons (pe_cls (by rfl) E_NoSeal.bound) pa_nil))) (pe_or (pe_callB (call_isinstX (K := K) rfl) (by rfl) B.isinstance PyProof.Rows.boot_isinstance (pa_cons (pv 2) (pa_cons (pe_cls (by rfl) E_NoThing.bound) pa_nil))) (pe_or (pe_callB (call_isinstX (K := K) rfl) (by rfl) B.isinstance PyProof.Rows.boot_isinstance (pa_cons (pv 2) (pa_cons (pe_cls (by rfl) E_TooLarge.bound) pa_nil))) (pe_one (pe_callB (call_isinstX (K := K) rfl) (by rfl) B.isinstance PyProof.Rows.boot_isinstance (pa_cons (pv 2) (pa_cons (pe_cls (by rfl) E_Unfit.bound) pa_nil))))))))
    (pss_one (ps_ret (pe_and (pe_callB (call_isinstX (K := K) rfl) (by rfl) B.isinstance PyProof.Rows.boot_isinstance (pa_cons (pv 2) (pa_cons (pe_cls (by rfl) E_NoWord.bound) pa_nil))) (pe_and (pe_callB (call_isinstX (K := K) rfl) (by rfl) B.isinstance PyProof.Rows.boot_isinstance (pa_cons (pv 2) (pa_cons (pe_ty_ValueError B.ValueError (by rfl)) pa_nil))) (pe_one (pe_not (pv 1))))))))) ph_nil))
    (pss_one (ps_ret pe_bl))), ?_⟩
  refine ⟨fun _ _ => False, ?_, fun _ _ z => z.elim⟩
  refine ⟨_, rfl, T, rfl, ok, ho, (fun w ew => by rw [hn] at ew; cases ew), fun _ H1 => ?_⟩
  refine ⟨true, x1, iteT fun ea he => ?_⟩
  refine ⟨_, rfl, ea, _, _, _, _, rfl, upd_same, rfl, E_NoWord.exk, k1, _, rfl, iteF ?_⟩
  refine ⟨_, rfl, ea, _, _, _, _, rfl, upd_same, rfl, E_NoWord.exk, k2, _, rfl, iteF ?_⟩
  refine ⟨_, rfl, ea, _, _, _, _, rfl, upd_same, rfl, E_NoWord.exk, k3, _, rfl, iteF ?_⟩
  refine ⟨_, rfl, ea, _, _, _, _, rfl, upd_same, rfl, E_NoWord.exk, k4, ?_⟩
  refine ⟨_, rfl, ea, _, _, _, _, rfl, upd_same, rfl, E_NoWord.exk, k5, _, rfl, iteT ?_⟩
  refine ⟨_, rfl, ea, _, _, _, _, rfl, upd_same, rfl, E_NoWord.exk, k6, _, rfl, iteT ?_⟩
  exact ⟨_, rfl, _, rfl, q _⟩
theorem lc_law_1 : LcScope "name" [] (defScope s_law) (lcS (stE (stB (stB s_law 2) 0))) := ⟨rfl, by decide +kernel, rfl, by decide +kernel, by decide +kernel, by decide +kernel, by decide +kernel⟩
theorem fn_law {e : Addr} {ed : FuncData} {CN : Addr} (F : Fun K "law" "law" s_law e ed) (B : Blt mg) (G_law_names_by : Ok P w K mg base "_law_names_by" ["cell"] 3 spNames) (G_law_cell_at : Ok P w K mg base "_law_cell_at" ["script", "k"] 1 (spCell K))
    (G_law_next : Ok P w K mg base "_law_next" ["seed"] 1 spNext) (G_law_form_by : Ok P w K mg base "_law_form_by" ["seed", "deep", "names"] 7 (spForm 2)) (G_law_text : Ok P w K mg base "_law_text" ["form"] 11 (spShown 6)) (G_law_sign : Ok P w K mg base "_law_sign" ["cell"] 1 spSign) (G_law_odd : Ok P w K mg base "_law_odd" ["cell"] 1 spOdd)
    (G_law_form_at : Ok P w K mg base "_law_form_at" ["text", "at"] 212 (spFormAt 52 52)) (G_law_refused : Ok P w K mg base "_law_refused" ["text"] 216 (spLRef 52)) (G_read : OkX P w K mg base "read" ["text"] 215 (spXRead CN 52)) (G_law_like : Ok P w K mg base "_law_like" ["found", "due"] 220 (spLike 220)) : FnOk P w K mg base CX0 225 e ed ["script"] (spLawT K []) := by
  refine F.ok sc_law (fun vs H Q E h => ?_) (fun cdv A outer s H vs Q E hr h => ?_)
  · obtain ⟨a, ns, rfl, _⟩ := h
    rfl
  obtain ⟨a, ns, rfl, hS, h63, hTT, q⟩ := h
  refine ⟨_, (pss_cons (ps_set (i := 1) sc_law.nd rfl (Or.inl rfl) (pe_ok G_law_names_by hr (by first | exact Nat.le_refl _ | decide | assumption | exact Nat.le_trans (by decide) hk | omega) rfl (pa_cons (pe_ok G_law_cell_at hr (by first | exact Nat.le_refl _ | decide | assumption | exact Nat.le_trans (by decide) hk | omega) rfl (pa_cons (pv 0) (pa_cons pe_int pa_nil))) pa_nil)))
    (pss_cons (ps_set (i := 2) sc_law.nd rfl (Or.inl rfl) (pe_op op_add pe_int (pe_op op_mod (pe_ok G_law_cell_at hr (by first | exact Nat.le_refl _ | decide | assumption | exact Nat.le_trans (by decide) hk | omega) rfl (pa_cons (pv 0) (pa_cons pe_int pa_nil))) pe_int)))
    (pss_cut (ps_if (pt_cmpR op_eq (pv 2) pe_int (nomark _)) (pss_one (ps_setLC (k := 1) sc_law.nd rfl (Or.inl rfl) rfl rfl lc_law_1 (ix := []) rfl (lcN (N := ["script", "names", "deep", "text", "way", "at", "sign", "due"]) (by decide +kernel)) (pi_list (pv 1)) (fun s₃ H₃ fp pins => (pe_slice sl_str (pv 0) po_none (po_some pe_int))))) pss_nil)
    (pss_cons (ps_set (i := 3) sc_law.nd rfl (Or.inl rfl) (pe_ok G_law_text hr (by first | exact Nat.le_refl _ | decide | assumption | exact Nat.le_trans (by decide) hk | omega) rfl (pa_cons (pe_ok G_law_form_by hr (by first | exact Nat.le_refl _ | decide | assumption | exact Nat.le_trans (by decide) hk | omega) rfl (pa_cons (pe_ok G_law_next hr (by first | exact Nat.le_refl _ | decide | assumption | exact Nat.le_trans (by decide) hk | omega) rfl (pa_cons (pe_ok G_law_cell_at hr (by first | exact Nat.le_refl _ | decide | assumption | exact Nat.le_trans (by decide) hk | omega) rfl (pa_cons (pv 0) (pa_cons pe_int pa_nil))) pa_nil)) (pa_cons (pv 2) (pa_cons (pv 1) pa_nil)))) pa_nil)))
    (pss_cons (ps_set (i := 4) sc_law.nd rfl (Or.inl rfl) (pe_op op_mod (pe_ok G_law_cell_at hr (by first | exact Nat.le_refl _ | decide | assumption | exact Nat.le_trans (by decide) hk | omega) rfl (pa_cons (pv 0) (pa_cons pe_int pa_nil))) pe_int))
    (pss_cons (ps_set (i := 5) sc_law.nd rfl (Or.inl rfl) (pe_op op_mod (pe_ok G_law_cell_at hr (by first | exact Nat.le_refl _ | decide | assumption | exact Nat.le_trans (by decide) hk | omega) rfl (pa_cons (pv 0) (pa_cons pe_int pa_nil))) (pe_callB call_len_str (by rfl) B.len PySem.boot_len (pa_cons (pv 3) pa_nil))))
    (pss_cut (ps_if (pt_cmpR op_gt (pv 4) pe_int (nomark _)) (pss_cons (ps_set (i := 6) sc_law.nd rfl (Or.inl rfl) (pe_ok G_law_sign hr (by first | exact Nat.le_refl _ | decide | assumption | exact Nat.le_trans (by decide) hk | omega) rfl (pa_cons (pe_ok G_law_cell_at hr (by first | exact Nat.le_refl _ | decide | assumption | exact Nat.le_trans (by decide) hk | omega) rfl (pa_cons (pv 0) (pa_cons pe_int pa_nil))) pa_nil)))
    (pss_one (ps_set (i := 3) sc_law.nd rfl (Or.inl rfl) (pe_op op_add_str (pe_op op_add_str (pe_slice sl_str (pv 3) po_none (po_some (pv 5))) (pe_ifExp (pt_cmpR op_gt (pv 4) pe_int (nomark _)) (pv 6) pe_str)) (pe_slice sl_str (pv 3) (po_some (pe_op op_add (pv 5) (pe_callTy call_int1 (by rfl) B.int PyProof.Rows.boot_int (pa_cons (pe_cmpR op_lt (pv 4) pe_int (nomark _)) pa_nil)))) po_none))))) pss_nil)
    (pss_cut (ps_if (pt_cmpR op_eq (pe_op op_mod (pe_ok G_law_cell_at hr (by first | exact Nat.le_refl _ | decide | assumption | exact Nat.le_trans (by decide) hk | omega) rfl (pa_cons (pv 0) (pa_cons pe_int pa_nil))) pe_int) pe_int (nomark _)) (pss_one (ps_set (i := 3) sc_law.nd rfl (Or.inl rfl) (pe_ok G_law_odd hr (by first | exact Nat.le_refl _ | decide | assumption | exact Nat.le_trans (by decide) hk | omega) rfl (pa_cons (pe_op op_fdiv (pe_ok G_law_cell_at hr (by first | exact Nat.le_refl _ | decide | assumption | exact Nat.le_trans (by decide) hk | omega) rfl (pa_cons (pv 0) (pa_cons pe_int pa_nil))) pe_int) pa_nil)))) pss_nil)
    (pss_cons (ps_set (i := 7) sc_law.nd rfl (Or.inl rfl) (pe_ok G_law_form_at hr (by first | exact Nat.le_refl _ | decide | assumption | exact Nat.le_trans (by decide) hk | omega) rfl (pa_cons (pv 3) (pa_cons pe_int pa_nil))))
    (pss_cons (ps_if (PW.pt (pw_or (pt_cmpR op_isN (pv 7) pe_non (nomark _)) (pw_or1 (pt_cmpR op_lt (pe_ix ix_tup (pv 7) pe_int (fun _ _ => rfl)) (pe_callB call_len_str (by rfl) B.len PySem.boot_len (pa_cons (pv 3) pa_nil)) (nomark _))))) (pss_one (ps_ret (pe_ok G_law_refused hr (by first | exact Nat.le_refl _ | decide | assumption | exact Nat.le_trans (by decide) hk | omega) rfl (pa_cons (pv 3) pa_nil)))) pss_nil)
    (pss_one (ps_ret (pe_ok G_law_like hr (by first | exact Nat.le_refl _ | decide | assumption | exact Nat.le_trans (by decide) hk | omega) rfl (pa_cons (pe_ok (OkX.calm G_read) hr (by first | exact Nat.le_refl _ | decide | assumption | exact Nat.le_trans (by decide) hk | omega) rfl (pa_cons (pv 3) pa_nil)) (pa_cons (pe_ix ix_tup (pv 7) pe_int (fun _ _ => rfl)) pa_nil))))))))))))))), ?_⟩
  refine ⟨_, rfl, a, ns, 0, rfl, hS, (by decide), _, rfl, fun l x y z H1 s1 hx hy hz hl => ?_⟩
  refine ⟨_, rfl, a, ns, 7, rfl, s1.seq hS, (by decide), _, _, rfl, rfl, (by show (0 : Int) < 2; decide), _, _, rfl, rfl, ?_⟩
  have d0 := Int.emod_nonneg (cellOf ns 7) (show (2 : Int) ≠ 0 by decide)
  have d1 := Int.emod_lt_of_pos (cellOf ns 7) (show (0 : Int) < 2 by decide)
  obtain ⟨dp, edp, hdp⟩ : ∃ dp : Nat, 1 + cellOf ns 7 % 2 = (dp : Int) ∧ dp ≤ 2 := ⟨(1 + cellOf ns 7 % 2).toNat, by omega, by omega⟩
  refine ⟨fun σ H2 => Same H1 H2 ∧ ∃ l, σ = [some (.ref a), some (.ref l), some (.int (dp : Nat)), none, none, none, none, none] ∧ Nms H2 l, ?_, ?_⟩
  · refine ⟨_, rfl, rfl, _, rfl, ite2 (fun _ => ?_) (fun _ => ?_)⟩
    · refine ⟨_, rfl, l, rfl, ⟨_, SqL.of hl⟩, ?_⟩
      refine lc_list2 (xs := [.str x, .str y, .str z]) (fun i L H2 => H1 L = none ∧ Same H1 H2 ∧ H2 L = some (.lst ((([x, y, z] : List Str).take i).map fun n => V.str (Txt.slice n none (some 4))))) (fun L hL => ⟨hL, same_new hL _, upd_same⟩) (fun i L H2 _ hP => SqL.of (hP.2.1.at hl)) (fun i L v H2 hi hP => ?_) (fun L H2 hP => ?_)
      · obtain ⟨hL, s2, h2⟩ := hP
        have hi' : (([x, y, z] : List Str).map V.str)[i]? = some v := hi
        rw [List.getElem?_map] at hi'
        obtain ⟨u, hu, rfl⟩ := Option.map_eq_some_iff.mp hi'
        have hum := List.mem_of_getElem? hu
        have hn : IsName u := by
          simp only [List.mem_cons, List.not_mem_nil, or_false] at hum
          rcases hum with rfl | rfl | rfl
          · exact hx
          · exact hy
          · exact hz
        have hn2 := hn.2.1
        refine ⟨_, rfl, 4, rfl, u, rfl, big (Nat.le_trans hn2 (by decide)), L, _, _, rfl, rfl, h2, ?_, hL, same_own s2 hL h2 _, ?_⟩
        · rw [sizeLine_eq, List.length_map, List.length_take]
          show min i 3 < _
          omega
        · rw [List.take_succ, hu, Option.toList, List.map_append]
          exact upd_same
      · obtain ⟨hL, s2, h2⟩ := hP
        refine ⟨s2, L, ?_, _, _, _, name_cut hx, name_cut hy, name_cut hz, h2⟩
        show [some (V.ref a), some (V.ref L), some (V.int (1 + cellOf ns 7 % 2)), none, none, none, none, none] = _
        rw [edp]
    · refine ⟨Same.refl _, l, ?_, x, y, z, hx, hy, hz, hl⟩
      show [some (V.ref a), some (V.ref l), some (V.int (1 + cellOf ns 7 % 2)), none, none, none, none, none] = _
      rw [edp]
  clear hl
  rintro σ H2 ⟨s2, l, rfl, hN⟩
  have s12 := s1.trans s2
  refine ⟨_, rfl, a, ns, 1, rfl, s12.seq hS, (by decide), _, rfl, _, rfl, _, rfl, _, dp, l, rfl, hdp, hN, fun v w H3 s3 hv hw => ?_⟩
  have s13 := s12.trans s3
  obtain ⟨low, hlen, hpos, hop, hkn⟩ := form_txt hw hdp
  have hd := hw.dep
  refine ⟨v, w, dp, rfl, hv, hw, Nat.le_trans hd (Nat.add_le_add_right hdp 4), Nat.le_trans hkn (by decide), fun H4 s4 => ?_⟩
  have s14 := s13.trans s4
  have ll := len_tS (sh w)
  have bT : (tS (sh w)).length ≤ sizeLine := big (Nat.le_trans (Nat.le_of_eq ll) (Nat.le_trans hlen (by decide)))
  refine ⟨_, rfl, a, ns, 2, rfl, s14.seq hS, (by decide), _, _, rfl, rfl, (by show (0 : Int) < 4; decide), ?_⟩
  refine ⟨_, rfl, a, ns, 3, rfl, s14.seq hS, (by decide), _, rfl, tS (sh w), rfl, bT, _, _, rfl, rfl, (by omega), ?_⟩
  have a0 := Int.emod_nonneg (cellOf ns 3) (show (((tS (sh w)).length : Nat) : Int) ≠ 0 by omega)
  have a1 := Int.emod_lt_of_pos (cellOf ns 3) (show (0 : Int) < (((tS (sh w)).length : Nat) : Int) by omega)
  obtain ⟨n, en, hn⟩ : ∃ n : Nat, cellOf ns 3 % (((tS (sh w)).length : Nat) : Int) = (n : Int) ∧ n < (sh w).length := ⟨(cellOf ns 3 % (((tS (sh w)).length : Nat) : Int)).toNat, by omega, by omega⟩
  have ok0 : TxOk (tS (sh w)) := ⟨Nat.le_trans (Nat.le_of_eq ll) (Nat.le_trans hlen (by decide)), by rw [cps_tS]; exact low⟩
  have op0 : opn (tS (sh w)).cps.toList ≤ 52 := by rw [cps_tS]; exact Nat.le_succ_of_le hop
  refine ⟨fun σ H5 => Same H4 H5 ∧ ∃ T o, σ = [some (.ref a), some (.ref l), some (.int (dp : Nat)), some (.str T), some (.int (cellOf ns 2 % 4)), some (.int (cellOf ns 3 % (((tS (sh w)).length : Nat) : Int))), o, none] ∧ TxOk T ∧ opn T.cps.toList ≤ 52, ?_, ?_⟩
  · refine ⟨_, rfl, _, _, rfl, rfl, _, rfl, ite2 (fun _ => ?_) (fun _ => ?_)⟩
    · refine ⟨_, rfl, a, ns, 4, rfl, s14.seq hS, (by decide), _, rfl, fun d hd128 => ?_⟩
      refine ⟨_, rfl, _, rfl, _, rfl, tS (sh w), rfl, bT, ?_⟩
      have eT : Txt.slice (tS (sh w)) none (some (cellOf ns 3 % (((tS (sh w)).length : Nat) : Int))) = tS ((sh w).take n) := by rw [en, slice_to, cps_tS]
      have eD : Txt.slice (tS (sh w)) (some (cellOf ns 3 % (((tS (sh w)).length : Nat) : Int) + (if decide (cellOf ns 2 % 4 < 3) = true then 1 else 0))) none = tS ((sh w).drop (n + (if decide (cellOf ns 2 % 4 < 3) = true then 1 else 0))) := by
        rw [en]
        by_cases g : decide (cellOf ns 2 % 4 < 3) = true
        · rw [if_pos g, if_pos g, show (n : Int) + 1 = ((n + 1 : Nat) : Int) by omega, slice_from (by omega), cps_tS]
        · rw [if_neg g, if_neg g, show (n : Int) + 0 = ((n : Nat) : Int) by omega, slice_from (by omega), cps_tS]
          rfl
      have tkl : (tS ((sh w).take n)).length ≤ 20000 := by rw [len_tS, List.length_take]; omega
      have drl : (tS ((sh w).drop (n + (if decide (cellOf ns 2 % 4 < 3) = true then 1 else 0)))).length ≤ 20000 := by rw [len_tS, List.length_drop]; omega
      rw [eT]
      refine ⟨_, rfl, _, _, rfl, rfl, _, rfl, ite2 (fun _ => ⟨_, rfl, ?_⟩) (fun _ => ?_)⟩
      · refine ⟨_, _, rfl, rfl, bs2 tkl (Nat.le_trans (Nat.le_of_eq (len_tS [d])) (show 1 ≤ 20000 by decide)), ?_⟩
        refine ⟨_, rfl, _, rfl, _, rfl, _, _, rfl, rfl, .inr ⟨_, rfl, _, _, rfl, rfl, _, rfl, tS (sh w), rfl, bT, ?_⟩⟩
        rw [eD]
        obtain ⟨okT, opT⟩ := chg_ok (sg := [d]) (n := n) (m := n + (if decide (cellOf ns 2 % 4 < 3) = true then 1 else 0)) low (by intro c hc; rw [List.mem_singleton] at hc; rw [hc]; exact hd128) (Nat.le_trans hlen (by decide)) (Nat.le_refl 1) (Nat.le_add_right _ _) hop
        exact ⟨_, _, rfl, rfl, bs3 tkl (Nat.le_trans (Nat.le_of_eq (len_tS [d])) (show 1 ≤ 20000 by decide)) drl, Same.refl _, _, _, rfl, okT, opT⟩
      · refine ⟨_, _, rfl, rfl, bs2 tkl (by decide), ?_⟩
        refine ⟨_, rfl, _, rfl, _, rfl, _, _, rfl, rfl, .inr ⟨_, rfl, _, _, rfl, rfl, _, rfl, tS (sh w), rfl, bT, ?_⟩⟩
        rw [eD]
        obtain ⟨okT, opT⟩ := chg_ok (sg := []) (n := n) (m := n + (if decide (cellOf ns 2 % 4 < 3) = true then 1 else 0)) low (by intro c hc; cases hc) (Nat.le_trans hlen (by decide)) (by decide) (Nat.le_add_right _ _) hop
        exact ⟨_, _, rfl, rfl, bs3 tkl (by decide) drl, Same.refl _, _, _, rfl, okT, opT⟩
    · exact ⟨Same.refl _, _, _, rfl, ok0, op0⟩
  rintro σ H5 ⟨s5, T, o, rfl, okT, opT⟩
  have s15 := s14.trans s5
  refine ⟨fun σ H6 => Same H5 H6 ∧ ∃ T o, σ = [some (.ref a), some (.ref l), some (.int (dp : Nat)), some (.str T), some (.int (cellOf ns 2 % 4)), some (.int (cellOf ns 3 % (((tS (sh w)).length : Nat) : Int))), o, none] ∧ TxOk T ∧ opn T.cps.toList ≤ 52, ?_, ?_⟩
  · refine ⟨_, rfl, a, ns, 5, rfl, s15.seq hS, (by decide), _, _, rfl, rfl, (by show (0 : Int) < 3; decide), rfl, _, rfl, ite2 (fun _ => ?_) (fun _ => ?_)⟩
    · exact ⟨_, rfl, a, ns, 5, rfl, s15.seq hS, (by decide), _, _, rfl, rfl, ⟨by decide, by decide⟩, _, rfl, fun T' H6 s6 h1 h2 => ⟨s6, T', _, rfl, h1, h2⟩⟩
    · exact ⟨Same.refl _, T, o, rfl, okT, opT⟩
  clear okT opT
  rintro σ H6 ⟨s6, T, o, rfl, okT, opT⟩
  have h0 : At T 0 T.cps.toList := ⟨List.drop_zero, Nat.zero_le _⟩
  have lT := okT.1
  refine ⟨_, rfl, T, 0, T.cps.toList, rfl, okT, h0, opT, opT, fun u r eu b v2 p H7 s7 hb hv2 a2 => ?_, fun eu H7 s7 => ?_⟩
  · refine ⟨_, rfl, rfl, _, rfl, ?_⟩
    rw [show decide (V.ref b = V.non) = false from decide_eq_false fun z => by cases z]
    refine iteF ⟨_, rfl, b, _, _, _, rfl, rfl, SqT.of hb, at1, _, rfl, T, rfl, okT.sz, _, _, rfl, rfl, _, rfl, ite2 (fun g => ?_) (fun g => ?_)⟩
    · have g' := of_decide_eq_true g
      have l2 := a2.len
      refine ⟨_, rfl, T, rfl, okT, opT, ?_, q⟩
      unfold pText
      rw [eu]
      show (if r = [] then some u else none) = none
      rw [if_neg]
      intro z
      rw [z, List.length_nil] at l2
      omega
    · have g' := of_decide_eq_false (Bool.eq_false_iff.mpr g)
      have l2 := a2.len
      have er : r = [] := List.eq_nil_of_length_eq_zero (by omega)
      have eP : pText 52 T.cps.toList = some u := by
        unfold pText
        rw [eu]
        show (if r = [] then some u else none) = some u
        rw [if_pos er]
      refine ⟨_, rfl, T, rfl, okT, opT, fun u2 eu2 v3 H8 s8 hv3 => ?_, fun en => by rw [eP] at en; cases en⟩
      rw [eP] at eu2
      cases eu2
      have dd := form_dep 52 52 _ _ _ eu
      obtain ⟨dt, e1, e2, e3⟩ := Rw.like hv3 (hv2.mono (tk_of s8)) (n := 220) (by omega)
      exact ⟨_, rfl, b, _, _, _, rfl, rfl, SqT.of (s8.at hb), at0, v3, v2, dt, rfl, e1, e2, e3, fun H9 s9 => q H9⟩
  · refine ⟨_, rfl, rfl, _, rfl, iteT (iteT ⟨_, rfl, T, rfl, okT, opT, ?_, q⟩)⟩
    unfold pText
    rw [eu]
    rfl
end
end Sh
namespace Sh
open PySem PySem.Spec PyProof.Rows L2
theorem all_mk {l : PySem.W.OpenLaw} {w : World} {K : PySem.W.Frag} {h : Heap} {mg : Str → Option Value} {fa : Addr} {q : Program} (X : K.In h) (G : h.Ns mainGlobals mg) (hfa : mg "law" = some (.ref fa))
    {C_HallError : Addr}
    {C_NoSeal : Addr}
    {C_Unfit : Addr}
    {C_TooLarge : Addr}
    {C_NoThing : Addr}
    {C_NoWord : Addr}
    {nm_NoWord qn_NoWord : Str} {N_NoWord : Addr} {mr_NoWord bs_NoWord sb_NoWord : List Value} {dd_NoWord : Option Addr} {hd_NoWord ab_NoWord : Bool} {sn_NoWord : List Str} {cl_NoWord : Option Bool} {q0_NoWord q1_NoWord q2_NoWord q3_NoWord q5_NoWord : Option Value}
    {C_Reader : Addr}
    {f1 : Addr} {od1 an1 : Option Addr} {sl1 : Array (Option Value)} {oc1 kV1 dc1 pm1 ct1 cd1 : Value}
    {f2 : Addr} {od2 an2 : Option Addr} {sl2 : Array (Option Value)} {oc2 kV2 dc2 pm2 ct2 cd2 : Value}
    {f3 : Addr} {od3 an3 : Option Addr} {sl3 : Array (Option Value)} {oc3 kV3 dc3 pm3 ct3 cd3 : Value}
    {f4 : Addr} {od4 an4 : Option Addr} {sl4 : Array (Option Value)} {oc4 kV4 dc4 pm4 ct4 cd4 : Value}
    {f5 : Addr} {od5 an5 : Option Addr} {sl5 : Array (Option Value)} {oc5 kV5 dc5 pm5 ct5 cd5 : Value}
    {f6 : Addr} {od6 an6 : Option Addr} {sl6 : Array (Option Value)} {oc6 kV6 dc6 pm6 ct6 cd6 : Value}
    {f7 : Addr} {od7 an7 : Option Addr} {sl7 : Array (Option Value)} {oc7 kV7 dc7 pm7 ct7 cd7 : Value}
    {f8 : Addr} {od8 an8 : Option Addr} {sl8 : Array (Option Value)} {oc8 kV8 dc8 pm8 ct8 cd8 : Value}
    {f9 : Addr} {od9 an9 : Option Addr} {sl9 : Array (Option Value)} {oc9 kV9 dc9 pm9 ct9 cd9 : Value}
    {f10 : Addr} {od10 an10 : Option Addr} {sl10 : Array (Option Value)} {oc10 kV10 dc10 pm10 ct10 cd10 : Value}
    {f11 : Addr} {od11 an11 : Option Addr} {sl11 : Array (Option Value)} {oc11 kV11 dc11 pm11 ct11 cd11 : Value}
    {f12 : Addr} {od12 an12 : Option Addr} {sl12 : Array (Option Value)} {oc12 kV12 dc12 pm12 ct12 cd12 : Value}
    {f13 : Addr} {od13 an13 : Option Addr} {sl13 : Array (Option Value)} {oc13 kV13 dc13 pm13 ct13 : Value} {cd13 : Value}
    {f14 : Addr} {od14 an14 : Option Addr} {sl14 : Array (Option Value)} {oc14 kV14 dc14 pm14 ct14 : Value} {cd14 : Value}
    {f15 : Addr} {od15 an15 : Option Addr} {sl15 : Array (Option Value)} {oc15 kV15 dc15 pm15 ct15 : Value} {cd15 : Value}
    {f16 : Addr} {od16 an16 : Option Addr} {sl16 : Array (Option Value)} {oc16 kV16 dc16 pm16 ct16 : Value} {cd16 : Value}
    {f17 : Addr} {od17 an17 : Option Addr} {sl17 : Array (Option Value)} {oc17 kV17 dc17 pm17 ct17 : Value} {cd17 : Value}
    {f18 : Addr} {od18 an18 : Option Addr} {sl18 : Array (Option Value)} {oc18 kV18 dc18 pm18 ct18 : Value} {cd18 : Value}
    {f19 : Addr} {od19 an19 : Option Addr} {sl19 : Array (Option Value)} {oc19 kV19 dc19 pm19 ct19 : Value} {cd19 : Value}
    {f20 : Addr} {od20 an20 : Option Addr} {sl20 : Array (Option Value)} {oc20 kV20 dc20 pm20 ct20 : Value} {cd20 : Value}
    {f21 : Addr} {od21 an21 : Option Addr} {sl21 : Array (Option Value)} {oc21 kV21 dc21 pm21 ct21 : Value} {cd21 : Value}
    {f22 : Addr} {od22 an22 : Option Addr} {sl22 : Array (Option Value)} {oc22 kV22 dc22 pm22 ct22 : Value} {cd22 : Value}
    {f23 : Addr} {od23 an23 : Option Addr} {sl23 : Array (Option Value)} {oc23 kV23 dc23 pm23 ct23 : Value} {cd23 : Value}
    {f24 : Addr} {od24 an24 : Option Addr} {sl24 : Array (Option Value)} {oc24 kV24 dc24 pm24 ct24 : Value} {cd24 : Value}
    {f25 : Addr} {od25 an25 : Option Addr} {sl25 : Array (Option Value)} {oc25 kV25 dc25 pm25 ct25 : Value} {cd25 : Value}
    {f26 : Addr} {od26 an26 : Option Addr} {sl26 : Array (Option Value)} {oc26 kV26 dc26 pm26 ct26 : Value} {cd26 : Value}
    {f27 : Addr} {od27 an27 : Option Addr} {sl27 : Array (Option Value)} {oc27 kV27 dc27 pm27 ct27 : Value} {cd27 : Value}
    {f28 : Addr} {od28 an28 : Option Addr} {sl28 : Array (Option Value)} {oc28 kV28 dc28 pm28 ct28 : Value} {cd28 : Value}
    {f29 : Addr} {od29 an29 : Option Addr} {sl29 : Array (Option Value)} {oc29 kV29 dc29 pm29 ct29 : Value} {cd29 : Value}
    {f30 : Addr} {od30 an30 : Option Addr} {sl30 : Array (Option Value)} {oc30 kV30 dc30 pm30 ct30 : Value} {cd30 : Value}
    {f31 : Addr} {od31 an31 : Option Addr} {sl31 : Array (Option Value)} {oc31 kV31 dc31 pm31 ct31 : Value} {cd31 : Value}
    {f32 : Addr} {od32 an32 : Option Addr} {sl32 : Array (Option Value)} {oc32 kV32 dc32 pm32 ct32 : Value} {cd32 : Value}
    {f33 : Addr} {od33 an33 : Option Addr} {sl33 : Array (Option Value)} {oc33 kV33 dc33 pm33 ct33 : Value} {cd33 : Value}
    {tk_MOST_LETTERS : Tok}
    {tk_MOST_FIGURES : Tok}
    {tk_MOST_PARTS : Tok}
    {tk_LETTERS : Tok}
    {tk_FIGURES : Tok}
    (e_HallError : PySem.W.nsIn K mainGlobals "HallError" = some (some (.ref C_HallError)))
    (e_NoSeal : PySem.W.nsIn K mainGlobals "NoSeal" = some (some (.ref C_NoSeal)))
    (e_Unfit : PySem.W.nsIn K mainGlobals "Unfit" = some (some (.ref C_Unfit)))
    (e_TooLarge : PySem.W.nsIn K mainGlobals "TooLarge" = some (some (.ref C_TooLarge)))
    (e_NoThing : PySem.W.nsIn K mainGlobals "NoThing" = some (some (.ref C_NoThing)))
    (e_NoWord : PySem.W.nsIn K mainGlobals "NoWord" = some (some (.ref C_NoWord))) (x_NoWord : K.lookup C_NoWord = some (excClassObj nm_NoWord qn_NoWord C_NoWord N_NoWord bs_NoWord mr_NoWord hd_NoWord sn_NoWord sb_NoWord ab_NoWord cl_NoWord dd_NoWord q0_NoWord q1_NoWord q2_NoWord q3_NoWord q5_NoWord "ValueError.__new__")) (tl_NoWord : PySem.W.tailIn K veMro mr_NoWord = true) (no_NoWord : PySem.W.nsOkIn K N_NoWord = true) (ni_NoWord : PySem.W.nsIn K N_NoWord "__init__" = some none) (ga_NoWord : PySem.W.findIn K (.ref C_NoWord) "__getattribute__" = some (some (.builtin "BaseException.__getattribute__"))) (gn_NoWord : PySem.W.findIn K (.ref C_NoWord) "__getattr__" = some none) (ca_NoWord : PySem.W.findIn K (.ref C_NoWord) "__class__" = some (some (.builtin "object.__class__"))) (ob_NoWord : PySem.W.mroIn K C_NoWord (.type "object") = some true) (be_NoWord : PySem.W.mroIn K C_NoWord (.type "BaseException") = some true)
    (kit_NoWord_NoSeal : PySem.W.kitOne K (.ref C_NoWord) (.ref C_NoSeal) = some false)
    (kit_NoWord_NoThing : PySem.W.kitOne K (.ref C_NoWord) (.ref C_NoThing) = some false)
    (kit_NoWord_TooLarge : PySem.W.kitOne K (.ref C_NoWord) (.ref C_TooLarge) = some false)
    (kit_NoWord_Unfit : PySem.W.kitOne K (.ref C_NoWord) (.ref C_Unfit) = some false)
    (kit_NoWord_NoWord : PySem.W.kitOne K (.ref C_NoWord) (.ref C_NoWord) = some true)
    (kit_NoWord_ValueError : PySem.W.kitOne K (.ref C_NoWord) (.type "ValueError") = some true)
    (exm_NoWord_HallError : PySem.W.exmOne K (.ref C_NoWord) (.ref C_HallError) = some true)
    (ns_Reader : PySem.W.nsIn K mainGlobals "Reader" = some (some (.ref C_Reader))) (pg_Reader : PySem.W.plainGet K C_Reader Str.empty = true) (hd_Reader : PySem.W.hasDictIn K C_Reader = true) (po_Reader : PySem.W.plainOver K C_Reader = true) (sa_Reader : PySem.W.findIn K (.ref C_Reader) "__setattr__" = some (some (.builtin "object.__setattr__"))) (mk_Reader : PySem.W.makesIn K C_Reader = true) (kc_Reader : PySem.W.keepIn K (.ref C_Reader) = true) (na0_Reader : PySem.W.findIn K (.ref C_Reader) "text" = some none) (na1_Reader : PySem.W.findIn K (.ref C_Reader) "place" = some none)
    (a1 : PySem.W.findIn K (.ref C_Reader) "__init__" = some (some (.ref f1))) (i1 : PySem.W.isFn K (.ref f1) = true) (l1 : K.lookup f1 = some ⟨oc1, od1, .func (PySem.W.fnOf "__init__" "Reader.__init__" (defArgs s_Reader___init__) (defBody s_Reader___init__) (defScope s_Reader___init__) .none kV1 dc1 pm1 an1 cd1 ct1), sl1⟩) (c_1 : PySem.W.codeIn K cd1 "Reader.__init__" = true) (k1 : PySem.W.keepIn K (.ref f1) = true)
    (a2 : PySem.W.findIn K (.ref C_Reader) "ahead" = some (some (.ref f2))) (i2 : PySem.W.isFn K (.ref f2) = true) (l2 : K.lookup f2 = some ⟨oc2, od2, .func (PySem.W.fnOf "ahead" "Reader.ahead" (defArgs s_Reader_ahead) (defBody s_Reader_ahead) (defScope s_Reader_ahead) .none kV2 dc2 pm2 an2 cd2 ct2), sl2⟩) (c_2 : PySem.W.codeIn K cd2 "Reader.ahead" = true) (k2 : PySem.W.keepIn K (.ref f2) = true)
    (a3 : PySem.W.findIn K (.ref C_Reader) "pass_over" = some (some (.ref f3))) (i3 : PySem.W.isFn K (.ref f3) = true) (l3 : K.lookup f3 = some ⟨oc3, od3, .func (PySem.W.fnOf "pass_over" "Reader.pass_over" (defArgs s_Reader_pass_over) (defBody s_Reader_pass_over) (defScope s_Reader_pass_over) .none kV3 dc3 pm3 an3 cd3 ct3), sl3⟩) (c_3 : PySem.W.codeIn K cd3 "Reader.pass_over" = true) (k3 : PySem.W.keepIn K (.ref f3) = true)
    (a4 : PySem.W.findIn K (.ref C_Reader) "end_of_run" = some (some (.ref f4))) (i4 : PySem.W.isFn K (.ref f4) = true) (l4 : K.lookup f4 = some ⟨oc4, od4, .func (PySem.W.fnOf "end_of_run" "Reader.end_of_run" (defArgs s_Reader_end_of_run) (defBody s_Reader_end_of_run) (defScope s_Reader_end_of_run) .none kV4 dc4 pm4 an4 cd4 ct4), sl4⟩) (c_4 : PySem.W.codeIn K cd4 "Reader.end_of_run" = true) (k4 : PySem.W.keepIn K (.ref f4) = true)
    (a5 : PySem.W.findIn K (.ref C_Reader) "read_run" = some (some (.ref f5))) (i5 : PySem.W.isFn K (.ref f5) = true) (l5 : K.lookup f5 = some ⟨oc5, od5, .func (PySem.W.fnOf "read_run" "Reader.read_run" (defArgs s_Reader_read_run) (defBody s_Reader_read_run) (defScope s_Reader_read_run) .none kV5 dc5 pm5 an5 cd5 ct5), sl5⟩) (c_5 : PySem.W.codeIn K cd5 "Reader.read_run" = true) (k5 : PySem.W.keepIn K (.ref f5) = true)
    (a6 : PySem.W.findIn K (.ref C_Reader) "read_name" = some (some (.ref f6))) (i6 : PySem.W.isFn K (.ref f6) = true) (l6 : K.lookup f6 = some ⟨oc6, od6, .func (PySem.W.fnOf "read_name" "Reader.read_name" (defArgs s_Reader_read_name) (defBody s_Reader_read_name) (defScope s_Reader_read_name) .none kV6 dc6 pm6 an6 cd6 ct6), sl6⟩) (c_6 : PySem.W.codeIn K cd6 "Reader.read_name" = true) (k6 : PySem.W.keepIn K (.ref f6) = true)
    (a7 : PySem.W.findIn K (.ref C_Reader) "read_number" = some (some (.ref f7))) (i7 : PySem.W.isFn K (.ref f7) = true) (l7 : K.lookup f7 = some ⟨oc7, od7, .func (PySem.W.fnOf "read_number" "Reader.read_number" (defArgs s_Reader_read_number) (defBody s_Reader_read_number) (defScope s_Reader_read_number) .none kV7 dc7 pm7 an7 cd7 ct7), sl7⟩) (c_7 : PySem.W.codeIn K cd7 "Reader.read_number" = true) (k7 : PySem.W.keepIn K (.ref f7) = true)
    (a8 : PySem.W.findIn K (.ref C_Reader) "read_row" = some (some (.ref f8))) (i8 : PySem.W.isFn K (.ref f8) = true) (l8 : K.lookup f8 = some ⟨oc8, od8, .func (PySem.W.fnOf "read_row" "Reader.read_row" (defArgs s_Reader_read_row) (defBody s_Reader_read_row) (defScope s_Reader_read_row) .none kV8 dc8 pm8 an8 cd8 ct8), sl8⟩) (c_8 : PySem.W.codeIn K cd8 "Reader.read_row" = true) (k8 : PySem.W.keepIn K (.ref f8) = true)
    (a9 : PySem.W.findIn K (.ref C_Reader) "read_term" = some (some (.ref f9))) (i9 : PySem.W.isFn K (.ref f9) = true) (l9 : K.lookup f9 = some ⟨oc9, od9, .func (PySem.W.fnOf "read_term" "Reader.read_term" (defArgs s_Reader_read_term) (defBody s_Reader_read_term) (defScope s_Reader_read_term) .none kV9 dc9 pm9 an9 cd9 ct9), sl9⟩) (c_9 : PySem.W.codeIn K cd9 "Reader.read_term" = true) (k9 : PySem.W.keepIn K (.ref f9) = true)
    (a10 : PySem.W.findIn K (.ref C_Reader) "read_form" = some (some (.ref f10))) (i10 : PySem.W.isFn K (.ref f10) = true) (l10 : K.lookup f10 = some ⟨oc10, od10, .func (PySem.W.fnOf "read_form" "Reader.read_form" (defArgs s_Reader_read_form) (defBody s_Reader_read_form) (defScope s_Reader_read_form) .none kV10 dc10 pm10 an10 cd10 ct10), sl10⟩) (c_10 : PySem.W.codeIn K cd10 "Reader.read_form" = true) (k10 : PySem.W.keepIn K (.ref f10) = true)
    (a11 : PySem.W.findIn K (.ref C_Reader) "read_pair" = some (some (.ref f11))) (i11 : PySem.W.isFn K (.ref f11) = true) (l11 : K.lookup f11 = some ⟨oc11, od11, .func (PySem.W.fnOf "read_pair" "Reader.read_pair" (defArgs s_Reader_read_pair) (defBody s_Reader_read_pair) (defScope s_Reader_read_pair) .none kV11 dc11 pm11 an11 cd11 ct11), sl11⟩) (c_11 : PySem.W.codeIn K cd11 "Reader.read_pair" = true) (k11 : PySem.W.keepIn K (.ref f11) = true)
    (a12 : PySem.W.findIn K (.ref C_Reader) "term_is_ahead" = some (some (.ref f12))) (i12 : PySem.W.isFn K (.ref f12) = true) (l12 : K.lookup f12 = some ⟨oc12, od12, .func (PySem.W.fnOf "term_is_ahead" "Reader.term_is_ahead" (defArgs s_Reader_term_is_ahead) (defBody s_Reader_term_is_ahead) (defScope s_Reader_term_is_ahead) .none kV12 dc12 pm12 an12 cd12 ct12), sl12⟩) (c_12 : PySem.W.codeIn K cd12 "Reader.term_is_ahead" = true) (k12 : PySem.W.keepIn K (.ref f12) = true)
    (a13 : PySem.W.nsIn K mainGlobals "read" = some (some (.ref f13))) (l13 : K.lookup f13 = some ⟨oc13, od13, .func (PySem.W.fnOf "read" "read" (defArgs s_read) (defBody s_read) (defScope s_read) .none kV13 dc13 pm13 an13 cd13 ct13), sl13⟩) (c_13 : PySem.W.codeIn K cd13 "read" = true) (k13 : PySem.W.keepIn K (.ref f13) = true)
    (a14 : PySem.W.nsIn K mainGlobals "_law_cell_at" = some (some (.ref f14))) (l14 : K.lookup f14 = some ⟨oc14, od14, .func (PySem.W.fnOf "_law_cell_at" "_law_cell_at" (defArgs s_law_cell_at) (defBody s_law_cell_at) (defScope s_law_cell_at) .none kV14 dc14 pm14 an14 cd14 ct14), sl14⟩) (c_14 : PySem.W.codeIn K cd14 "_law_cell_at" = true) (k14 : PySem.W.keepIn K (.ref f14) = true)
    (a15 : PySem.W.nsIn K mainGlobals "_law_next" = some (some (.ref f15))) (l15 : K.lookup f15 = some ⟨oc15, od15, .func (PySem.W.fnOf "_law_next" "_law_next" (defArgs s_law_next) (defBody s_law_next) (defScope s_law_next) .none kV15 dc15 pm15 an15 cd15 ct15), sl15⟩) (c_15 : PySem.W.codeIn K cd15 "_law_next" = true) (k15 : PySem.W.keepIn K (.ref f15) = true)
    (a16 : PySem.W.nsIn K mainGlobals "_law_part" = some (some (.ref f16))) (l16 : K.lookup f16 = some ⟨oc16, od16, .func (PySem.W.fnOf "_law_part" "_law_part" (defArgs s_law_part) (defBody s_law_part) (defScope s_law_part) .none kV16 dc16 pm16 an16 cd16 ct16), sl16⟩) (c_16 : PySem.W.codeIn K cd16 "_law_part" = true) (k16 : PySem.W.keepIn K (.ref f16) = true)
    (a17 : PySem.W.nsIn K mainGlobals "_law_name_by" = some (some (.ref f17))) (l17 : K.lookup f17 = some ⟨oc17, od17, .func (PySem.W.fnOf "_law_name_by" "_law_name_by" (defArgs s_law_name_by) (defBody s_law_name_by) (defScope s_law_name_by) .none kV17 dc17 pm17 an17 cd17 ct17), sl17⟩) (c_17 : PySem.W.codeIn K cd17 "_law_name_by" = true) (k17 : PySem.W.keepIn K (.ref f17) = true)
    (a18 : PySem.W.nsIn K mainGlobals "_law_names_by" = some (some (.ref f18))) (l18 : K.lookup f18 = some ⟨oc18, od18, .func (PySem.W.fnOf "_law_names_by" "_law_names_by" (defArgs s_law_names_by) (defBody s_law_names_by) (defScope s_law_names_by) .none kV18 dc18 pm18 an18 cd18 ct18), sl18⟩) (c_18 : PySem.W.codeIn K cd18 "_law_names_by" = true) (k18 : PySem.W.keepIn K (.ref f18) = true)
    (a19 : PySem.W.nsIn K mainGlobals "_law_var_by" = some (some (.ref f19))) (l19 : K.lookup f19 = some ⟨oc19, od19, .func (PySem.W.fnOf "_law_var_by" "_law_var_by" (defArgs s_law_var_by) (defBody s_law_var_by) (defScope s_law_var_by) .none kV19 dc19 pm19 an19 cd19 ct19), sl19⟩) (c_19 : PySem.W.codeIn K cd19 "_law_var_by" = true) (k19 : PySem.W.keepIn K (.ref f19) = true)
    (a20 : PySem.W.nsIn K mainGlobals "_law_term_by" = some (some (.ref f20))) (l20 : K.lookup f20 = some ⟨oc20, od20, .func (PySem.W.fnOf "_law_term_by" "_law_term_by" (defArgs s_law_term_by) (defBody s_law_term_by) (defScope s_law_term_by) .none kV20 dc20 pm20 an20 cd20 ct20), sl20⟩) (c_20 : PySem.W.codeIn K cd20 "_law_term_by" = true) (k20 : PySem.W.keepIn K (.ref f20) = true)
    (a21 : PySem.W.nsIn K mainGlobals "_law_form_by" = some (some (.ref f21))) (l21 : K.lookup f21 = some ⟨oc21, od21, .func (PySem.W.fnOf "_law_form_by" "_law_form_by" (defArgs s_law_form_by) (defBody s_law_form_by) (defScope s_law_form_by) .none kV21 dc21 pm21 an21 cd21 ct21), sl21⟩) (c_21 : PySem.W.codeIn K cd21 "_law_form_by" = true) (k21 : PySem.W.keepIn K (.ref f21) = true)
    (a22 : PySem.W.nsIn K mainGlobals "_law_like" = some (some (.ref f22))) (l22 : K.lookup f22 = some ⟨oc22, od22, .func (PySem.W.fnOf "_law_like" "_law_like" (defArgs s_law_like) (defBody s_law_like) (defScope s_law_like) .none kV22 dc22 pm22 an22 cd22 ct22), sl22⟩) (c_22 : PySem.W.codeIn K cd22 "_law_like" = true) (k22 : PySem.W.keepIn K (.ref f22) = true)
    (a23 : PySem.W.nsIn K mainGlobals "_law_term_text" = some (some (.ref f23))) (l23 : K.lookup f23 = some ⟨oc23, od23, .func (PySem.W.fnOf "_law_term_text" "_law_term_text" (defArgs s_law_term_text) (defBody s_law_term_text) (defScope s_law_term_text) .none kV23 dc23 pm23 an23 cd23 ct23), sl23⟩) (c_23 : PySem.W.codeIn K cd23 "_law_term_text" = true) (k23 : PySem.W.keepIn K (.ref f23) = true)
    (a24 : PySem.W.nsIn K mainGlobals "_law_text" = some (some (.ref f24))) (l24 : K.lookup f24 = some ⟨oc24, od24, .func (PySem.W.fnOf "_law_text" "_law_text" (defArgs s_law_text) (defBody s_law_text) (defScope s_law_text) .none kV24 dc24 pm24 an24 cd24 ct24), sl24⟩) (c_24 : PySem.W.codeIn K cd24 "_law_text" = true) (k24 : PySem.W.keepIn K (.ref f24) = true)
    (a25 : PySem.W.nsIn K mainGlobals "_law_run" = some (some (.ref f25))) (l25 : K.lookup f25 = some ⟨oc25, od25, .func (PySem.W.fnOf "_law_run" "_law_run" (defArgs s_law_run) (defBody s_law_run) (defScope s_law_run) .none kV25 dc25 pm25 an25 cd25 ct25), sl25⟩) (c_25 : PySem.W.codeIn K cd25 "_law_run" = true) (k25 : PySem.W.keepIn K (.ref f25) = true)
    (a26 : PySem.W.nsIn K mainGlobals "_law_parts_at" = some (some (.ref f26))) (l26 : K.lookup f26 = some ⟨oc26, od26, .func (PySem.W.fnOf "_law_parts_at" "_law_parts_at" (defArgs s_law_parts_at) (defBody s_law_parts_at) (defScope s_law_parts_at) .none kV26 dc26 pm26 an26 cd26 ct26), sl26⟩) (c_26 : PySem.W.codeIn K cd26 "_law_parts_at" = true) (k26 : PySem.W.keepIn K (.ref f26) = true)
    (a27 : PySem.W.nsIn K mainGlobals "_law_term_at" = some (some (.ref f27))) (l27 : K.lookup f27 = some ⟨oc27, od27, .func (PySem.W.fnOf "_law_term_at" "_law_term_at" (defArgs s_law_term_at) (defBody s_law_term_at) (defScope s_law_term_at) .none kV27 dc27 pm27 an27 cd27 ct27), sl27⟩) (c_27 : PySem.W.codeIn K cd27 "_law_term_at" = true) (k27 : PySem.W.keepIn K (.ref f27) = true)
    (a28 : PySem.W.nsIn K mainGlobals "_law_two_at" = some (some (.ref f28))) (l28 : K.lookup f28 = some ⟨oc28, od28, .func (PySem.W.fnOf "_law_two_at" "_law_two_at" (defArgs s_law_two_at) (defBody s_law_two_at) (defScope s_law_two_at) .none kV28 dc28 pm28 an28 cd28 ct28), sl28⟩) (c_28 : PySem.W.codeIn K cd28 "_law_two_at" = true) (k28 : PySem.W.keepIn K (.ref f28) = true)
    (a29 : PySem.W.nsIn K mainGlobals "_law_form_at" = some (some (.ref f29))) (l29 : K.lookup f29 = some ⟨oc29, od29, .func (PySem.W.fnOf "_law_form_at" "_law_form_at" (defArgs s_law_form_at) (defBody s_law_form_at) (defScope s_law_form_at) .none kV29 dc29 pm29 an29 cd29 ct29), sl29⟩) (c_29 : PySem.W.codeIn K cd29 "_law_form_at" = true) (k29 : PySem.W.keepIn K (.ref f29) = true)
    (a30 : PySem.W.nsIn K mainGlobals "_law_odd" = some (some (.ref f30))) (l30 : K.lookup f30 = some ⟨oc30, od30, .func (PySem.W.fnOf "_law_odd" "_law_odd" (defArgs s_law_odd) (defBody s_law_odd) (defScope s_law_odd) .none kV30 dc30 pm30 an30 cd30 ct30), sl30⟩) (c_30 : PySem.W.codeIn K cd30 "_law_odd" = true) (k30 : PySem.W.keepIn K (.ref f30) = true)
    (a31 : PySem.W.nsIn K mainGlobals "_law_sign" = some (some (.ref f31))) (l31 : K.lookup f31 = some ⟨oc31, od31, .func (PySem.W.fnOf "_law_sign" "_law_sign" (defArgs s_law_sign) (defBody s_law_sign) (defScope s_law_sign) .none kV31 dc31 pm31 an31 cd31 ct31), sl31⟩) (c_31 : PySem.W.codeIn K cd31 "_law_sign" = true) (k31 : PySem.W.keepIn K (.ref f31) = true)
    (a32 : PySem.W.nsIn K mainGlobals "_law_refused" = some (some (.ref f32))) (l32 : K.lookup f32 = some ⟨oc32, od32, .func (PySem.W.fnOf "_law_refused" "_law_refused" (defArgs s_law_refused) (defBody s_law_refused) (defScope s_law_refused) .none kV32 dc32 pm32 an32 cd32 ct32), sl32⟩) (c_32 : PySem.W.codeIn K cd32 "_law_refused" = true) (k32 : PySem.W.keepIn K (.ref f32) = true)
    (a33 : PySem.W.nsIn K mainGlobals "law" = some (some (.ref f33))) (l33 : K.lookup f33 = some ⟨oc33, od33, .func (PySem.W.fnOf "law" "law" (defArgs s_law) (defBody s_law) (defScope s_law) .none kV33 dc33 pm33 an33 cd33 ct33), sl33⟩) (c_33 : PySem.W.codeIn K cd33 "law" = true) (k33 : PySem.W.keepIn K (.ref f33) = true)
    (g_MOST_LETTERS : PySem.W.nsIn K mainGlobals "MOST_LETTERS" = some (some (.int 12 tk_MOST_LETTERS)))
    (g_MOST_FIGURES : PySem.W.nsIn K mainGlobals "MOST_FIGURES" = some (some (.int 3 tk_MOST_FIGURES)))
    (g_MOST_PARTS : PySem.W.nsIn K mainGlobals "MOST_PARTS" = some (some (.int 3 tk_MOST_PARTS)))
    (g_LETTERS : PySem.W.nsIn K mainGlobals "LETTERS" = some (some (.str "abcdefghijklmnopqrstuvwxyz" tk_LETTERS)))
    (g_FIGURES : PySem.W.nsIn K mainGlobals "FIGURES" = some (some (.str "0123456789" tk_FIGURES)))
    (z0 : PySem.W.nsIn K mainGlobals "len" = some none) (z1 : PySem.W.nsIn K mainGlobals "range" = some none) (z2 : PySem.W.nsIn K mainGlobals "int" = some none) (z3 : PySem.W.nsIn K mainGlobals "bool" = some none) (z4 : PySem.W.nsIn K mainGlobals "str" = some none) (z5 : PySem.W.nsIn K mainGlobals "tuple" = some none) (z6 : PySem.W.nsIn K mainGlobals "isinstance" = some none) (z7 : PySem.W.nsIn K mainGlobals "zip" = some none) (z8 : PySem.W.nsIn K mainGlobals "list" = some none) (z9 : PySem.W.nsIn K mainGlobals "sorted" = some none) (z10 : PySem.W.nsIn K mainGlobals "max" = some none) (z11 : PySem.W.nsIn K mainGlobals "min" = some none) (z12 : PySem.W.nsIn K mainGlobals "ord" = some none) (z13 : PySem.W.nsIn K mainGlobals "enumerate" = some none) (z14 : PySem.W.nsIn K mainGlobals "dict" = some none) (z15 : PySem.W.nsIn K mainGlobals "sum" = some none) (z16 : PySem.W.nsIn K mainGlobals "ValueError" = some none) :
    ∃ (fd : FuncData) (tabs : List (Addr × Addr)) (sp : Sp), tabs = [] ∧ (∀ (s : Shared) (v : Value), BindsTo s fd ⟨[v], []⟩ [("script", v)]) ∧ (∀ t ∈ tabs, ∃ y r, TabK K y t.1 t.2 ∧ (recsOf q).find? (fun e => e.name == y) = some r) ∧
      (∀ base : Heap, K.In base → base.Ns mainGlobals mg → (∀ t ∈ tabs, Tab base mg t.1 t.2) → FnOk l.prog w K mg base CX0 225 fa fd ["script"] sp) ∧
      ∀ (H : Hp) (a : Addr) (ns : List Int), ns.length ≤ 63 → SqL K H a (ns.map V.int) → (∀ t ∈ tabs, H t.2 = some (.tbl #[])) → sp [.ref a] H (fun v _ => v = .bl true) fun _ _ _ => False := by
  have e := hfa.symm.trans (PySem.W.mg_of X G a33)
  cases e
  have T_Reader : TC K C_Reader ["text", "place"] := ⟨⟨pg_Reader, hd_Reader, po_Reader, sa_Reader⟩, fun f hf => by
    simp only [List.mem_cons, List.not_mem_nil, or_false] at hf
    rcases hf with rfl | rfl
    · exact na0_Reader
    · exact na1_Reader⟩
  have F_Reader___init__ := fun_mk (st := s_Reader___init__) l1 c_1 k1
  have b_Reader___init__ := F_Reader___init__.binds (ps := ["self", "text"]) fun _ _ _ _ _ _ us hl => by
    obtain ⟨_, _, rfl⟩ := ulen2 hl
    rfl
  have mk_Reader_ : Mk K C_Reader f1 := ⟨mk_Reader, a1, i1, kc_Reader⟩
  have F_Reader_ahead := fun_mk (st := s_Reader_ahead) l2 c_2 k2
  have b_Reader_ahead := F_Reader_ahead.binds (ps := ["self"]) fun _ _ _ _ _ _ us hl => by
    obtain ⟨_, rfl⟩ := ulen1 hl
    rfl
  have D_Reader_ahead : MDef K C_Reader "ahead" "Reader.ahead" s_Reader_ahead ["self"] [] := ⟨f2, _, _, _, _, _, _, _, _, _, _, [], l2, c_2, b_Reader_ahead, b_Reader_ahead, .nil, ⟨a2, i2, k2⟩⟩
  have F_Reader_pass_over := fun_mk (st := s_Reader_pass_over) l3 c_3 k3
  have b_Reader_pass_over := F_Reader_pass_over.binds (ps := ["self", "signs"]) fun _ _ _ _ _ _ us hl => by
    obtain ⟨_, _, rfl⟩ := ulen2 hl
    rfl
  have D_Reader_pass_over : MDef K C_Reader "pass_over" "Reader.pass_over" s_Reader_pass_over ["self", "signs"] [] := ⟨f3, _, _, _, _, _, _, _, _, _, _, [], l3, c_3, b_Reader_pass_over, b_Reader_pass_over, .nil, ⟨a3, i3, k3⟩⟩
  have F_Reader_end_of_run := fun_mk (st := s_Reader_end_of_run) l4 c_4 k4
  have b_Reader_end_of_run := F_Reader_end_of_run.binds (ps := ["self", "signs"]) fun _ _ _ _ _ _ us hl => by
    obtain ⟨_, _, rfl⟩ := ulen2 hl
    rfl
  have D_Reader_end_of_run : MDef K C_Reader "end_of_run" "Reader.end_of_run" s_Reader_end_of_run ["self", "signs"] [] := ⟨f4, _, _, _, _, _, _, _, _, _, _, [], l4, c_4, b_Reader_end_of_run, b_Reader_end_of_run, .nil, ⟨a4, i4, k4⟩⟩
  have F_Reader_read_run := fun_mk (st := s_Reader_read_run) l5 c_5 k5
  have b_Reader_read_run := F_Reader_read_run.binds (ps := ["self", "signs"]) fun _ _ _ _ _ _ us hl => by
    obtain ⟨_, _, rfl⟩ := ulen2 hl
    rfl
  have D_Reader_read_run : MDef K C_Reader "read_run" "Reader.read_run" s_Reader_read_run ["self", "signs"] [] := ⟨f5, _, _, _, _, _, _, _, _, _, _, [], l5, c_5, b_Reader_read_run, b_Reader_read_run, .nil, ⟨a5, i5, k5⟩⟩
  have F_Reader_read_name := fun_mk (st := s_Reader_read_name) l6 c_6 k6
  have b_Reader_read_name := F_Reader_read_name.binds (ps := ["self"]) fun _ _ _ _ _ _ us hl => by
    obtain ⟨_, rfl⟩ := ulen1 hl
    rfl
  have D_Reader_read_name : MDef K C_Reader "read_name" "Reader.read_name" s_Reader_read_name ["self"] [] := ⟨f6, _, _, _, _, _, _, _, _, _, _, [], l6, c_6, b_Reader_read_name, b_Reader_read_name, .nil, ⟨a6, i6, k6⟩⟩
  have F_Reader_read_number := fun_mk (st := s_Reader_read_number) l7 c_7 k7
  have b_Reader_read_number := F_Reader_read_number.binds (ps := ["self"]) fun _ _ _ _ _ _ us hl => by
    obtain ⟨_, rfl⟩ := ulen1 hl
    rfl
  have D_Reader_read_number : MDef K C_Reader "read_number" "Reader.read_number" s_Reader_read_number ["self"] [] := ⟨f7, _, _, _, _, _, _, _, _, _, _, [], l7, c_7, b_Reader_read_number, b_Reader_read_number, .nil, ⟨a7, i7, k7⟩⟩
  have F_Reader_read_row := fun_mk (st := s_Reader_read_row) l8 c_8 k8
  have b_Reader_read_row := F_Reader_read_row.binds (ps := ["self", "close"]) fun _ _ _ _ _ _ us hl => by
    obtain ⟨_, _, rfl⟩ := ulen2 hl
    rfl
  have D_Reader_read_row : MDef K C_Reader "read_row" "Reader.read_row" s_Reader_read_row ["self", "close"] [] := ⟨f8, _, _, _, _, _, _, _, _, _, _, [], l8, c_8, b_Reader_read_row, b_Reader_read_row, .nil, ⟨a8, i8, k8⟩⟩
  have F_Reader_read_term := fun_mk (st := s_Reader_read_term) l9 c_9 k9
  have b_Reader_read_term := F_Reader_read_term.binds (ps := ["self"]) fun _ _ _ _ _ _ us hl => by
    obtain ⟨_, rfl⟩ := ulen1 hl
    rfl
  have D_Reader_read_term : MDef K C_Reader "read_term" "Reader.read_term" s_Reader_read_term ["self"] [] := ⟨f9, _, _, _, _, _, _, _, _, _, _, [], l9, c_9, b_Reader_read_term, b_Reader_read_term, .nil, ⟨a9, i9, k9⟩⟩
  have F_Reader_read_form := fun_mk (st := s_Reader_read_form) l10 c_10 k10
  have b_Reader_read_form := F_Reader_read_form.binds (ps := ["self"]) fun _ _ _ _ _ _ us hl => by
    obtain ⟨_, rfl⟩ := ulen1 hl
    rfl
  have D_Reader_read_form : MDef K C_Reader "read_form" "Reader.read_form" s_Reader_read_form ["self"] [] := ⟨f10, _, _, _, _, _, _, _, _, _, _, [], l10, c_10, b_Reader_read_form, b_Reader_read_form, .nil, ⟨a10, i10, k10⟩⟩
  have F_Reader_read_pair := fun_mk (st := s_Reader_read_pair) l11 c_11 k11
  have b_Reader_read_pair := F_Reader_read_pair.binds (ps := ["self"]) fun _ _ _ _ _ _ us hl => by
    obtain ⟨_, rfl⟩ := ulen1 hl
    rfl
  have D_Reader_read_pair : MDef K C_Reader "read_pair" "Reader.read_pair" s_Reader_read_pair ["self"] [] := ⟨f11, _, _, _, _, _, _, _, _, _, _, [], l11, c_11, b_Reader_read_pair, b_Reader_read_pair, .nil, ⟨a11, i11, k11⟩⟩
  have F_Reader_term_is_ahead := fun_mk (st := s_Reader_term_is_ahead) l12 c_12 k12
  have b_Reader_term_is_ahead := F_Reader_term_is_ahead.binds (ps := ["self"]) fun _ _ _ _ _ _ us hl => by
    obtain ⟨_, rfl⟩ := ulen1 hl
    rfl
  have D_Reader_term_is_ahead : MDef K C_Reader "term_is_ahead" "Reader.term_is_ahead" s_Reader_term_is_ahead ["self"] [] := ⟨f12, _, _, _, _, _, _, _, _, _, _, [], l12, c_12, b_Reader_term_is_ahead, b_Reader_term_is_ahead, .nil, ⟨a12, i12, k12⟩⟩
  have F_read := fun_mk (st := s_read) l13 c_13 k13
  have b_read := F_read.binds (ps := ["text"]) fun _ _ _ _ _ _ us hl => by
    obtain ⟨_, rfl⟩ := ulen1 hl
    rfl
  have D_read : Def K mg "read" s_read ["text"] := ⟨_, _, F_read, b_read, PySem.W.mg_of X G a13⟩
  have F_law_cell_at := fun_mk (st := s_law_cell_at) l14 c_14 k14
  have b_law_cell_at := F_law_cell_at.binds (ps := ["script", "k"]) fun _ _ _ _ _ _ us hl => by
    obtain ⟨_, _, rfl⟩ := ulen2 hl
    rfl
  have D_law_cell_at : Def K mg "_law_cell_at" s_law_cell_at ["script", "k"] := ⟨_, _, F_law_cell_at, b_law_cell_at, PySem.W.mg_of X G a14⟩
  have F_law_next := fun_mk (st := s_law_next) l15 c_15 k15
  have b_law_next := F_law_next.binds (ps := ["seed"]) fun _ _ _ _ _ _ us hl => by
    obtain ⟨_, rfl⟩ := ulen1 hl
    rfl
  have D_law_next : Def K mg "_law_next" s_law_next ["seed"] := ⟨_, _, F_law_next, b_law_next, PySem.W.mg_of X G a15⟩
  have F_law_part := fun_mk (st := s_law_part) l16 c_16 k16
  have b_law_part := F_law_part.binds (ps := ["seed", "k"]) fun _ _ _ _ _ _ us hl => by
    obtain ⟨_, _, rfl⟩ := ulen2 hl
    rfl
  have D_law_part : Def K mg "_law_part" s_law_part ["seed", "k"] := ⟨_, _, F_law_part, b_law_part, PySem.W.mg_of X G a16⟩
  have F_law_name_by := fun_mk (st := s_law_name_by) l17 c_17 k17
  have b_law_name_by := F_law_name_by.binds (ps := ["cell"]) fun _ _ _ _ _ _ us hl => by
    obtain ⟨_, rfl⟩ := ulen1 hl
    rfl
  have D_law_name_by : Def K mg "_law_name_by" s_law_name_by ["cell"] := ⟨_, _, F_law_name_by, b_law_name_by, PySem.W.mg_of X G a17⟩
  have F_law_names_by := fun_mk (st := s_law_names_by) l18 c_18 k18
  have b_law_names_by := F_law_names_by.binds (ps := ["cell"]) fun _ _ _ _ _ _ us hl => by
    obtain ⟨_, rfl⟩ := ulen1 hl
    rfl
  have D_law_names_by : Def K mg "_law_names_by" s_law_names_by ["cell"] := ⟨_, _, F_law_names_by, b_law_names_by, PySem.W.mg_of X G a18⟩
  have F_law_var_by := fun_mk (st := s_law_var_by) l19 c_19 k19
  have b_law_var_by := F_law_var_by.binds (ps := ["seed"]) fun _ _ _ _ _ _ us hl => by
    obtain ⟨_, rfl⟩ := ulen1 hl
    rfl
  have D_law_var_by : Def K mg "_law_var_by" s_law_var_by ["seed"] := ⟨_, _, F_law_var_by, b_law_var_by, PySem.W.mg_of X G a19⟩
  have F_law_term_by := fun_mk (st := s_law_term_by) l20 c_20 k20
  have b_law_term_by := F_law_term_by.binds (ps := ["seed", "deep", "names"]) fun _ _ _ _ _ _ us hl => by
    obtain ⟨_, _, _, rfl⟩ := ulen3 hl
    rfl
  have D_law_term_by : Def K mg "_law_term_by" s_law_term_by ["seed", "deep", "names"] := ⟨_, _, F_law_term_by, b_law_term_by, PySem.W.mg_of X G a20⟩
  have F_law_form_by := fun_mk (st := s_law_form_by) l21 c_21 k21
  have b_law_form_by := F_law_form_by.binds (ps := ["seed", "deep", "names"]) fun _ _ _ _ _ _ us hl => by
    obtain ⟨_, _, _, rfl⟩ := ulen3 hl
    rfl
  have D_law_form_by : Def K mg "_law_form_by" s_law_form_by ["seed", "deep", "names"] := ⟨_, _, F_law_form_by, b_law_form_by, PySem.W.mg_of X G a21⟩
  have F_law_like := fun_mk (st := s_law_like) l22 c_22 k22
  have b_law_like := F_law_like.binds (ps := ["found", "due"]) fun _ _ _ _ _ _ us hl => by
    obtain ⟨_, _, rfl⟩ := ulen2 hl
    rfl
  have D_law_like : Def K mg "_law_like" s_law_like ["found", "due"] := ⟨_, _, F_law_like, b_law_like, PySem.W.mg_of X G a22⟩
  have F_law_term_text := fun_mk (st := s_law_term_text) l23 c_23 k23
  have b_law_term_text := F_law_term_text.binds (ps := ["term"]) fun _ _ _ _ _ _ us hl => by
    obtain ⟨_, rfl⟩ := ulen1 hl
    rfl
  have D_law_term_text : Def K mg "_law_term_text" s_law_term_text ["term"] := ⟨_, _, F_law_term_text, b_law_term_text, PySem.W.mg_of X G a23⟩
  have F_law_text := fun_mk (st := s_law_text) l24 c_24 k24
  have b_law_text := F_law_text.binds (ps := ["form"]) fun _ _ _ _ _ _ us hl => by
    obtain ⟨_, rfl⟩ := ulen1 hl
    rfl
  have D_law_text : Def K mg "_law_text" s_law_text ["form"] := ⟨_, _, F_law_text, b_law_text, PySem.W.mg_of X G a24⟩
  have F_law_run := fun_mk (st := s_law_run) l25 c_25 k25
  have b_law_run := F_law_run.binds (ps := ["text", "at", "signs"]) fun _ _ _ _ _ _ us hl => by
    obtain ⟨_, _, _, rfl⟩ := ulen3 hl
    rfl
  have D_law_run : Def K mg "_law_run" s_law_run ["text", "at", "signs"] := ⟨_, _, F_law_run, b_law_run, PySem.W.mg_of X G a25⟩
  have F_law_parts_at := fun_mk (st := s_law_parts_at) l26 c_26 k26
  have b_law_parts_at := F_law_parts_at.binds (ps := ["text", "at", "end"]) fun _ _ _ _ _ _ us hl => by
    obtain ⟨_, _, _, rfl⟩ := ulen3 hl
    rfl
  have D_law_parts_at : Def K mg "_law_parts_at" s_law_parts_at ["text", "at", "end"] := ⟨_, _, F_law_parts_at, b_law_parts_at, PySem.W.mg_of X G a26⟩
  have F_law_term_at := fun_mk (st := s_law_term_at) l27 c_27 k27
  have b_law_term_at := F_law_term_at.binds (ps := ["text", "at"]) fun _ _ _ _ _ _ us hl => by
    obtain ⟨_, _, rfl⟩ := ulen2 hl
    rfl
  have D_law_term_at : Def K mg "_law_term_at" s_law_term_at ["text", "at"] := ⟨_, _, F_law_term_at, b_law_term_at, PySem.W.mg_of X G a27⟩
  have F_law_two_at := fun_mk (st := s_law_two_at) l28 c_28 k28
  have b_law_two_at := F_law_two_at.binds (ps := ["text", "at"]) fun _ _ _ _ _ _ us hl => by
    obtain ⟨_, _, rfl⟩ := ulen2 hl
    rfl
  have D_law_two_at : Def K mg "_law_two_at" s_law_two_at ["text", "at"] := ⟨_, _, F_law_two_at, b_law_two_at, PySem.W.mg_of X G a28⟩
  have F_law_form_at := fun_mk (st := s_law_form_at) l29 c_29 k29
  have b_law_form_at := F_law_form_at.binds (ps := ["text", "at"]) fun _ _ _ _ _ _ us hl => by
    obtain ⟨_, _, rfl⟩ := ulen2 hl
    rfl
  have D_law_form_at : Def K mg "_law_form_at" s_law_form_at ["text", "at"] := ⟨_, _, F_law_form_at, b_law_form_at, PySem.W.mg_of X G a29⟩
  have F_law_odd := fun_mk (st := s_law_odd) l30 c_30 k30
  have b_law_odd := F_law_odd.binds (ps := ["cell"]) fun _ _ _ _ _ _ us hl => by
    obtain ⟨_, rfl⟩ := ulen1 hl
    rfl
  have D_law_odd : Def K mg "_law_odd" s_law_odd ["cell"] := ⟨_, _, F_law_odd, b_law_odd, PySem.W.mg_of X G a30⟩
  have F_law_sign := fun_mk (st := s_law_sign) l31 c_31 k31
  have b_law_sign := F_law_sign.binds (ps := ["cell"]) fun _ _ _ _ _ _ us hl => by
    obtain ⟨_, rfl⟩ := ulen1 hl
    rfl
  have D_law_sign : Def K mg "_law_sign" s_law_sign ["cell"] := ⟨_, _, F_law_sign, b_law_sign, PySem.W.mg_of X G a31⟩
  have F_law_refused := fun_mk (st := s_law_refused) l32 c_32 k32
  have b_law_refused := F_law_refused.binds (ps := ["text"]) fun _ _ _ _ _ _ us hl => by
    obtain ⟨_, rfl⟩ := ulen1 hl
    rfl
  have D_law_refused : Def K mg "_law_refused" s_law_refused ["text"] := ⟨_, _, F_law_refused, b_law_refused, PySem.W.mg_of X G a32⟩
  have F_law := fun_mk (st := s_law) l33 c_33 k33
  have b_law := F_law.binds (ps := ["script"]) fun _ _ _ _ _ _ us hl => by
    obtain ⟨_, rfl⟩ := ulen1 hl
    rfl
  have D_law : Def K mg "law" s_law ["script"] := ⟨_, _, F_law, b_law, PySem.W.mg_of X G a33⟩
  have c_MOST_LETTERS := PySem.W.mg_of X G g_MOST_LETTERS
  have c_MOST_FIGURES := PySem.W.mg_of X G g_MOST_FIGURES
  have c_MOST_PARTS := PySem.W.mg_of X G g_MOST_PARTS
  have c_LETTERS := PySem.W.mg_of X G g_LETTERS
  have c_FIGURES := PySem.W.mg_of X G g_FIGURES
  have B : Blt mg := ⟨PySem.W.mg_none_of X G z0, PySem.W.mg_none_of X G z1, PySem.W.mg_none_of X G z2, PySem.W.mg_none_of X G z3, PySem.W.mg_none_of X G z4, PySem.W.mg_none_of X G z5, PySem.W.mg_none_of X G z6, PySem.W.mg_none_of X G z7, PySem.W.mg_none_of X G z8, PySem.W.mg_none_of X G z9, PySem.W.mg_none_of X G z10, PySem.W.mg_none_of X G z11, PySem.W.mg_none_of X G z12, PySem.W.mg_none_of X G z13, PySem.W.mg_none_of X G z14, PySem.W.mg_none_of X G z15, PySem.W.mg_none_of X G z16⟩
  letI : Inn := ⟨tabAt []⟩

  refine ⟨PySem.W.fnOf "law" "law" (defArgs s_law) (defBody s_law) (defScope s_law) .none kV33 dc33 pm33 an33 cd33 ct33, [], spLawT K [], rfl, fun s v => .of_eq rfl, ?_, fun base KB _ htab => ?_, fun H a ns hl hS hT => ⟨a, ns, rfl, hS, hl, ?_, fun _ => rfl⟩⟩
  · intro t ht
    simp only [List.mem_cons, List.not_mem_nil, or_false] at ht
    all_goals cases ht
  · skip
    have E_HallError : BCls mg "HallError" C_HallError := ⟨PySem.W.mg_of X G e_HallError⟩
    have E_NoSeal : BCls mg "NoSeal" C_NoSeal := ⟨PySem.W.mg_of X G e_NoSeal⟩
    have E_Unfit : BCls mg "Unfit" C_Unfit := ⟨PySem.W.mg_of X G e_Unfit⟩
    have E_TooLarge : BCls mg "TooLarge" C_TooLarge := ⟨PySem.W.mg_of X G e_TooLarge⟩
    have E_NoThing : BCls mg "NoThing" C_NoThing := ⟨PySem.W.mg_of X G e_NoThing⟩
    have E_NoWord : ECls K mg base "NoWord" C_NoWord := ecls_at KB (PySem.W.mg_of X G e_NoWord) x_NoWord tl_NoWord no_NoWord ni_NoWord ga_NoWord gn_NoWord ca_NoWord ob_NoWord be_NoWord
    -- FUEL 225
    have G_init := ok_Reader___init__ (P := l.prog) (w := w) (mg := mg) (base := base) F_Reader___init__ T_Reader
    have G_Reader : MMk l.prog w K mg base "Reader" C_Reader ["self", "text"] 1 (spRInit C_Reader) := ⟨_, _, G_init, b_Reader___init__, mk_Reader_, PySem.W.mg_of X G ns_Reader⟩
    have G_ahead := ok_Reader_ahead (P := l.prog) (w := w) (mg := mg) (base := base) D_Reader_ahead T_Reader
    have G_pass := ok_Reader_pass_over (P := l.prog) (w := w) (base := base) D_Reader_pass_over B T_Reader E_NoWord
    have G_end := ok_Reader_end_of_run (P := l.prog) (w := w) (base := base) D_Reader_end_of_run B T_Reader
    have G_run := ok_Reader_read_run D_Reader_read_run T_Reader G_end
    have G_name := ok_Reader_read_name D_Reader_read_name B c_LETTERS c_MOST_LETTERS T_Reader E_NoWord G_run
    have G_num := ok_Reader_read_number D_Reader_read_number B c_FIGURES c_MOST_FIGURES T_Reader E_NoWord G_run
    have G_tr := ok_Reader_terms D_Reader_read_term D_Reader_read_row B c_MOST_PARTS T_Reader E_NoWord G_ahead G_pass G_num G_name 52
    have G_ita := ok_Reader_term_is_ahead D_Reader_term_is_ahead c_LETTERS T_Reader G_ahead G_end
    have G_form := ok_Reader_forms (k := 108) D_Reader_read_form D_Reader_read_pair T_Reader G_ahead G_pass G_name G_ita (by omega) G_tr.1 G_tr.2 52
    have G_read := ok_read (k := 213) (n := 52) D_read T_Reader E_NoWord (by omega) G_Reader G_ahead G_form
    have G_next := ok_law_next (P := l.prog) (w := w) (base := base) D_law_next
    have G_part := ok_law_part (P := l.prog) (w := w) (base := base) D_law_part
    have G_term := ok_law_term_by D_law_term_by B G_part (ok_law_var_by D_law_var_by) 2
    have G_text := ok_law_text D_law_text B (ok_law_term_text (P := l.prog) (w := w) (base := base) D_law_term_text B 4) 6
    have G_lrun := ok_law_run (P := l.prog) (w := w) (base := base) D_law_run B
    have G_tat := ok_law_terms_at D_law_term_at D_law_parts_at B G_lrun 52
    have G_fat := ok_law_forms_at (k := 106) D_law_form_at D_law_two_at B (by omega) G_lrun G_tat.1 G_tat.2 52
    have G_ref := ok_law_refused D_law_refused B E_Unfit E_NoSeal E_NoThing E_NoWord E_TooLarge E_HallError exm_NoWord_HallError kit_NoWord_NoSeal kit_NoWord_NoThing kit_NoWord_TooLarge kit_NoWord_Unfit kit_NoWord_NoWord kit_NoWord_ValueError G_read
    exact fn_law F_law B (ok_law_names_by D_law_names_by (ok_law_name_by D_law_name_by B G_next)) (ok_law_cell_at D_law_cell_at B) G_next (ok_law_form_by D_law_form_by B G_part G_term 2) G_text (ok_law_sign D_law_sign) (ok_law_odd D_law_odd B) G_fat G_ref G_read (ok_law_like D_law_like B 220)
  · intro T hTm
    simp only [List.mem_cons, List.not_mem_nil, or_false] at hTm
    all_goals cases hTm
end Sh
open PySem PySem.W PySem.W.X PySem.W.ZRun PyProof.Rows
set_option maxRecDepth 100000 in
set_option maxHeartbeats 0 in
theorem PySem.Challenge.cw_surehall_k13_read_holds : PySem.Challenge.rw_surehall_k13_read.Holds := by
  w_on; o_law; z_head; (case hw => w_witness2)
  k_fill
  intro w s₀ s₁ mg mb G y fa o pm cd doc dV kV ho hd hcd hD hmg hg args vals as L hpre hlay hrd hwl hlo
  z_open y L KX ZH ZN ZT
  clear ZH ZN ZT
  refine Sh.walk_Z (l := PySem.Challenge.rw_surehall_k13_read) (k := 225) (x := "script") rfl rfl ⟨rfl, by decide, by decide⟩ ?F w s₀ s₁ mg mb G KX fa o pm cd doc dV kV ho hd hcd hD hmg hg args vals as hpre hlay hrd hwl hlo
  case F =>
    intro w mg fa h KX G hmg
    refine' Sh.all_mk KX G hmg ?e_HallError ?e_NoSeal ?e_Unfit ?e_TooLarge ?e_NoThing ?e_NoWord ?x_NoWord ?tl_NoWord ?no_NoWord ?ni_NoWord ?ga_NoWord ?gn_NoWord ?ca_NoWord ?ob_NoWord ?be_NoWord ?kit_NoWord_NoSeal ?kit_NoWord_NoThing ?kit_NoWord_TooLarge ?kit_NoWord_Unfit ?kit_NoWord_NoWord ?kit_NoWord_ValueError ?exm_NoWord_HallError ?ns_Reader ?pg_Reader ?hd_Reader ?po_Reader ?sa_Reader ?mk_Reader ?kc_Reader ?na0_Reader ?na1_Reader ?a1 ?i1 ?l1 ?c_1 ?k1 ?a2 ?i2 ?l2 ?c_2 ?k2 ?a3 ?i3 ?l3 ?c_3 ?k3 ?a4 ?i4 ?l4 ?c_4 ?k4 ?a5 ?i5 ?l5 ?c_5 ?k5 ?a6 ?i6 ?l6 ?c_6 ?k6 ?a7 ?i7 ?l7 ?c_7 ?k7 ?a8 ?i8 ?l8 ?c_8 ?k8 ?a9 ?i9 ?l9 ?c_9 ?k9 ?a10 ?i10 ?l10 ?c_10 ?k10 ?a11 ?i11 ?l11 ?c_11 ?k11 ?a12 ?i12 ?l12 ?c_12 ?k12 ?a13 ?l13 ?c_13 ?k13 ?a14 ?l14 ?c_14 ?k14 ?a15 ?l15 ?c_15 ?k15 ?a16 ?l16 ?c_16 ?k16 ?a17 ?l17 ?c_17 ?k17 ?a18 ?l18 ?c_18 ?k18 ?a19 ?l19 ?c_19 ?k19 ?a20 ?l20 ?c_20 ?k20 ?a21 ?l21 ?c_21 ?k21 ?a22 ?l22 ?c_22 ?k22 ?a23 ?l23 ?c_23 ?k23 ?a24 ?l24 ?c_24 ?k24 ?a25 ?l25 ?c_25 ?k25 ?a26 ?l26 ?c_26 ?k26 ?a27 ?l27 ?c_27 ?k27 ?a28 ?l28 ?c_28 ?k28 ?a29 ?l29 ?c_29 ?k29 ?a30 ?l30 ?c_30 ?k30 ?a31 ?l31 ?c_31 ?k31 ?a32 ?l32 ?c_32 ?k32 ?a33 ?l33 ?c_33 ?k33 ?g_MOST_LETTERS ?g_MOST_FIGURES ?g_MOST_PARTS ?g_LETTERS ?g_FIGURES ?z0 ?z1 ?z2 ?z3 ?z4 ?z5 ?z6 ?z7 ?z8 ?z9 ?z10 ?z11 ?z12 ?z13 ?z14 ?z15 ?z16
    (case e_HallError => k_is)
    (case e_NoSeal => k_is)
    (case e_Unfit => k_is)
    (case e_TooLarge => k_is)
    (case e_NoThing => k_is)
    (case e_NoWord => k_is)
    (case x_NoWord => k_is)
    (case tl_NoWord => kernel_rfl)
    (case no_NoWord => kernel_rfl)
    (case ni_NoWord => k_is)
    (case ga_NoWord => k_is)
    (case gn_NoWord => k_is)
    (case ca_NoWord => k_is)
    (case ob_NoWord => k_is)
    (case be_NoWord => k_is)
    (case kit_NoWord_NoSeal => first | kernel_rfl | k_is)
    (case kit_NoWord_NoThing => first | kernel_rfl | k_is)
    (case kit_NoWord_TooLarge => first | kernel_rfl | k_is)
    (case kit_NoWord_Unfit => first | kernel_rfl | k_is)
    (case kit_NoWord_NoWord => first | kernel_rfl | k_is)
    (case kit_NoWord_ValueError => first | kernel_rfl | k_is)
    (case exm_NoWord_HallError => first | kernel_rfl | k_is)
    (case ns_Reader => k_is)
    (case pg_Reader => k_is)
    (case hd_Reader => k_is)
    (case po_Reader => k_is)
    (case sa_Reader => k_is)
    (case mk_Reader => k_is)
    (case kc_Reader => k_is)
    (case na0_Reader => k_is)
    (case na1_Reader => k_is)
    (case a1 => k_is)
    (case i1 => k_is)
    (case l1 => k_is)
    (case c_1 => k_is)
    (case k1 => k_is)
    (case a2 => k_is)
    (case i2 => k_is)
    (case l2 => k_is)
    (case c_2 => k_is)
    (case k2 => k_is)
    (case a3 => k_is)
    (case i3 => k_is)
    (case l3 => k_is)
    (case c_3 => k_is)
    (case k3 => k_is)
    (case a4 => k_is)
    (case i4 => k_is)
    (case l4 => k_is)
    (case c_4 => k_is)
    (case k4 => k_is)
    (case a5 => k_is)
    (case i5 => k_is)
    (case l5 => k_is)
    (case c_5 => k_is)
    (case k5 => k_is)
    (case a6 => k_is)
    (case i6 => k_is)
    (case l6 => k_is)
    (case c_6 => k_is)
    (case k6 => k_is)
    (case a7 => k_is)
    (case i7 => k_is)
    (case l7 => k_is)
    (case c_7 => k_is)
    (case k7 => k_is)
    (case a8 => k_is)
    (case i8 => k_is)
    (case l8 => k_is)
    (case c_8 => k_is)
    (case k8 => k_is)
    (case a9 => k_is)
    (case i9 => k_is)
    (case l9 => k_is)
    (case c_9 => k_is)
    (case k9 => k_is)
    (case a10 => k_is)
    (case i10 => k_is)
    (case l10 => k_is)
    (case c_10 => k_is)
    (case k10 => k_is)
    (case a11 => k_is)
    (case i11 => k_is)
    (case l11 => k_is)
    (case c_11 => k_is)
    (case k11 => k_is)
    (case a12 => k_is)
    (case i12 => k_is)
    (case l12 => k_is)
    (case c_12 => k_is)
    (case k12 => k_is)
    (case a13 => k_is)
    (case l13 => k_is)
    (case c_13 => k_is)
    (case k13 => k_is)
    (case a14 => k_is)
    (case l14 => k_is)
    (case c_14 => k_is)
    (case k14 => k_is)
    (case a15 => k_is)
    (case l15 => k_is)
    (case c_15 => k_is)
    (case k15 => k_is)
    (case a16 => k_is)
    (case l16 => k_is)
    (case c_16 => k_is)
    (case k16 => k_is)
    (case a17 => k_is)
    (case l17 => k_is)
    (case c_17 => k_is)
    (case k17 => k_is)
    (case a18 => k_is)
    (case l18 => k_is)
    (case c_18 => k_is)
    (case k18 => k_is)
    (case a19 => k_is)
    (case l19 => k_is)
    (case c_19 => k_is)
    (case k19 => k_is)
    (case a20 => k_is)
    (case l20 => k_is)
    (case c_20 => k_is)
    (case k20 => k_is)
    (case a21 => k_is)
    (case l21 => k_is)
    (case c_21 => k_is)
    (case k21 => k_is)
    (case a22 => k_is)
    (case l22 => k_is)
    (case c_22 => k_is)
    (case k22 => k_is)
    (case a23 => k_is)
    (case l23 => k_is)
    (case c_23 => k_is)
    (case k23 => k_is)
    (case a24 => k_is)
    (case l24 => k_is)
    (case c_24 => k_is)
    (case k24 => k_is)
    (case a25 => k_is)
    (case l25 => k_is)
    (case c_25 => k_is)
    (case k25 => k_is)
    (case a26 => k_is)
    (case l26 => k_is)
    (case c_26 => k_is)
    (case k26 => k_is)
    (case a27 => k_is)
    (case l27 => k_is)
    (case c_27 => k_is)
    (case k27 => k_is)
    (case a28 => k_is)
    (case l28 => k_is)
    (case c_28 => k_is)
    (case k28 => k_is)
    (case a29 => k_is)
    (case l29 => k_is)
    (case c_29 => k_is)
    (case k29 => k_is)
    (case a30 => k_is)
    (case l30 => k_is)
    (case c_30 => k_is)
    (case k30 => k_is)
    (case a31 => k_is)
    (case l31 => k_is)
    (case c_31 => k_is)
    (case k31 => k_is)
    (case a32 => k_is)
    (case l32 => k_is)
    (case c_32 => k_is)
    (case k32 => k_is)
    (case a33 => k_is)
    (case l33 => k_is)
    (case c_33 => k_is)
    (case k33 => k_is)
    (case g_MOST_LETTERS => k_is)
    (case g_MOST_FIGURES => k_is)
    (case g_MOST_PARTS => k_is)
    (case g_LETTERS => k_is)
    (case g_FIGURES => k_is)
    (case z0 => k_is); (case z1 => k_is); (case z2 => k_is); (case z3 => k_is); (case z4 => k_is); (case z5 => k_is); (case z6 => k_is); (case z7 => k_is); (case z8 => k_is); (case z9 => k_is); (case z10 => k_is); (case z11 => k_is); (case z12 => k_is); (case z13 => k_is); (case z14 => k_is); (case z15 => k_is); (case z16 => k_is)
#print axioms PySem.Challenge.cw_surehall_k13_read_holds

