import PyProof.Rows.All
import Wide.All
import OpenK.AllK
import Wide.FinOn
import Lean
import PyProof.EqAt
import PyProof.EqKinds
import PyProof.TupleCall
import PySem.Challenge.RW_sixcells_k09_whole_sight_moved
set_option Elab.async false
set_option linter.all false
set_option maxRecDepth 100000
-- CHANGE: your row's module here, as the last of these rows
/-! THE HAND LAYER, for ints, bools, texts, own classes, LISTS and tuples (index, slices, in, append, pop ..), calls, loops. Paste it whole ahead of your own text; what your proof does not reach may be deleted. -/
namespace L2
open PySem PySem.Spec PyProof.Rows

/-- a key: an int or a str -/
abbrev Key := Sum Int Str
def keyIs : Key → Value → Bool
  | .inl k, v => Value.isInt k v
  | .inr x, v => Value.isStrOf x v
def keyH (w : World) : Key → Int
  | .inl k => hashInt k
  | .inr x => hashStr w x
theorem keyIs_shape : ∀ {k : Key} {v : Value}, keyIs k v = true → (∃ i t, k = Sum.inl i ∧ v = Value.int i t) ∨ (∃ x t, k = Sum.inr x ∧ v = Value.str x t)
  | .inl i, v, h => by
    obtain ⟨t, e⟩ := Value.isInt_shape (k := i) (v := v) h
    exact .inl ⟨i, t, rfl, e⟩
  | .inr x, v, h => by
    obtain ⟨t, e⟩ := Value.isStrOf_shape (x := x) (v := v) h
    exact .inr ⟨x, t, rfl, e⟩
theorem key_ll (a b : Int) : decide ((Sum.inl a : Key) = Sum.inl b) = (a == b) := by
  by_cases e : a = b
  · subst e; simp
  · have h : ¬ (Sum.inl a : Key) = Sum.inl b := fun q => e (Sum.inl.inj q)
    rw [decide_eq_false h]
    exact (beq_eq_false_iff_ne.mpr e).symm
theorem key_rr (a b : Str) : decide ((Sum.inr a : Key) = Sum.inr b) = decide (a = b) := by
  by_cases e : a = b
  · subst e; simp
  · have h : ¬ (Sum.inr a : Key) = Sum.inr b := fun q => e (Sum.inr.inj q)
    rw [decide_eq_false h, decide_eq_false e]
theorem key_lr (a : Int) (b : Str) : decide ((Sum.inl a : Key) = Sum.inr b) = false := decide_eq_false (fun q => nomatch q)
theorem key_rl (a : Str) (b : Int) : decide ((Sum.inr a : Key) = Sum.inl b) = false := decide_eq_false (fun q => nomatch q)

def mixKind (prog : Program) (w : World) : PySem.KeyKind prog w Key where
  is := keyIs
  hash := keyH w
  inj := fun v a b ha hb => by
    rcases keyIs_shape ha with ⟨i, t, rfl, rfl⟩ | ⟨x, t, rfl, rfl⟩
    · rcases keyIs_shape hb with ⟨j, u, rfl, e⟩ | ⟨y, u, rfl, e⟩
      · injection e with e1 _; rw [e1]
      · exact nomatch e
    · rcases keyIs_shape hb with ⟨j, u, rfl, e⟩ | ⟨y, u, rfl, e⟩
      · exact nomatch e
      · injection e with e1 _; rw [e1]
  byValue := fun k v h => by
    rcases keyIs_shape h with ⟨i, t, rfl, rfl⟩ | ⟨x, t, rfl, rfl⟩ <;> rfl
  pyHash := fun hv h => by
    rcases keyIs_shape hv with ⟨i, t, rfl, rfl⟩ | ⟨x, t, rfl, rfl⟩
    · exact wpAny_pyHash_int h
    · exact wpAny_pyHash_str h
  eqBool := fun hu hv h => by
    rcases keyIs_shape hu with ⟨i, t, rfl, rfl⟩ | ⟨x, t, rfl, rfl⟩
    · rcases keyIs_shape hv with ⟨j, u, rfl, rfl⟩ | ⟨y, u, rfl, rfl⟩
      · rw [key_ll] at h; exact wpAny_eqBool_int h
      · rw [key_lr] at h; exact SeqAt.EqAt.int_str i t y u _ _ _ _ h
    · rcases keyIs_shape hv with ⟨j, u, rfl, rfl⟩ | ⟨y, u, rfl, rfl⟩
      · rw [key_rl] at h; exact SeqAt.EqAt.str_int x t j u _ _ _ _ h
      · rw [key_rr] at h; exact wpAny_eqBool_str h
  «strs» := fun k x t v h => by
    rcases keyIs_shape h with ⟨i, u, rfl, e⟩ | ⟨y, u, rfl, e⟩
    · exact nomatch e
    · injection e with e1 _
      subst e1
      cases v <;> rfl

end L2

namespace L2
open PySem PySem.Spec PyProof.Rows

/-- a value, without the heap -/
inductive V where
  | non | bl (b : Bool) | int (i : Int) | str (x : Str) | byt (b : Array UInt8) | flt (b : UInt64) | ref (a : Addr) | ty (n : String)
  deriving DecidableEq

def RelV : V → Value → Prop
  | .non, u => u = Value.none
  | .bl b, u => u = Value.bool b
  | .int i, u => ∃ t, u = Value.int i t
  | .str x, u => ∃ t, u = Value.str x t
  | .byt b, u => ∃ t, u = Value.bytes b t
  | .flt b, u => ∃ t, u = Value.float b t
  | .ref a, u => u = Value.ref a
  | .ty n, u => u = Value.type n

abbrev Vals : List V → List Value → Prop := Paired RelV
theorem Vals.length {xs : List V} {us : List Value} (r : Vals xs us) : xs.length = us.length := Paired.length r
theorem Vals.get : ∀ {xs : List V} {us : List Value} {i : Nat} {x : V}, Vals xs us → xs[i]? = some x → ∃ u, us[i]? = some u ∧ RelV x u
  | _, _, _, _, .nil, e => by simp at e
  | _, _, 0, _, .cons r _, e => by simp at e; subst e; exact ⟨_, rfl, r⟩
  | _, _, i + 1, x, .cons _ t, e => by
    obtain ⟨u, h1, h2⟩ := Vals.get (i := i) (x := x) t (by simpa using e)
    exact ⟨u, by simpa using h1, h2⟩
theorem Vals.set {x : V} {u : Value} (r : RelV x u) : ∀ {xs : List V} {us : List Value} (i : Nat), Vals xs us → Vals (xs.set i x) (us.set i u)
  | _, _, _, .nil => .nil
  | _, _, 0, .cons _ t => .cons r t
  | _, _, i + 1, .cons q t => .cons q (Vals.set r i t)
theorem Vals.append : ∀ {xs ys : List V} {us ws : List Value}, Vals xs us → Vals ys ws → Vals (xs ++ ys) (us ++ ws)
  | _, _, _, _, .nil, s => s
  | _, _, _, _, .cons r t, s => .cons r (Vals.append t s)
theorem Vals.take : ∀ {xs : List V} {us : List Value} (n : Nat), Vals xs us → Vals (xs.take n) (us.take n)
  | _, _, 0, _ => .nil
  | _, _, _ + 1, .nil => .nil
  | _, _, n + 1, .cons r t => .cons r (Vals.take n t)
theorem Vals.drop : ∀ {xs : List V} {us : List Value} (n : Nat), Vals xs us → Vals (xs.drop n) (us.drop n)
  | _, _, 0, r => r
  | _, _, _ + 1, .nil => .nil
  | _, _, n + 1, .cons _ t => Vals.drop n t
def RelO : Option V → Option Value → Prop
  | some v, some u => RelV v u
  | none, none => True
  | _, _ => False
def KV {κ : Type} : List (κ × V) → List (κ × Value) → Prop := Paired fun (p : κ × V) (q : κ × Value) => p.1 = q.1 ∧ RelV p.2 q.2

/-- a key of a dict (00_mix): an int or a text -/
def kV : Key → V
  | .inl i => .int i
  | .inr x => .str x

/-- what stands at a tracked address -/
inductive HO where
  /-- a list -/
  | lst (xs : List V)
  /-- a tuple (never changes) -/
  | tup (xs : List V)
  /-- a dict whose keys are ints and texts; one whose keys are tuples of ints and texts (the empty one is both) -/
  | dK (kvs : List (Key × V)) | dT (kvs : List (List Key × V))
  /-- a set of ints: its members, its size -/
  | set (S : Int → Bool) (n : Nat)
  /-- an instance of the class at C, its dict at dx, its attributes -/
  | ins (C dx : Addr) (fs : List (Str × V))
  /-- the dict of the instance at x -/
  | own (x : Addr)
  /-- the dict of an exception -/
  | xd (fs : List (Str × V))
  /-- a bound method, f of x -/
  | met (f x : Addr)
  /-- a range object lo, lo + 1, .. below hi -/
  | rng (lo hi : Int)
  /-- a thing that is known to the object (the script; a dict while a loop walks it): read, never written while it is so -/
  | frz (o : Obj) (u : HO)
  /-- a code object's table -/
  | tbl (ps : Array Value)
  /-- any other thing, by what is true of its one object (a def of one's own: SetO a S n := HO.ext fun h => ..) -/
  | ext (φ : Heap → Prop)

abbrev Hp := Addr → Option HO
def upd (H : Hp) (a : Addr) (o : HO) : Hp := fun b => if b = a then some o else H b
theorem upd_same {H : Hp} {a : Addr} {o : HO} : upd H a o a = some o := by unfold upd; rw [if_pos rfl]
theorem upd_ne {H : Hp} {a b : Addr} {o : HO} (h : b ≠ a) : upd H a o b = H b := by unfold upd; rw [if_neg h]
/-- two objects of different content stand apart -/
theorem ne_of {H : Hp} {a b : Addr} {o u : HO} (h : H a = some o) (h' : H b = some u) (d : o ≠ u) : a ≠ b := by
  intro e; subst e; rw [h] at h'; exact d (Option.some.inj h')
theorem ne_of_none {H : Hp} {a b : Addr} {o : HO} (h : H a = some o) (h' : H b = none) : a ≠ b := by
  intro e; subst e; rw [h] at h'; cases h'

section
variable (P : Program) (w : World)
def ObjOk (H : Hp) (h : Heap) (a : Addr) : HO → Prop
  | .lst xs => xs.length ≤ sizeLine ∧ ∃ (its : List Value) (n : Nat), Vals xs its ∧ h.get? a = some { cls := .type "list", data := .seq its.toArray n }
  | .tup xs => xs.length ≤ sizeLine ∧ ∃ its : List Value, Vals xs its ∧ IsTup h a its.toArray
  | .dK kvs => kvs.length ≤ sizeLine ∧ (a == sysModules) = false ∧ ∃ vs, KV kvs vs ∧ h.DictOf (mixKind P w) a vs
  | .dT kvs => kvs.length ≤ sizeLine ∧ (a == sysModules) = false ∧ ∃ xs : List (List Key × Addr × Value),
      Paired (fun (p : List Key × V) (q : List Key × Addr × Value) => p.1 = q.1 ∧ H q.2.1 = some (.tup (p.1.map kV)) ∧ RelV p.2 q.2.2) kvs xs ∧
      ∃ o es ep, h.get? a = some o ∧ o.ExactDict ∧ o.data = .dict es ep ∧ es.toList = xs.map (entryOfKey (tupleKind (mixKind P w))) ∧ (xs.map (·.1)).Nodup
  | .set S n => h.SetOf (intKind P w) a S n
  | .ins C dx fs => H dx = some (.own a) ∧ fs.length ≤ 1000 ∧ dx ≠ a ∧ h.get? a = some (PySem.W.instObj C dx) ∧
      ∃ mA, h.Ns1 dx mA ∧ (∀ f, RelO (fs.lookup f) (mA f)) ∧ PySem.Within mA (fs.map (·.1))
  | .own _ => ∃ o, h.get? a = some o
  | .xd fs => ∃ mA, h.Ns1 a mA ∧ ∀ f, RelO (fs.lookup f) (mA f)
  | .rng lo hi => ∃ t u v, h.get? a = some { cls := .type "range", data := .fields #[.int lo t, .int hi u, .int 1 v] }
  | .frz o u => h.get? a = some o ∧ ObjOk H h a u
  | .tbl ps => h.get? a = some { cls := .none, data := .fields ps }
  | .met f x => h.get? a = some (PySem.W.methodObj (.ref f) (.ref x))
  | .ext φ => φ h ∧ (∃ o, h.get? a = some o) ∧ ∀ h1 h2 : Heap, φ h1 → (∀ o, h1.get? a = some o → h2.get? a = some o) → φ h2
/-- the abstract heap is held -/
def HOk (H : Hp) (h : Heap) : Prop := ∀ a o, H a = some o → ObjOk P w H h a o
end

section
variable {P : Program} {w : World} {H H' : Hp} {h h' : Heap} {a : Addr} {o : HO}
theorem ObjOk.lt (x : ObjOk P w H h a o) : a < h.objs.size := by
  cases o with
  | lst xs => obtain ⟨_, _, _, _, e⟩ := x; exact Heap.lt_size e
  | tup xs => obtain ⟨_, _, _, p⟩ := x; exact p.lt
  | dK kvs => obtain ⟨_, _, _, _, o, _, _, e, _⟩ := x; exact Heap.lt_size e
  | dT kvs => obtain ⟨_, _, _, _, o, _, _, e, _⟩ := x; exact Heap.lt_size e
  | set S n => obtain ⟨o, _, _, _, e, _⟩ := x; exact Heap.lt_size e
  | ins C dx fs => obtain ⟨_, _, _, e, _⟩ := x; exact Heap.lt_size e
  | own y => obtain ⟨_, e⟩ := x; exact Heap.lt_size e
  | xd fs => obtain ⟨_, ⟨_, _, _, e, _⟩, _⟩ := x; exact Heap.lt_size e
  | rng lo hi => obtain ⟨_, _, _, e⟩ := x; exact Heap.lt_size e
  | frz ob u => obtain ⟨e, _⟩ := x; exact Heap.lt_size e
  | tbl ps => exact Heap.lt_size (show h.get? a = some _ from x)
  | met f y => exact Heap.lt_size (show h.get? a = some _ from x)
  | ext φ => obtain ⟨_, ⟨_, e⟩, _⟩ := x; exact Heap.lt_size e
theorem Paired.mapP {α β : Type} {F G : α → β → Prop} : ∀ {l₁ : List α} {l₂ : List β}, Paired F l₁ l₂ → (∀ a b, F a b → G a b) → Paired G l₁ l₂
  | _, _, .nil, _ => .nil
  | _, _, .cons r t, f => .cons (f _ _ r) (Paired.mapP t f)
/-- what an object's description leans on: its own object, its own dict, the tuples -/
theorem ObjOk.stay (x : ObjOk P w H h a o) (k : ∀ b u, (b = a ∨ H b = some (.own a)) → h.get? b = some u → h'.get? b = some u)
    (ho : ∀ b, H b = some (.own a) → H' b = some (.own a)) (ht : ∀ b xs, H b = some (.tup xs) → H' b = some (.tup xs)) : ObjOk P w H' h' a o := by
  induction o with
  | lst xs => obtain ⟨z, its, n, r, e⟩ := x; exact ⟨z, its, n, r, k _ _ (.inl rfl) e⟩
  | tup xs => obtain ⟨z, its, r, ob, e, c⟩ := x; exact ⟨z, its, r, ob, k _ _ (.inl rfl) e, c⟩
  | dK kvs => obtain ⟨z, y, vs, r, ob, es, ep, e, c⟩ := x; exact ⟨z, y, vs, r, ob, es, ep, k _ _ (.inl rfl) e, c⟩
  | dT kvs =>
    obtain ⟨z, y, xs, r, ob, es, ep, e, c⟩ := x
    exact ⟨z, y, xs, Paired.mapP r fun p q z => ⟨z.1, ht _ _ z.2.1, z.2.2⟩, ob, es, ep, k _ _ (.inl rfl) e, c⟩
  | set S n => obtain ⟨ob, es, ep, t, e, c⟩ := x; exact ⟨ob, es, ep, t, k _ _ (.inl rfl) e, c⟩
  | ins C dx fs =>
    obtain ⟨d, z, ne, e, mA, ⟨od, es, ep, e2, c⟩, r⟩ := x
    exact ⟨ho _ d, z, ne, k _ _ (.inl rfl) e, mA, ⟨od, es, ep, k _ _ (.inr d) e2, c⟩, r⟩
  | own y => obtain ⟨ob, e⟩ := x; exact ⟨ob, k _ _ (.inl rfl) e⟩
  | xd fs => obtain ⟨mA, ⟨od, es, ep, e, c⟩, r⟩ := x; exact ⟨mA, ⟨od, es, ep, k _ _ (.inl rfl) e, c⟩, r⟩
  | rng lo hi => obtain ⟨t, u, v, e⟩ := x; exact ⟨t, u, v, k _ _ (.inl rfl) e⟩
  | frz ob u ih => obtain ⟨e, q⟩ := x; exact ⟨k _ _ (.inl rfl) e, ih q⟩
  | tbl ps =>
    have e : h.get? a = some { cls := .none, data := .fields ps } := x
    show h'.get? a = some { cls := .none, data := .fields ps }
    exact k a _ (.inl rfl) e
  | met f y =>
    have e : h.get? a = some (PySem.W.methodObj (.ref f) (.ref y)) := x
    show h'.get? a = some (PySem.W.methodObj (.ref f) (.ref y))
    exact k a _ (.inl rfl) e
  | ext φ => obtain ⟨p, ⟨o, e⟩, st⟩ := x; exact ⟨st _ _ p fun o q => k _ _ (.inl rfl) q, ⟨o, k _ _ (.inl rfl) e⟩, st⟩
theorem HOk.lt (x : HOk P w H h) (e : H a = some o) : a < h.objs.size := (x a o e).lt
theorem HOk.fresh (x : HOk P w H h) (e : h.objs.size ≤ a) : H a = none := by
  cases q : H a with
  | none => rfl
  | some u => exact absurd (Nat.lt_of_lt_of_le (x.lt q) e) (Nat.lt_irrefl _)
/-- every object of the heap is kept -/
theorem HOk.kept (x : HOk P w H h) (k : ∀ b u, h.get? b = some u → h'.get? b = some u) : HOk P w H h' := fun a o e =>
  (x a o e).stay (fun b u _ q => k b u q) (fun _ q => q) fun _ _ q => q
/-- a new object is laid and tracked -/
theorem HOk.laid (x : HOk P w H h) (k : ∀ b u, h.get? b = some u → h'.get? b = some u) (hp : h.objs.size ≤ a) (new : ObjOk P w (upd H a o) h' a o) : HOk P w (upd H a o) h' := fun b u e => by
  have hn := x.fresh hp
  by_cases hb : b = a
  · subst hb; rw [upd_same] at e; cases e; exact new
  · rw [upd_ne hb] at e
    exact (x b u e).stay (fun c v _ q => k c v q) (fun c q => by rw [upd_ne (ne_of_none q hn)]; exact q) fun c xs q => by rw [upd_ne (ne_of_none q hn)]; exact q
end

/-- what may be read as u: it is u, or a known u -/
def Rd (H : Hp) (a : Addr) (u : HO) : Prop := H a = some u ∨ ∃ o, H a = some (.frz o u)
theorem Rd.ok {P : Program} {w : World} {H : Hp} {h : Heap} {a : Addr} {u : HO} (r : Rd H a u) (x : HOk P w H h) : ObjOk P w H h a u := by
  rcases r with r | ⟨o, r⟩
  · exact x a u r
  · obtain ⟨_, q⟩ := x a _ r
    exact q
/-- what may be written -/
def Mut : Option HO → Prop
  | some (.lst _) => True
  | some (.dK _) => True
  | some (.dT _) => True
  | some (.set _ _) => True
  | some (.ins _ _ _) => True
  | some (.ext _) => True
  | _ => False
section
variable {P : Program} {w : World} {H : Hp} {h h' : Heap} {x e : Addr} {o' : HO}
/-- the object at e is changed: x itself, or the dict of the instance x -/
theorem HOk.write (ok : HOk P w H h) (mu : Mut (H x)) (he : e = x ∨ H e = some (.own x)) (k : ∀ b u, b ≠ e → h.get? b = some u → h'.get? b = some u) (heo : ∃ u, h'.get? e = some u)
    (new : ObjOk P w (upd H x o') h' x o') : HOk P w (upd H x o') h' := fun b u q => by
  have nown : ∀ c y, H c = some (.own y) → c ≠ x := fun c y r z => by subst z; rw [r] at mu; exact mu
  have ntup : ∀ c xs, H c = some (.tup xs) → c ≠ x := fun c xs r z => by subst z; rw [r] at mu; exact mu
  by_cases hb : b = x
  · subst hb; rw [upd_same] at q; cases q; exact new
  · rw [upd_ne hb] at q
    by_cases hbe : b = e
    · have q' : H b = some (.own x) := by
        rcases he with z | z
        · exact absurd (hbe.trans z) hb
        · rw [hbe]; exact z
      rw [q] at q'; cases q'
      obtain ⟨v, hv⟩ := heo
      exact ⟨v, by rw [hbe]; exact hv⟩
    · refine (ok b u q).stay (fun c v hc r => k c v ?_ r) (fun c r => by rw [upd_ne (nown c b r)]; exact r) fun c xs r => by rw [upd_ne (ntup c xs r)]; exact r
      rcases hc with rfl | hc
      · exact hbe
      · rintro rfl
        rcases he with z | z
        · exact nown c b hc z
        · rw [hc] at z; cases z; exact hb rfl
end

/-! ### kept unless tracked; of the frames at fs (the callers') the slots may change (an exception that passes writes there); of the records at ex (iterators) nothing is said -/
structure Un (fs ex : List Addr) (H H' : Hp) (h h' : Heap) : Prop where
  keep : ∀ b o, h.get? b = some o → H b = none → b ∉ fs → b ∉ ex → h'.get? b = some o
  slot : ∀ b o, h.get? b = some o → H b = none → b ∈ fs → b ∉ ex → ∃ sl, h'.get? b = some { o with slots := sl }
  free : ∀ b o, h.get? b = some o → H b = none → b ∉ ex → H' b = none
  there : ∀ b o, h.get? b = some o → b ∉ ex → ∃ o', h'.get? b = some o'
  tups : ∀ b xs, H b = some (.tup xs) → H' b = some (.tup xs)
  frzs : ∀ b o u, H b = some (.frz o u) → H' b = some (.frz o u)
  tbls : ∀ b ps, H b = some (.tbl ps) → ∃ more, H' b = some (.tbl (ps ++ more))
section
variable {fs fs' ex ex' : List Addr} {H H1 H2 : Hp} {h h1 h2 h' : Heap} {a x e : Addr} {o : HO}
theorem Un.any (u : Un fs ex H H1 h h1) {b : Addr} {ob : Obj} (q : h.get? b = some ob) (n : H b = none) (hx : b ∉ ex) : ∃ sl, h1.get? b = some { ob with slots := sl } := by
  by_cases hb : b ∈ fs
  · exact u.slot b ob q n hb hx
  · exact ⟨ob.slots, u.keep b ob q n hb hx⟩
theorem Un.kept (k : ∀ b u, h.get? b = some u → h'.get? b = some u) : Un fs ex H H h h' :=
  ⟨fun b ob q _ _ _ => k b ob q, fun b ob q _ _ _ => ⟨ob.slots, k b ob q⟩, fun _ _ _ n _ => n, fun b ob q _ => ⟨ob, k b ob q⟩, fun _ _ q => q, fun _ _ _ q => q, fun _ ps q => ⟨#[], by rw [q]; simp⟩⟩
theorem Un.refl : Un fs ex H H h h := Un.kept fun _ _ q => q
theorem Un.laid (k : ∀ b u, h.get? b = some u → h'.get? b = some u) (hp : h.objs.size ≤ a) (hn : H a = none) : Un fs ex H (upd H a o) h h' where
  keep := fun b u q _ _ _ => k b u q
  slot := fun b u q _ _ _ => ⟨u.slots, k b u q⟩
  free := fun b u q n _ => by rw [upd_ne (Nat.ne_of_lt (Nat.lt_of_lt_of_le (Heap.lt_size q) hp))]; exact n
  there := fun b u q _ => ⟨u, k b u q⟩
  tups := fun b xs q => by rw [upd_ne (ne_of_none q hn)]; exact q
  frzs := fun b u xs q => by rw [upd_ne (ne_of_none q hn)]; exact q
  tbls := fun b ps q => ⟨#[], by rw [upd_ne (ne_of_none q hn), q]; simp⟩
theorem Un.write (mu : Mut (H x)) (he : e = x ∨ H e = some (.own x)) (k : ∀ b u, b ≠ e → h.get? b = some u → h'.get? b = some u) (heo : ∃ u, h'.get? e = some u) : Un fs ex H (upd H x o) h h' := by
  have hx : ∀ b, H b = none → b ≠ x := fun b n z => by subst z; rw [n] at mu; exact mu
  have hb : ∀ b, H b = none → b ≠ e := fun b n z => by
    subst z
    rcases he with r | r
    · exact hx b n r
    · rw [n] at r; cases r
  have hm : ∀ b u, H b = some u → ¬ Mut (some u) → b ≠ x := fun b u q nm z => by subst z; rw [q] at mu; exact nm mu
  refine ⟨fun b u q n _ _ => k b u (hb b n) q, fun b u q n _ _ => ⟨u.slots, k b u (hb b n) q⟩, fun b u q n _ => by rw [upd_ne (hx b n)]; exact n, fun b u q _ => ?_,
    fun b xs q => by rw [upd_ne (hm b _ q fun z => z)]; exact q, fun b u xs q => by rw [upd_ne (hm b _ q fun z => z)]; exact q, fun b ps q => ⟨#[], by rw [upd_ne (hm b _ q fun z => z), q]; simp⟩⟩
  by_cases hbe : b = e
  · subst hbe; exact heo
  · exact ⟨u, k b u hbe q⟩
end

/-! ### the heap without what is tracked -/
def trk (h : Heap) (H : Hp) : List Addr := (List.range h.objs.size).filter fun a => (H a).isSome
def hidT (h : Heap) (H : Hp) : Heap := PySem.W.hideAll h (trk h H)
theorem hidT_size (h : Heap) (H : Hp) : (hidT h H).objs.size = h.objs.size := PySem.W.hideAll_size _ _
theorem hidT_get {h : Heap} {H : Hp} {b : Addr} {o : Obj} (e : h.get? b = some o) (n : H b = none) : (hidT h H).get? b = some o :=
  PySem.W.hideAll_get _ e fun hm => by
    have q : (H b).isSome = true := (List.mem_filter.mp hm).2
    rw [n] at q; simp at q
theorem of_hidT {h : Heap} {H : Hp} {b : Addr} {o : Obj} (e : (hidT h H).get? b = some o) : h.get? b = some o ∧ H b = none := by
  have e' : h.get? b = some o := PySem.W.of_hideAll (trk h H) e
  refine ⟨e', ?_⟩
  cases q : H b with
  | none => rfl
  | some x =>
    have hm : b ∈ trk h H := List.mem_filter.mpr ⟨List.mem_range.mpr (Heap.lt_size e'), by simp [q]⟩
    have z : (hidT h H).get? b = none := PySem.W.hideAll_none (trk h H) hm
    rw [z] at e; cases e

/-! ### OpenK's ledger, filled with every new object but one -/
end L2

namespace L2
open PySem PySem.Spec PyProof.Rows

/-- the module's facts, over the base: the heap at the law's entry without what is tracked there -/
structure Mod (K : PySem.W.Frag) (mg : Str → Option Value) (base : Heap) : Prop where
  kin : K.In base
  glob : base.Ns mainGlobals mg
  blt : ∃ mb, base.Ns builtinsNs mb ∧ ∀ x : Str, x ≠ "__name__" → mb x = bootBuiltins x
  nolimit : base.NoLimit

/-- the context: a def's body (or a comprehension's block) running. base: fixed through the whole law; s₀, H₀: the entry; outer: the frames whose slots others may change (a def's callers); stack: all frames that run;
   ex: iterators that were made ahead of the entry and are walked here (a comprehension's); fn: the names whose cells were made at the entry (a def: all; a comprehension's block: its own); calm: not within an except suite; pn: pins that every state bears; xe: what is wanted of an exception that leaves the code -/
structure Cx where
  prog : Program
  w : World
  K : PySem.W.Frag
  mg : Str → Option Value
  base : Heap
  A : Around
  N : List Str
  s₀ : Shared
  H₀ : Hp
  env : Env
  outer : List Env
  stack : List Env
  ex : List Addr
  fn : Str → Bool
  calm : Bool
  pn : List (Addr × Obj)
  xe : Value → Shared → Prop
/-- the callers' frames -/
def frs (l : List Env) : List Addr := l.filterMap (·.frame)
abbrev Cx.fs (X : Cx) : List Addr := frs X.outer

def Vis (sc : Scope) (x : Str) : Prop := sc.names.lookup x = some .local ∨ sc.names.lookup x = some .cell ∨ sc.names.lookup x = some .free
def Loc (sc : Scope) (x : Str) : Prop := sc.names.lookup x = some .local ∨ sc.names.lookup x = some .cell
def Look (env : Env) (h : Heap) (m : Str → Option Value) (x : Str) (u : Value) : Prop :=
  (env.kindOf x = some .local ∧ m x = some u) ∨ ((env.kindOf x = some .cell ∨ env.kindOf x = some .free) ∧ ∃ c, env.cells.lookup x = some c ∧ h.IsCell c (some u))

structure Cx.Ok (X : Cx) : Prop where
  mod : Mod X.K X.mg X.base
  kind : X.env.scope.kind = .function
  glob : X.env.globals = mainGlobals
  blt : X.env.builtins = builtinsNs
  above : X.s₀.heap.objs.size ≤ X.env.locals
  inj : ∀ x y c, X.env.cells.lookup x = some c → X.env.cells.lookup y = some c → x = y
  has : ∀ x, (X.env.kindOf x = some .cell ∨ X.env.kindOf x = some .free) → ∃ c, X.env.cells.lookup x = some c
  cab : ∀ x c, X.fn x = true → X.env.cells.lookup x = some c → X.s₀.heap.objs.size ≤ c
  hd : X.calm = true → X.A.handled = none
  frames : X.A.frames = some X.stack
  stk : X.stack = X.outer ∨ (X.stack = X.env :: X.outer ∧ X.env.frame = some X.env.locals)
  exf : ∀ b ∈ X.ex, b ≠ X.env.locals ∧ ∀ x c, X.env.cells.lookup x = some c → c ≠ b
  bs : ∀ b o, X.base.get? b = some o → X.s₀.heap.get? b = some o ∧ X.H₀ b = none
  bsz : X.base.objs.size ≤ X.s₀.heap.objs.size
  noex : ∀ b o, X.base.get? b = some o → b ∉ X.ex
  exfs : ∀ b ∈ X.ex, b ∉ X.fs
  funs : X.s₀.heap.FunFrames X.base X.outer
  frf : ∀ b ∈ X.fs, X.H₀ b = none

structure Inv (X : Cx) (pins : List (Addr × Obj)) (σ : List (Option V)) (H : Hp) (s : Shared) : Prop where
  ok : X.Ok
  os : s.os = X.s₀.os
  bare : AllBare s.gens
  base : Un X.fs X.ex X.H₀ H X.s₀.heap s.heap
  loc : ∃ m, s.heap.Ns X.env.locals m ∧ ∀ (i : Nat) (x : Str) (v : V), X.N[i]? = some x → σ[i]? = some (some v) → Vis X.env.scope x → ∃ u, RelV v u ∧ Look X.env s.heap m x u
  cell : ∀ x c, X.env.cells.lookup x = some c → ∃ v, s.heap.IsCell c v
  free : H X.env.locals = none
  freeC : ∀ x c, X.env.cells.lookup x = some c → H c = none
  pin : ∀ p ∈ X.pn ++ pins, s.heap.get? p.1 = some p.2 ∧ H p.1 = none ∧ p.1 ≠ X.env.locals ∧ p.1 ∉ X.fs ∧ ∀ v, p.2.data ≠ .cell v
  hok : HOk X.prog X.w H s.heap
  len : σ.length = X.N.length

section
variable {X : Cx} {pins : List (Addr × Obj)} {σ : List (Option V)} {H H' : Hp} {s : Shared} {h' : Heap}

theorem Cx.Ok.nofr (ok : X.Ok) {b : Addr} {o : Obj} (e : X.base.get? b = some o) : b ∉ X.fs := fun hb => by
  have := (ok.funs.mem hb).1
  rw [e] at this; cases this
theorem Inv.bs (I : Inv X pins σ H s) : ∀ b o, X.base.get? b = some o → s.heap.get? b = some o ∧ H b = none := fun b o e =>
  ⟨I.base.keep b o (I.ok.bs b o e).1 (I.ok.bs b o e).2 (I.ok.nofr e) (I.ok.noex b o e), I.base.free b o (I.ok.bs b o e).1 (I.ok.bs b o e).2 (I.ok.noex b o e)⟩
theorem Inv.bk (I : Inv X pins σ H s) : ∀ b o, X.base.get? b = some o → s.heap.get? b = some o := fun b o e => (I.bs b o e).1
theorem Inv.mod (I : Inv X pins σ H s) : Mod X.K X.mg X.base := I.ok.mod
theorem Inv.kIn (I : Inv X pins σ H s) : X.K.In s.heap := I.ok.mod.kin.keeps I.bk
theorem Inv.lt (I : Inv X pins σ H s) : X.env.locals < s.heap.objs.size := let ⟨_, hn, _⟩ := I.loc; hn.lt
theorem Inv.sz (I : Inv X pins σ H s) : X.s₀.heap.objs.size ≤ s.heap.objs.size := Nat.le_trans I.ok.above (Nat.le_of_lt I.lt)
theorem Inv.nofs (I : Inv X pins σ H s) {a : Addr} (h : s.heap.objs.size ≤ a) : a ∉ X.fs := fun hb => by
  obtain ⟨_, o, ho, _⟩ := I.ok.funs.mem hb
  exact absurd (Nat.lt_of_lt_of_le (Heap.lt_size ho) (Nat.le_trans I.sz h)) (Nat.lt_irrefl _)
theorem Inv.cne (I : Inv X pins σ H s) : ∀ x c, X.env.cells.lookup x = some c → c ≠ X.env.locals := fun x c e z => by
  obtain ⟨v, o, ho, hd⟩ := I.cell x c e
  obtain ⟨m, ⟨o', es, ep, ho', hd', _⟩, _⟩ := I.loc
  rw [z, ho'] at ho; cases ho; rw [hd'] at hd; cases hd
theorem Inv.funs (I : Inv X pins σ H s) : s.heap.FunFrames X.base X.outer := by
  have all : ∀ (l : List Env), (∀ b ∈ frs l, b ∈ X.fs) → X.s₀.heap.FunFrames X.base l → s.heap.FunFrames X.base l := by
    intro l
    induction l with
    | nil => intro _ _; trivial
    | cons env r ih =>
      intro hs hl
      obtain ⟨hk, ⟨L, o, hf, hn, ho, hd⟩, hr⟩ := hl
      have hL : L ∈ X.fs := hs L (by unfold frs; rw [List.filterMap_cons, hf]; exact List.mem_cons_self)
      obtain ⟨sl, e⟩ := I.base.slot L o ho (I.ok.frf L hL) hL fun z => I.ok.exfs L z hL
      exact ⟨hk, ⟨L, _, hf, hn, e, hd⟩, ih (fun b hb => hs b (by unfold frs; rw [List.filterMap_cons, hf]; exact List.mem_cons_of_mem _ hb)) hr⟩
  exact all X.outer (fun _ hb => hb) I.ok.funs

/-- the frames that run, for a call -/
theorem Inv.stack (I : Inv X pins σ H s) : s.heap.FunFrames X.base X.stack := by
  rcases I.ok.stk with e | ⟨e, hf⟩
  · rw [e]; exact I.funs
  · rw [e]
    obtain ⟨m, hn, _⟩ := I.loc
    refine .cons (by rw [I.ok.kind]; decide) hf hn ?_ I.funs
    exact Heap.get?_none_of_le (Nat.le_trans I.ok.bsz I.ok.above)
theorem Inv.stkSub (I : Inv X pins σ H s) : ∀ b ∈ frs X.stack, b ∈ X.env.locals :: X.fs := fun b hb => by
  rcases I.ok.stk with e | ⟨e, hf⟩
  · rw [e] at hb; exact List.mem_cons_of_mem _ hb
  · rw [e] at hb
    unfold frs at hb
    rw [List.filterMap_cons, hf] at hb
    exact hb
theorem Inv.stkFree (I : Inv X pins σ H s) : ∀ b ∈ frs X.stack, H b = none := fun b hb => by
  rcases List.mem_cons.mp (I.stkSub b hb) with e | hb
  · rw [e]; exact I.free
  · obtain ⟨_, o, ho, _⟩ := I.ok.funs.mem hb
    exact I.base.free b o ho (I.ok.frf b hb) fun z => I.ok.exfs b z hb

/-- THE STEP: the untracked objects but the frame and the records at ch are kept (the callers' frames up to slots), the frame's map is kept, the new abstract heap is held -/
theorem Inv.step {g' : Array GenState} {t' : Nat} {d' : Drawn} {ch : List Addr} (I : Inv X pins σ H s)
    (hch : ∀ b ∈ ch, (b ∈ X.ex ∨ X.s₀.heap.objs.size ≤ b) ∧ b ≠ X.env.locals ∧ (∀ x c, X.env.cells.lookup x = some c → c ≠ b) ∧ ∀ p ∈ X.pn ++ pins, p.1 ≠ b)
    (keep : ∀ b o, b ≠ X.env.locals → b ∉ X.fs → b ∉ ch → s.heap.get? b = some o → H b = none → h'.get? b = some o)
    (slot : ∀ b o, b ≠ X.env.locals → b ∈ X.fs → b ∉ ch → s.heap.get? b = some o → H b = none → ∃ sl, h'.get? b = some { o with slots := sl }) (free : ∀ b o, b ∉ ch → s.heap.get? b = some o → H b = none → H' b = none)
    (there : ∀ b o, b ∉ ch → s.heap.get? b = some o → ∃ o', h'.get? b = some o')
    (tups : ∀ b xs, H b = some (.tup xs) → H' b = some (.tup xs)) (frzs : ∀ b o u, H b = some (.frz o u) → H' b = some (.frz o u)) (tbls : ∀ b ps, H b = some (.tbl ps) → ∃ more, H' b = some (.tbl (ps ++ more)))
    (ns : ∀ m, s.heap.Ns X.env.locals m → h'.Ns X.env.locals m) (hok : HOk X.prog X.w H' h') (hg : AllBare g') :
    Inv X pins σ H' { s with heap := h', gens := g', drawn := d', toks := t' } := by
  have neL : ∀ b o, X.s₀.heap.get? b = some o → b ≠ X.env.locals := fun b o e => Nat.ne_of_lt (Nat.lt_of_lt_of_le (Heap.lt_size e) I.ok.above)
  have neC : ∀ b o, X.s₀.heap.get? b = some o → b ∉ X.ex → b ∉ ch := fun b o e hx hb => by
    rcases (hch b hb).1 with z | z
    · exact hx z
    · exact absurd (Nat.lt_of_lt_of_le (Heap.lt_size e) z) (Nat.lt_irrefl _)
  have cellK : ∀ x c, X.env.cells.lookup x = some c → ∀ v, s.heap.IsCell c v → h'.IsCell c v := fun x c e v ⟨o, ho, hd⟩ => by
    have nch : c ∉ ch := fun z => (hch c z).2.2.1 x c e rfl
    by_cases hc : c ∈ X.fs
    · obtain ⟨sl, q⟩ := slot c o (I.cne x c e) hc nch ho (I.freeC x c e)
      exact ⟨_, q, hd⟩
    · exact ⟨o, keep c o (I.cne x c e) hc nch ho (I.freeC x c e), hd⟩
  refine ⟨I.ok, I.os, hg, ⟨fun b o e n hb hx => ?_, fun b o e n hb hx => ?_, fun b o e n hx => ?_, fun b o e hx => ?_, fun b xs e => tups b xs (I.base.tups b xs e), fun b o xs e => frzs b o xs (I.base.frzs b o xs e), fun b ps e => ?_⟩, ?_, fun x c e => ?_, ?_, fun x c e => ?_, fun p hp => ?_, hok, I.len⟩
  · exact keep b o (neL b o e) hb (neC b o e hx) (I.base.keep b o e n hb hx) (I.base.free b o e n hx)
  · obtain ⟨sl, e1⟩ := I.base.slot b o e n hb hx
    obtain ⟨sl', e2⟩ := slot b _ (neL b o e) hb (neC b o e hx) e1 (I.base.free b o e n hx)
    exact ⟨sl', e2⟩
  · obtain ⟨o', e1⟩ := I.base.there b o e hx
    exact free b o' (neC b o e hx) e1 (I.base.free b o e n hx)
  · obtain ⟨o', e1⟩ := I.base.there b o e hx
    exact there b o' (neC b o e hx) e1
  · obtain ⟨m1, e1⟩ := I.base.tbls b ps e
    obtain ⟨m2, e2⟩ := tbls b _ e1
    exact ⟨m1 ++ m2, by rw [e2, Array.append_assoc]⟩
  · obtain ⟨m, hn, hl⟩ := I.loc
    refine ⟨m, ns m hn, fun i x v e1 e2 e3 => ?_⟩
    obtain ⟨u, r, l⟩ := hl i x v e1 e2 e3
    refine ⟨u, r, ?_⟩
    rcases l with l | ⟨k, c, e, z⟩
    · exact .inl l
    · exact .inr ⟨k, c, e, cellK x c e _ z⟩
  · obtain ⟨v, z⟩ := I.cell x c e
    exact ⟨v, cellK x c e v z⟩
  · obtain ⟨m, ⟨o, _, _, ho, _⟩, _⟩ := I.loc
    exact free _ o (fun z => (hch _ z).2.1 rfl) ho I.free
  · obtain ⟨v, o, ho, hd⟩ := I.cell x c e
    exact free c o (fun z => (hch c z).2.2.1 x c e rfl) ho (I.freeC x c e)
  · obtain ⟨e, n, ne, nf, d⟩ := I.pin p hp
    have nch : p.1 ∉ ch := fun z => (hch p.1 z).2.2.2 p hp rfl
    exact ⟨keep p.1 p.2 ne nf nch e n, free p.1 p.2 nch e n, ne, nf, d⟩
/-- .. where the frame's own object is kept too -/
theorem Inv.un {t' : Nat} (I : Inv X pins σ H s) (u : Un X.fs [] H H' s.heap h') (hok : HOk X.prog X.w H' h') : Inv X pins σ H' { s with heap := h', toks := t' } := by
  obtain ⟨m, ⟨o, es, ep, ho, r⟩, _⟩ := id I.loc
  obtain ⟨sl, hL⟩ := u.any ho I.free (by simp)
  exact I.step (g' := s.gens) (d' := s.drawn) (ch := []) (fun _ z => nomatch z) (fun b o _ hb _ e n => u.keep b o e n hb (by simp)) (fun b o _ hb _ e n => u.slot b o e n hb (by simp)) (fun b o _ e n => u.free b o e n (by simp)) (fun b o _ e => u.there b o e (by simp)) u.tups u.frzs u.tbls (fun m' hm => by
    obtain ⟨o', es', ep', ho', r'⟩ := hm
    rw [ho] at ho'; cases ho'
    exact ⟨_, es', ep', hL, r'⟩) hok I.bare
/-- behind a call (or a comprehension's block): the slots of this frame may have changed too, the records at ch may have turned -/
theorem Inv.call {g' : Array GenState} {t' : Nat} {d' : Drawn} {ch : List Addr} (I : Inv X pins σ H s) (u : Un (frs X.stack) ch H H' s.heap h') (hok : HOk X.prog X.w H' h') (hg : AllBare g')
    (hch : ∀ b ∈ ch, (b ∈ X.ex ∨ X.s₀.heap.objs.size ≤ b) ∧ b ≠ X.env.locals ∧ (∀ x c, X.env.cells.lookup x = some c → c ≠ b) ∧ ∀ p ∈ X.pn ++ pins, p.1 ≠ b) :
    Inv X pins σ H' { s with heap := h', gens := g', drawn := d', toks := t' } := by
  obtain ⟨m, ⟨o, es, ep, ho, r⟩, _⟩ := id I.loc
  obtain ⟨sl, hL⟩ := u.any ho I.free fun z => (hch _ z).2.1 rfl
  exact I.step (ch := ch) hch (fun b o hL hb hc e n => u.keep b o e n (fun z => (List.mem_cons.mp (I.stkSub b z)).elim hL hb) hc) (fun b o _ _ hc e n => u.any e n hc) (fun b o hc e n => u.free b o e n hc) (fun b o hc e => u.there b o e hc) u.tups u.frzs u.tbls (fun m' hm => by
    obtain ⟨o', es', ep', ho', r'⟩ := hm
    rw [ho] at ho'; cases ho'
    exact ⟨_, es', ep', hL, r'⟩) hok hg
/-- an untracked record of ours (an iterator) has turned -/
theorem Inv.turned {t' : Nat} {it : Addr} (I : Inv X pins σ H s) (k : ∀ b o, b ≠ it → s.heap.get? b = some o → h'.get? b = some o) (hn : H it = none) (hL : it ≠ X.env.locals)
    (h1 : it ∈ X.ex ∨ X.s₀.heap.objs.size ≤ it) (h2 : ∀ x c, X.env.cells.lookup x = some c → c ≠ it) (h3 : ∀ p ∈ X.pn ++ pins, p.1 ≠ it) : Inv X pins σ H { s with heap := h', toks := t' } := by
  have nit : ∀ b u, H b = some u → b ≠ it := fun b u e z => by rw [z, hn] at e; cases e
  refine I.step (g' := s.gens) (d' := s.drawn) (ch := [it]) (fun b hb => ?_) (fun b o _ _ hc e _ => k b o (fun z => hc (by simp [z])) e) (fun b o _ _ hc e _ => ⟨o.slots, k b o (fun z => hc (by simp [z])) e⟩) (fun _ _ _ _ n => n)
    (fun b o hc e => ⟨o, k b o (fun z => hc (by simp [z])) e⟩) (fun _ _ e => e) (fun _ _ _ e => e) (fun b ps e => ⟨#[], by rw [e]; simp⟩) (fun m hm => ?_) (fun b u e => ?_) I.bare
  · have e : b = it := by simpa using hb
    subst e
    exact ⟨h1, hL, h2, h3⟩
  · obtain ⟨o, es, ep, ho, r⟩ := hm
    exact ⟨o, es, ep, k _ o (Ne.symm hL) ho, r⟩
  · refine (I.hok b u e).stay (fun c v hc q => k c v ?_ q) (fun _ q => q) fun _ _ q => q
    rcases hc with z | z
    · rw [z]; exact nit b u e
    · exact nit c _ z
theorem Inv.tok (I : Inv X pins σ H s) (t : Nat) : Inv X pins σ H { s with toks := t } := I.un (h' := s.heap) (t' := t) Un.refl I.hok
/-- all objects kept -/
theorem Inv.kept {t' : Nat} (I : Inv X pins σ H s) (k : ∀ b u, s.heap.get? b = some u → h'.get? b = some u) : Inv X pins σ H { s with heap := h', toks := t' } := I.un (Un.kept k) (I.hok.kept k)
/-- a new object laid and tracked -/
theorem Inv.laid {a : Addr} {o : HO} {t' : Nat} (I : Inv X pins σ H s) (k : ∀ b u, s.heap.get? b = some u → h'.get? b = some u) (hp : s.heap.objs.size ≤ a) (new : ObjOk X.prog X.w (upd H a o) h' a o) :
    Inv X pins σ (upd H a o) { s with heap := h', toks := t' } := I.un (Un.laid k hp (I.hok.fresh hp)) (I.hok.laid k hp new)
/-- an object written -/
theorem Inv.write {x e : Addr} {o : HO} {t' : Nat} (I : Inv X pins σ H s) (mu : Mut (H x)) (he : e = x ∨ H e = some (.own x)) (k : ∀ b u, b ≠ e → s.heap.get? b = some u → h'.get? b = some u) (heo : ∃ u, h'.get? e = some u)
    (new : ObjOk X.prog X.w (upd H x o) h' x o) : Inv X pins σ (upd H x o) { s with heap := h', toks := t' } := I.un (Un.write mu he k heo) (I.hok.write mu he k heo new)
theorem Inv.pins_of {pins' : List (Addr × Obj)} (I : Inv X pins σ H s) (h : ∀ p ∈ pins', s.heap.get? p.1 = some p.2 ∧ H p.1 = none ∧ p.1 ≠ X.env.locals ∧ p.1 ∉ X.fs ∧ ∀ v, p.2.data ≠ .cell v) : Inv X pins' σ H s :=
  ⟨I.ok, I.os, I.bare, I.base, I.loc, I.cell, I.free, I.freeC, fun p hp => (List.mem_append.mp hp).elim (fun z => I.pin p (List.mem_append_left _ z)) (h p), I.hok, I.len⟩

theorem nodup_ix {N : List Str} (hN : N.Nodup) {i j : Nat} {x : Str} (a : N[i]? = some x) (b : N[j]? = some x) : i = j := by
  obtain ⟨h1, e1⟩ := List.getElem?_eq_some_iff.mp a
  obtain ⟨h2, e2⟩ := List.getElem?_eq_some_iff.mp b
  exact (List.getElem_inj hN).mp (e1.trans e2.symm)

/-- a name is stored; what changed -/
theorem store_ok2 {M : Model} {A : Around} {E : Value → Shared → Prop} {i : Nat} {x : Str} {v : V} {u : Value} {Q : Unit → Shared → Prop} (I : Inv X pins σ H s) (hN : X.N.Nodup) (hi : X.N[i]? = some x) (hx : Loc X.env.scope x) (r : RelV v u)
    (h : ∀ s', Inv X pins (σ.set i (some v)) H s' → (∃ a, Heap.SameBut a s.heap s'.heap ∧ (a = X.env.locals ∨ X.env.cells.lookup x = some a)) → Q () s') (hf : X.fn x = true ∨ X.env.scope.names.lookup x = some .local := by first | exact .inl rfl | exact .inr rfl | assumption) : wpAny M A (storeName X.env x u) Q E s := by
  obtain ⟨m, hn, hl⟩ := id I.loc
  have hcls : (X.env.scope.kind == .class || (X.env.scope.kind == .module && X.env.locals != X.env.globals)) = false := by rw [I.ok.kind]; rfl
  have hiσ : i < σ.length := by rw [I.len]; exact (List.getElem?_eq_some_iff.mp hi).1
  have cne := I.cne
  have tracked : ∀ {a : Addr} {h' : Heap}, (∃ o, s.heap.get? a = some o ∧ H a = none) → Heap.SameBut a s.heap h' → HOk X.prog X.w H h' := fun {a h'} ha hs b ob e => by
    obtain ⟨_, _, hfree⟩ := ha
    refine (I.hok b ob e).stay (fun c w' hc q => (hs.2 c ?_).trans q) (fun _ q => q) fun _ _ q => q
    rintro rfl
    rcases hc with rfl | hc
    · rw [hfree] at e; cases e
    · rw [hfree] at hc; cases hc
  rcases hx with hk | hk
  · refine wpAny_storeName_local hk hn (fun h' hn' hs => ?_) hcls
    obtain ⟨oL, _, _, hoL, _⟩ := id hn
    refine h _ ⟨I.ok, I.os, I.bare, ⟨fun b o e n hb hx => ?_, fun b o e n hb hx => ?_, I.base.free, fun b o e hx => ?_, I.base.tups, I.base.frzs, I.base.tbls⟩, ⟨_, hn', fun j y v' e1 e2 e3 => ?_⟩, fun y c e => ?_, I.free, I.freeC, fun p hp => ?_, tracked ⟨oL, hoL, I.free⟩ hs, by simpa using I.len⟩ ⟨_, hs, .inl rfl⟩
    · exact (hs.2 b (Nat.ne_of_lt (Nat.lt_of_lt_of_le (Heap.lt_size e) I.ok.above))).trans (I.base.keep b o e n hb hx)
    · obtain ⟨sl, e1⟩ := I.base.slot b o e n hb hx
      exact ⟨sl, (hs.2 b (Nat.ne_of_lt (Nat.lt_of_lt_of_le (Heap.lt_size e) I.ok.above))).trans e1⟩
    · obtain ⟨o', e1⟩ := I.base.there b o e hx
      exact ⟨o', (hs.2 b (Nat.ne_of_lt (Nat.lt_of_lt_of_le (Heap.lt_size e) I.ok.above))).trans e1⟩
    · by_cases hj : j = i
      · subst hj
        rw [hi] at e1; cases e1
        rw [List.getElem?_set_self hiσ] at e2
        cases e2
        exact ⟨u, r, .inl ⟨hk, by simp⟩⟩
      · rw [List.getElem?_set_ne (Ne.symm hj)] at e2
        obtain ⟨u', r', q⟩ := hl j y v' e1 e2 e3
        refine ⟨u', r', ?_⟩
        rcases q with ⟨k, e⟩ | ⟨k, c, e, z⟩
        · refine .inl ⟨k, ?_⟩
          have : y ≠ x := fun e => hj (nodup_ix hN e1 (e ▸ hi))
          simp [this, e]
        · exact .inr ⟨k, c, e, z.sameBut hs (cne y c e)⟩
    · obtain ⟨w', z⟩ := I.cell y c e
      exact ⟨w', z.sameBut hs (cne y c e)⟩
    · obtain ⟨e, n, ne, nf, d⟩ := I.pin p hp
      exact ⟨(hs.2 p.1 ne).trans e, n, ne, nf, d⟩
  · have hfn : X.fn x = true := by
      rcases hf with z | z
      · exact z
      · rw [z] at hk; cases hk
    obtain ⟨c, hc⟩ := I.ok.has x (.inl hk)
    obtain ⟨w', z⟩ := I.cell x c hc
    refine wpAny_storeName_cell I.ok.kind hk hc z (fun h' hc' hs => ?_)
    obtain ⟨oc, hoc, hocd⟩ := id z
    refine h { s with heap := h' } ⟨I.ok, I.os, I.bare, ⟨fun b o e n hb hx => ?_, fun b o e n hb hx => ?_, I.base.free, fun b o e hx => ?_, I.base.tups, I.base.frzs, I.base.tbls⟩, ⟨m, hn.sameBut hs (Ne.symm (cne x c hc)), fun j y v' e1 e2 e3 => ?_⟩, fun y c' e => ?_, I.free, I.freeC, fun p hp => ?_, tracked ⟨oc, hoc, I.freeC x c hc⟩ hs, by simpa using I.len⟩ ⟨c, hs, .inr hc⟩
    · exact (hs.2 b (Nat.ne_of_lt (Nat.lt_of_lt_of_le (Heap.lt_size e) (I.ok.cab x c hfn hc)))).trans (I.base.keep b o e n hb hx)
    · obtain ⟨sl, e1⟩ := I.base.slot b o e n hb hx
      exact ⟨sl, (hs.2 b (Nat.ne_of_lt (Nat.lt_of_lt_of_le (Heap.lt_size e) (I.ok.cab x c hfn hc)))).trans e1⟩
    · obtain ⟨o', e1⟩ := I.base.there b o e hx
      exact ⟨o', (hs.2 b (Nat.ne_of_lt (Nat.lt_of_lt_of_le (Heap.lt_size e) (I.ok.cab x c hfn hc)))).trans e1⟩
    · by_cases hj : j = i
      · subst hj
        rw [hi] at e1; cases e1
        rw [List.getElem?_set_self hiσ] at e2
        cases e2
        exact ⟨u, r, .inr ⟨.inl hk, c, hc, hc'⟩⟩
      · rw [List.getElem?_set_ne (Ne.symm hj)] at e2
        obtain ⟨u', r', q⟩ := hl j y v' e1 e2 e3
        refine ⟨u', r', ?_⟩
        rcases q with q | ⟨k, c', e, z'⟩
        · exact .inl q
        · refine .inr ⟨k, c', e, z'.sameBut hs ?_⟩
          rintro rfl
          exact hj (nodup_ix hN e1 (I.ok.inj _ _ _ e hc ▸ hi))
    · by_cases hcc : c' = c
      · subst hcc; exact ⟨_, hc'⟩
      · obtain ⟨w2, z2⟩ := I.cell y c' e
        exact ⟨w2, z2.sameBut hs hcc⟩
    · obtain ⟨e, n, ne, nf, d⟩ := I.pin p hp
      refine ⟨(hs.2 p.1 ?_).trans e, n, ne, nf, d⟩
      intro q
      rw [q, hoc] at e
      have q' : oc = p.2 := Option.some.inj e
      exact d w' (by rw [← q']; exact hocd)
theorem store_ok {M : Model} {A : Around} {E : Value → Shared → Prop} {i : Nat} {x : Str} {v : V} {u : Value} {Q : Unit → Shared → Prop} (I : Inv X pins σ H s) (hN : X.N.Nodup) (hi : X.N[i]? = some x) (hx : Loc X.env.scope x) (r : RelV v u)
    (h : ∀ s', Inv X pins (σ.set i (some v)) H s' → Q () s') (hf : X.fn x = true ∨ X.env.scope.names.lookup x = some .local := by first | exact .inl rfl | exact .inr rfl | assumption) : wpAny M A (storeName X.env x u) Q E s :=
  store_ok2 I hN hi hx r (fun s' I' _ => h s' I') hf
/-- behind a call or a block, the state as it is -/
theorem Inv.call' {s' : Shared} {ch : List Addr} (I : Inv X pins σ H s) (ho : s'.os = s.os) (u : Un (frs X.stack) ch H H' s.heap s'.heap) (hok : HOk X.prog X.w H' s'.heap) (hg : AllBare s'.gens)
    (hch : ∀ b ∈ ch, (b ∈ X.ex ∨ X.s₀.heap.objs.size ≤ b) ∧ b ≠ X.env.locals ∧ (∀ x c, X.env.cells.lookup x = some c → c ≠ b) ∧ ∀ p ∈ X.pn ++ pins, p.1 ≠ b) : Inv X pins σ H' s' := by
  obtain ⟨h', g', d', t', o'⟩ := s'
  have e : o' = s.os := ho
  subst e
  exact I.call (g' := g') (t' := t') (d' := d') u hok hg hch
end

/-! ### the judgements -/
/-- an exception: its class, its own dict's address (where it has one), the abstract heap behind it -/
abbrev XK := Value → Option Addr → Hp → Prop
abbrev St := List (Option V)
abbrev VK := V → Hp → Prop
/-- an expression's reading; a test's; an argument list's -/
abbrev TE := St → Hp → VK → Prop
abbrev TT := St → Hp → (Bool → Hp → Prop) → Prop
abbrev TA := St → Hp → (List V → Hp → Prop) → Prop
/-- what is wanted behind a statement -/
structure Ends where
  nx : St → Hp → Prop
  rt : VK
  bk : St → Hp → Prop := fun _ _ => False
  ct : St → Hp → Prop := fun _ _ => False
abbrev TS := Ends → St → Hp → Prop

def EP (X : Cx) (pins : List (Addr × Obj)) (σ : St) (Q : VK) (u : Value) (s' : Shared) : Prop := ∃ v H', Inv X pins σ H' s' ∧ RelV v u ∧ Q v H'
def TP (X : Cx) (pins : List (Addr × Obj)) (σ : St) (Q : Bool → Hp → Prop) (b : Bool) (s' : Shared) : Prop := ∃ H', Inv X pins σ H' s' ∧ Q b H'
def AP (X : Cx) (pins : List (Addr × Obj)) (σ : St) (Q : List V → Hp → Prop) (us : List Value) (s' : Shared) : Prop := ∃ vs H', Inv X pins σ H' s' ∧ Vals vs us ∧ Q vs H'
def SP (X : Cx) (pins : List (Addr × Obj)) (D : Ends) (f : Flow) (s' : Shared) : Prop :=
  match f with
  | .next => ∃ σ' H', Inv X pins σ' H' s' ∧ D.nx σ' H'
  | .brk => ∃ σ' H', Inv X pins σ' H' s' ∧ D.bk σ' H'
  | .cont => ∃ σ' H', Inv X pins σ' H' s' ∧ D.ct σ' H'
  | .ret u => ∃ v σ' H', Inv X pins σ' H' s' ∧ RelV v u ∧ D.rt v H'

def PE (X : Cx) (e : Expr) (t : TE) : Prop :=
  ∀ (pins : List (Addr × Obj)) (s : Shared) (σ : St) (H : Hp) (Q : VK), Inv X pins σ H s → t σ H Q → wpAny (model X.prog X.w) X.A (eval e X.env) (EP X pins σ Q) X.xe s
def PT (X : Cx) (e : Expr) (t : TT) : Prop :=
  ∀ (pins : List (Addr × Obj)) (s : Shared) (σ : St) (H : Hp) (Q : Bool → Hp → Prop), Inv X pins σ H s → t σ H Q → wpAny (model X.prog X.w) X.A (isTrue e X.env (eval e X.env)) (TP X pins σ Q) X.xe s
/-- a test whatever its 'whole' is (and, or) -/
def PW (X : Cx) (e : Expr) (t : TT) : Prop :=
  ∀ (whole : Sem Value) (pins : List (Addr × Obj)) (s : Shared) (σ : St) (H : Hp) (Q : Bool → Hp → Prop), Inv X pins σ H s → t σ H Q → wpAny (model X.prog X.w) X.A (isTrue e X.env whole) (TP X pins σ Q) X.xe s
theorem PW.pt {X : Cx} {e : Expr} {t : TT} (h : PW X e t) : PT X e t := h _
/-- an argument list (no star), from the left -/
def PA (X : Cx) (es : List Expr) (t : TA) : Prop :=
  ∀ (pos : Pos) (pins : List (Addr × Obj)) (s : Shared) (σ : St) (H : Hp) (Q : List V → Hp → Prop), Inv X pins σ H s → t σ H Q → wpAny (model X.prog X.w) X.A (spliced (backTo pos (starEach es X.env))) (AP X pins σ Q) X.xe s
def PS (X : Cx) (st : Stmt) (t : TS) : Prop :=
  ∀ (pins : List (Addr × Obj)) (s : Shared) (σ : St) (H : Hp) (D : Ends), Inv X pins σ H s → t D σ H → wpAny (model X.prog X.w) X.A (exec st X.env) (SP X pins D) X.xe s
def PSs (X : Cx) (st : List Stmt) (t : TS) : Prop :=
  ∀ (pins : List (Addr × Obj)) (s : Shared) (σ : St) (H : Hp) (D : Ends), Inv X pins σ H s → t D σ H → wpAny (model X.prog X.w) X.A (execs st X.env) (SP X pins D) X.xe s
/-- weaken the end -/
theorem thn {α : Type} {t : Sem α} {Q Q' : α → Shared → Prop} {M : Model} {A : Around} {E : Value → Shared → Prop} {s : Shared} (h : wpAny M A t Q E s) (hQ : ∀ a s, Q a s → Q' a s) : wpAny M A t Q' E s := wpAny_mono h hQ fun _ _ x => x
end L2

namespace L2
open PySem PySem.Spec PyProof.Rows
section
variable {X : Cx}

/-! ### names and constants -/
def tVar (i : Nat) : TE := fun σ H Q => ∃ v, σ[i]? = some (some v) ∧ Q v H
def tC (v : V) : TE := fun _ H Q => Q v H
theorem pe_var {i : Nat} {x : Str} {pos : Pos} (hN : X.N[i]? = some x) (hv : Vis X.env.scope x) (hd : (x == ("__debug__" : Str)) = false := by decide) (hcd : (x == ("__classdict__" : Str)) = false := by decide) : PE X (.Name x pos) (tVar i) := by
  intro pins s σ H Q I h
  obtain ⟨v, e, h⟩ := h
  obtain ⟨m, hn, hl⟩ := I.loc
  obtain ⟨u, r, l⟩ := hl i x v hN e hv
  have fin : EP X pins σ Q u s := ⟨v, H, I, r, h⟩
  rcases l with ⟨hk, hm⟩ | ⟨hk, c, hc, hcell⟩
  · exact wpAny_Name (wpAny_loadName_local I.ok.kind hk hn hm fin) hd
  · rcases hk with hk | hk
    · exact wpAny_Name (wpAny_loadName_cell I.ok.kind hk hc hcell fin) hd
    · exact wpAny_Name (wpAny_loadName_free I.ok.kind hk hc hcell fin hcd) hd
theorem pe_int {i j pos} : PE X (.Constant (.int i) j pos) (tC (.int i)) := fun _ _ _ H _ I h => wpAny_Constant_int ⟨.int i, H, I.tok _, ⟨_, rfl⟩, h⟩
theorem pe_bl {b j pos} : PE X (.Constant (.bool b) j pos) (tC (.bl b)) := fun _ _ _ H _ I h => Constant_bool ⟨.bl b, H, I, rfl, h⟩
theorem pe_non {j pos} : PE X (.Constant .none j pos) (tC .non) := fun _ _ _ H _ I h => Constant_none ⟨.non, H, I, rfl, h⟩
theorem pe_str {x j pos} : PE X (.Constant (.str x) j pos) (tC (.str x)) := fun _ _ _ H _ I h => Calls.Constant_str ⟨.str x, H, I.tok _, ⟨_, rfl⟩, h⟩

/-- a global name of the def -/
def Gl (X : Cx) (x : Str) : Prop := X.env.kindOf x = some .globalImplicit
theorem ld_glob {E : Value → Shared → Prop} {pins : List (Addr × Obj)} {s : Shared} {σ : St} {H : Hp} {x : Str} {u : Value} {pos : Pos} {Q : Value → Shared → Prop} (I : Inv X pins σ H s) (hg : Gl X x) (hm : X.mg x = some u) (h : Q u s)
    (hd : (x == ("__debug__" : Str)) = false := by decide) : wpAny (model X.prog X.w) X.A (eval (.Name x pos) X.env) Q E s :=
  Calls.Name_function_global I.ok.kind hg (Calls.loadGlobal_global (by rw [I.ok.glob]; exact I.mod.glob.keeps I.bk) hm h) hd
theorem ld_blt {E : Value → Shared → Prop} {pins : List (Addr × Obj)} {s : Shared} {σ : St} {H : Hp} {x : Str} {u : Value} {pos : Pos} {Q : Value → Shared → Prop} (I : Inv X pins σ H s) (hg : Gl X x) (hm : X.mg x = none) (hv : bootBuiltins x = some u) (h : Q u s)
    (hn : x ≠ "__name__" := by decide) (hd : (x == ("__debug__" : Str)) = false := by decide) : wpAny (model X.prog X.w) X.A (eval (.Name x pos) X.env) Q E s := by
  obtain ⟨mb, h1, h2⟩ := I.mod.blt
  exact Calls.Name_function_global I.ok.kind hg (Calls.loadGlobal_builtin (by rw [I.ok.glob]; exact I.mod.glob.keeps I.bk) hm (by rw [I.ok.blt]; exact h1.keeps I.bk) ((h2 x hn).trans hv) h) hd
/-- a module's constant, a class, a function, as a value -/
theorem pe_glob {x : Str} {v : V} {u : Value} {pos : Pos} (hg : Gl X x) (hm : X.mg x = some u) (r : RelV v u) (hd : (x == ("__debug__" : Str)) = false := by decide) : PE X (.Name x pos) (tC v) :=
  fun _ _ _ H _ I h => ld_glob I hg hm ⟨v, H, I, r, h⟩ hd
theorem pe_bltn {x : Str} {v : V} {u : Value} {pos : Pos} (hg : Gl X x) (hm : X.mg x = none) (hv : bootBuiltins x = some u) (r : RelV v u) (hn : x ≠ "__name__" := by decide) (hd : (x == ("__debug__" : Str)) = false := by decide) : PE X (.Name x pos) (tC v) :=
  fun _ _ _ H _ I h => ld_blt I hg hm hv ⟨v, H, I, r, h⟩ hn hd

/-! ### arithmetic -/
variable {a b : Expr} {ta tb : TE} {pos : Pos}
/-! ### comparisons -/
/-- a comparison as a value, as a test -/
def tB (t : TE) : TT := fun σ H Q => t σ H fun x H1 => ∃ c, x = .bl c ∧ Q c H1
/-- an expression whose value is a bool, as a test -/
theorem pt_val {e : Expr} {t : TE} (h : PE X e t) (he : ∀ whole, isTrue e X.env whole = (do let v ← whole; standAt e.pos; holding [v] (truthy v)) := by intro _; rfl) : PT X e (tB t) := by
  intro pins s σ H Q I hw
  refine isTrue_plain (thn (h pins s σ H _ I hw) fun v s1 ⟨x, H1, I1, r1, q1⟩ => ?_) (he _)
  obtain ⟨d, rfl, q⟩ := q1
  cases r1
  exact wpAny_truthy_bool ⟨H1, I1, q⟩

/-! ### and, or, not -/
variable {tA tB' : TT} {rest : List Expr}
def tAnd (t u : TT) : TT := fun σ H Q => t σ H fun c H1 => if c = true then u σ H1 Q else Q false H1
def tOr (t u : TT) : TT := fun σ H Q => t σ H fun c H1 => if c = true then Q true H1 else u σ H1 Q
def tNot (t : TT) : TT := fun σ H Q => t σ H fun c H1 => Q (!c) H1
theorem pw_and1 (ha : PT X a tA) : PW X (.BoolOp .And [a] pos) tA := by
  intro wh pins s σ H Q I h
  refine isTrue_and (thn (ha pins s σ H Q I h) fun c s1 e => ?_)
  cases c with
  | true => exact isTrue_and_nil e
  | false => exact e
theorem pw_or1 (ha : PT X a tA) : PW X (.BoolOp .Or [a] pos) tA := by
  intro wh pins s σ H Q I h
  refine isTrue_or (thn (ha pins s σ H Q I h) fun c s1 e => ?_)
  cases c with
  | false => exact isTrue_or_nil e
  | true => exact e
theorem pw_and (ha : PT X a tA) (hb : PW X (.BoolOp .And (b :: rest) pos) tB') : PW X (.BoolOp .And (a :: b :: rest) pos) (tAnd tA tB') := by
  intro wh pins s σ H Q I h
  refine isTrue_and (thn (ha pins s σ H _ I h) fun c s1 ⟨H1, I1, q1⟩ => ?_)
  cases c with
  | true => exact hb wh pins s1 σ H1 Q I1 q1
  | false => exact ⟨H1, I1, q1⟩
theorem pw_or (ha : PT X a tA) (hb : PW X (.BoolOp .Or (b :: rest) pos) tB') : PW X (.BoolOp .Or (a :: b :: rest) pos) (tOr tA tB') := by
  intro wh pins s σ H Q I h
  refine isTrue_or (thn (ha pins s σ H _ I h) fun c s1 ⟨H1, I1, q1⟩ => ?_)
  cases c with
  | true => exact ⟨H1, I1, q1⟩
  | false => exact hb wh pins s1 σ H1 Q I1 q1
theorem pt_not (ha : PT X a tA) : PT X (.UnaryOp .Not a pos) (tNot tA) := by
  intro pins s σ H Q I h
  exact isTrue_not (ha pins s σ H (fun c H1 => Q (!c) H1) I h)
/-- .. as values (bools) -/
def tAndV (ta tb : TE) : TE := fun σ H Q => ta σ H fun x H1 => ∃ c, x = .bl c ∧ if c = true then tb σ H1 Q else Q (.bl false) H1
def tNotV (ta : TE) : TE := fun σ H Q => ta σ H fun x H1 => ∃ c, x = .bl c ∧ Q (.bl (!c)) H1
theorem pe_one {op} {t : TE} (h : PE X a t) : PE X (.BoolOp op [a] pos) t := fun pins s σ H Q I hw => BoolOp_one (h pins s σ H Q I hw)
theorem pe_and (ha : PE X a ta) (hb : PE X (.BoolOp .And (b :: rest) pos) tb) : PE X (.BoolOp .And (a :: b :: rest) pos) (tAndV ta tb) := by
  intro pins s σ H Q I h
  refine BoolOp_and (thn (ha pins s σ H _ I h) fun v s1 ⟨x, H1, I1, r1, q1⟩ => ?_)
  obtain ⟨c, rfl, q1⟩ := q1
  cases r1
  refine wpAny_truthy_bool ?_
  cases c with
  | true => exact hb pins s1 σ H1 Q I1 q1
  | false => exact ⟨.bl false, H1, I1, rfl, q1⟩
theorem pe_not (ha : PE X a ta) : PE X (.UnaryOp .Not a pos) (tNotV ta) := by
  intro pins s σ H Q I h
  refine UnaryOp_ (thn (ha pins s σ H _ I h) fun v s1 ⟨x, H1, I1, r1, q1⟩ => ?_)
  obtain ⟨c, rfl, q1⟩ := q1
  cases r1
  exact not_of (wpAny_truthy_bool ⟨.bl (!c), H1, I1, rfl, q1⟩)
end
end L2

namespace L2
open PySem PySem.Spec PyProof.Rows

/-! ### a list, a tuple that is read: tracked, frozen, or an object of the module -/
def SqL (K : PySem.W.Frag) (H : Hp) (a : Addr) (xs : List V) : Prop :=
  Rd H a (.lst xs) ∨
    ∃ (o : Obj) (its : Array Value) (n : Nat), K.lookup a = some o ∧ o.cls = .type "list" ∧ o.dict = none ∧ o.data = .seq its n ∧ its.size ≤ sizeLine ∧ Vals xs its.toList
def SqT (K : PySem.W.Frag) (H : Hp) (a : Addr) (xs : List V) : Prop :=
  Rd H a (.tup xs) ∨
    ∃ (o : Obj) (its : Array Value) (n : Nat), K.lookup a = some o ∧ o.cls = .type "tuple" ∧ o.data = .seq its n ∧ its.size ≤ sizeLine ∧ Vals xs its.toList
def absV : Value → Option V
  | .none => some .non
  | .bool b => some (.bl b)
  | .int i _ => some (.int i)
  | .str x _ => some (.str x)
  | .bytes b _ => some (.byt b)
  | .float b _ => some (.flt b)
  | .ref a => some (.ref a)
  | .type n => some (.ty n)
  | _ => none
theorem RelV.abs {x : V} {u : Value} (r : RelV x u) : absV u = some x := by
  cases x with
  | non => cases r; rfl
  | bl _ => cases r; rfl
  | int _ => obtain ⟨t, rfl⟩ := r; rfl
  | str _ => obtain ⟨t, rfl⟩ := r; rfl
  | byt _ => obtain ⟨t, rfl⟩ := r; rfl
  | flt _ => obtain ⟨t, rfl⟩ := r; rfl
  | ref _ => cases r; rfl
  | ty _ => cases r; rfl
theorem RelV.inj {x y : V} {u : Value} (r : RelV x u) (q : RelV y u) : x = y := Option.some.inj (r.abs.symm.trans q.abs)
theorem Vals.inj : ∀ {xs ys : List V} {us : List Value}, Vals xs us → Vals ys us → xs = ys
  | _, _, _, .nil, .nil => rfl
  | _, _, _, .cons r t, .cons r' t' => by rw [r.inj r', Vals.inj t t']
section
variable {X : Cx} {pins : List (Addr × Obj)} {σ : St} {H : Hp} {s : Shared} {a : Addr} {xs ys : List V}
theorem SqL.of {K : PySem.W.Frag} (h : H a = some (.lst xs)) : SqL K H a xs := .inl (.inl h)
theorem SqT.of {K : PySem.W.Frag} (h : H a = some (.tup xs)) : SqT K H a xs := .inl (.inl h)
theorem Inv.list (I : Inv X pins σ H s) (h : SqL X.K H a xs) : ∃ its : List Value, Vals xs its ∧ PlainL s.heap a its.toArray ∧ xs.length ≤ sizeLine := by
  rcases h with h | ⟨o, its, n, hk, hc, hd, hs, hz, r⟩
  · obtain ⟨z, its, n, r, e⟩ := h.ok I.hok
    exact ⟨its, r, ⟨_, n, e, rfl, rfl, rfl⟩, z⟩
  · refine ⟨its.toList, r, ⟨o, n, I.kIn a o hk, hc, hd, by simpa using hs⟩, ?_⟩
    have e := r.length
    simp only [Array.length_toList] at e
    omega
theorem Inv.tuple (I : Inv X pins σ H s) (h : SqT X.K H a xs) : ∃ its : List Value, Vals xs its ∧ IsTup s.heap a its.toArray ∧ xs.length ≤ sizeLine := by
  rcases h with h | ⟨o, its, n, hk, hc, hs, hz, r⟩
  · obtain ⟨z, its, r, p⟩ := h.ok I.hok
    exact ⟨its, r, p, z⟩
  · refine ⟨its.toList, r, ⟨o, I.kIn a o hk, hc, n, by simpa using hs⟩, ?_⟩
    have e := r.length
    simp only [Array.length_toList] at e
    omega
theorem Inv.list_inj (I : Inv X pins σ H s) (h : SqL X.K H a xs) (h' : SqL X.K H a ys) : xs = ys := by
  obtain ⟨its, r, ⟨o, n, e, _, _, d⟩, _⟩ := I.list h
  obtain ⟨its', r', ⟨o', n', e', _, _, d'⟩, _⟩ := I.list h'
  rw [e] at e'; cases e'
  rw [d] at d'
  injection d' with d1 _
  have : its = its' := by simpa using congrArg Array.toList d1
  subst this
  exact r.inj r'
theorem Inv.tuple_inj (I : Inv X pins σ H s) (h : SqT X.K H a xs) (h' : SqT X.K H a ys) : xs = ys := by
  obtain ⟨its, r, ⟨o, e, _, n, d⟩, _⟩ := I.tuple h
  obtain ⟨its', r', ⟨o', e', _, n', d'⟩, _⟩ := I.tuple h'
  rw [e] at e'; cases e'
  rw [d] at d'
  injection d' with d1 _
  have : its = its' := by simpa using congrArg Array.toList d1
  subst this
  exact r.inj r'
end

/-! ### another wish about exceptions -/
abbrev Cx.wish (X : Cx) (E : Value → Shared → Prop) : Cx := { X with xe := E }
/-- no exception leaves -/
abbrev Cx.nox (X : Cx) : Cx := X.wish fun _ _ => False
theorem Cx.Ok.wish {X : Cx} (ok : X.Ok) (E : Value → Shared → Prop) : (X.wish E).Ok :=
  ⟨ok.mod, ok.kind, ok.glob, ok.blt, ok.above, ok.inj, ok.has, ok.cab, ok.hd, ok.frames, ok.stk, ok.exf, ok.bs, ok.bsz, ok.noex, ok.exfs, ok.funs, ok.frf⟩
theorem Cx.Ok.unwish {X : Cx} {E : Value → Shared → Prop} (ok : (X.wish E).Ok) : X.Ok :=
  ⟨ok.mod, ok.kind, ok.glob, ok.blt, ok.above, ok.inj, ok.has, ok.cab, ok.hd, ok.frames, ok.stk, ok.exf, ok.bs, ok.bsz, ok.noex, ok.exfs, ok.funs, ok.frf⟩
section
variable {X : Cx} {pins : List (Addr × Obj)} {σ : St} {H : Hp} {s : Shared} {E : Value → Shared → Prop}
theorem Inv.wish (I : Inv X pins σ H s) (E : Value → Shared → Prop) : Inv (X.wish E) pins σ H s := ⟨I.ok.wish E, I.os, I.bare, I.base, I.loc, I.cell, I.free, I.freeC, I.pin, I.hok, I.len⟩
theorem Inv.unwish (I : Inv (X.wish E) pins σ H s) : Inv X pins σ H s := ⟨I.ok.unwish, I.os, I.bare, I.base, I.loc, I.cell, I.free, I.freeC, I.pin, I.hok, I.len⟩
theorem SP.unwish {D : Ends} {f : Flow} {s' : Shared} (h : SP (X.wish E) pins D f s') : SP X pins D f s' := by
  cases f with
  | next => obtain ⟨σ', H', I, q⟩ := h; exact ⟨σ', H', I.unwish, q⟩
  | brk => obtain ⟨σ', H', I, q⟩ := h; exact ⟨σ', H', I.unwish, q⟩
  | cont => obtain ⟨σ', H', I, q⟩ := h; exact ⟨σ', H', I.unwish, q⟩
  | ret u => obtain ⟨v, σ', H', I, r, q⟩ := h; exact ⟨v, σ', H', I.unwish, r, q⟩
theorem PSs.nox {st : List Stmt} {t : TS} (h : PSs X.nox st t) : PSs X st t := fun pins s σ H D I hw =>
  wpAny_mono (h pins s σ H D (I.wish _) hw) (fun _ _ q => q.unwish) fun _ _ z => False.elim z
end

/-! ### blocks and small statements -/
section
variable {X : Cx} {st : Stmt} {rest : List Stmt} {t u : TS} {e : Expr} {te : TE} {pos : Pos}
def tNext : TS := fun D σ H => D.nx σ H
def tSeq (t u : TS) : TS := fun D σ H => t { D with nx := u D } σ H
theorem pss_nil : PSs X [] tNext := fun _ _ σ H _ I h => wpAny_execs_nil ⟨σ, H, I, h⟩
theorem pss_cons (h1 : PS X st t) (h2 : PSs X rest u) : PSs X (st :: rest) (tSeq t u) := by
  intro pins s σ H D I h
  refine wpAny_execs_cons (thn (h1 pins s σ H { D with nx := u D } I h) fun f s1 q => ?_)
  cases f with
  | next =>
    obtain ⟨σ', H', I', q⟩ := q
    exact h2 pins s1 σ' H' D I' q
  | ret v => exact q
  | brk => exact q
  | cont => exact q
/-- in a def's body nothing is shown -/
theorem Inv.quiet {pins : List (Addr × Obj)} {σ : St} {H : Hp} {s : Shared} (I : Inv X pins σ H s) : interactive X.env = false := by simp [interactive, I.ok.kind]
/-- an expression whose value is dropped -/
def tDrop (te : TE) : TS := fun D σ H => te σ H fun _ H1 => D.nx σ H1
theorem ps_expr (he : PE X e te) (hs : swapsWith e none pos.line X.env = pure false := by rfl) : PS X (.Expr e pos) (tDrop te) := by
  intro pins s σ H D I h
  exact wpAny_Expr_any (thn (he pins s σ H _ I h) fun v s1 ⟨x, H1, I1, r1, q1⟩ => ⟨σ, H1, I1, q1⟩) I.quiet hs
def tRet (te : TE) : TS := fun D σ H => te σ H D.rt
theorem ps_ret (he : PE X e te) : PS X (.Return (some e) pos) (tRet te) := by
  intro pins s σ H D I h
  exact wpAny_Return_some (thn (he pins s σ H _ I h) fun v s1 ⟨x, H1, I1, r1, q1⟩ => ⟨x, σ, H1, I1, r1, q1⟩)
def tIfS (c : TT) (t u : TS) : TS := fun D σ H => c σ H fun b H1 => if b = true then t D σ H1 else u D σ H1
theorem ps_if {c : Expr} {a b : List Stmt} {tc : TT} (hc : PT X c tc) (ha : PSs X a t) (hb : PSs X b u) : PS X (.If c a b pos) (tIfS tc t u) := by
  intro pins s σ H D I h
  refine wpAny_If (thn (hc pins s σ H _ I h) fun d s1 ⟨H1, I1, q1⟩ => ?_)
  cases d with
  | true => exact ha pins s1 σ H1 D I1 q1
  | false => exact hb pins s1 σ H1 D I1 q1
end

/-! ### targets -/
abbrev TG := V → St → Hp → (St → Hp → Prop) → Prop
abbrev TGs := List V → St → Hp → (St → Hp → Prop) → Prop
def PG (X : Cx) (target : Expr) (t : TG) : Prop :=
  ∀ (pins : List (Addr × Obj)) (s : Shared) (σ : St) (H : Hp) (v : V) (u : Value) (Q : St → Hp → Prop), Inv X pins σ H s → RelV v u → t v σ H Q →
    wpAny (model X.prog X.w) X.A (assign target X.env u) (fun _ s' => ∃ σ' H', Inv X pins σ' H' s' ∧ Q σ' H') X.xe s
/-- several targets, one after another -/
def PGs (X : Cx) (ts : List Expr) (t : TGs) : Prop :=
  ∀ (pins : List (Addr × Obj)) (s : Shared) (σ : St) (H : Hp) (vs : List V) (us : List Value) (Q : St → Hp → Prop), Inv X pins σ H s → Vals vs us → t vs σ H Q →
    wpAny (model X.prog X.w) X.A (assignInOrder ((assignEach ts X.env).map (·.2)) us) (fun _ s' => ∃ σ' H', Inv X pins σ' H' s' ∧ Q σ' H') X.xe s
/-- o[i] = v, by values -/
abbrev TSet := V → V → V → Hp → (Hp → Prop) → Prop
def PSet (X : Cx) (t : TSet) : Prop :=
  ∀ (pins : List (Addr × Obj)) (s : Shared) (σ : St) (H : Hp) (o i v : V) (ov iv u : Value) (Q : Hp → Prop), Inv X pins σ H s → RelV o ov → RelV i iv → RelV v u → t o i v H Q →
    wpAny (model X.prog X.w) X.A (setItem ov iv u) (fun _ s' => ∃ H', Inv X pins σ H' s' ∧ Q H') X.xe s
section
variable {X : Cx} {pos : Pos}
def gName (i : Nat) : TG := fun v σ H Q => Q (σ.set i (some v)) H
theorem pg_name {i : Nat} {x : Str} (hN : X.N.Nodup) (hi : X.N[i]? = some x) (hx : Loc X.env.scope x) (hf : X.fn x = true ∨ X.env.scope.names.lookup x = some .local := by first | exact .inl rfl | exact .inr rfl | assumption) : PG X (.Name x pos) (gName i) := by
  intro pins s σ H v u Q I r h
  exact wpAny_assign_Name (store_ok I hN hi hx r (fun s' I' => ⟨_, H, I', h⟩) hf)
def gNil : TGs := fun vs σ H Q => vs = [] ∧ Q σ H
def gCons (t : TG) (u : TGs) : TGs := fun vs σ H Q => ∃ v r, vs = v :: r ∧ t v σ H fun σ' H' => u r σ' H' Q
theorem pgs_nil : PGs X [] gNil := by
  intro pins s σ H vs us Q I r h
  obtain ⟨e, h⟩ := h
  subst e
  cases r
  exact assignInOrder_nil ⟨σ, H, I, h⟩
theorem pgs_cons {e : Expr} {es : List Expr} {t : TG} {u : TGs} (h1 : PG X e t) (h2 : PGs X es u)
    (hs : (assignEach (e :: es) X.env).map (·.2) = assign e X.env :: (assignEach es X.env).map (·.2) := by rfl) : PGs X (e :: es) (gCons t u) := by
  intro pins s σ H vs us Q I r h
  obtain ⟨v, vr, e1, h⟩ := h
  subst e1
  cases r with
  | cons r rr =>
    rw [hs]
    refine assignInOrder_cons (thn (h1 pins s σ H _ _ _ I r h) fun _ s1 ⟨σ1, H1, I1, q1⟩ => ?_)
    exact h2 pins s1 σ1 H1 _ _ Q I1 rr q1
/-- (a, b, ..) = a tuple of that length -/
def gTup (K : PySem.W.Frag) (n : Nat) (t : TGs) : TG := fun v σ H Q => ∃ a xs, v = .ref a ∧ SqT K H a xs ∧ xs.length = n ∧ t xs σ H Q
theorem pg_tup {es : List Expr} {k : Nat} {t : TGs} {n : Nat} (hc : X.calm = true) (h : PGs X es t)
    (hn : (assignEach es X.env).length = n := by rfl) (hst : (assignEach es X.env).findIdx? (·.1) = none := by rfl) : PG X (.Tuple es k pos) (gTup X.K n t) := by
  intro pins s σ H v u Q I r hw
  obtain ⟨a, xs, e1, hq, hl, hw⟩ := hw
  subst e1
  cases r
  obtain ⟨its, rv, ht, hz⟩ := I.tuple hq
  refine assign_Tuple_tuple (I.ok.hd hc) ht (by simp [hn, ← hl, rv.length]) hst fun h' hx => ?_
  have I1 : Inv X pins σ H { s with heap := h' } := I.kept (t' := s.toks) fun b o e => hx b o (Nat.ne_of_lt (Heap.lt_size e)) e
  exact h pins _ σ H xs _ Q I1 (by simpa using rv) hw
/-- o[i] = .. -/
def gSub (to ti : TE) (t : TSet) : TG := fun v σ H Q => to σ H fun o H1 => ti σ H1 fun i H2 => t o i v H2 fun H3 => Q σ H3
theorem pg_sub {o i : Expr} {to ti : TE} {t : TSet} (ho : PE X o to) (hi : PE X i ti) (hs : PSet X t)
    (ha : ∀ v, assign (.Subscript o i pos) X.env v = (do
      let ov ← holding [v] (eval o X.env)
      let iv ← holding [v, ov] (eval i X.env)
      standAt pos
      holding [v, ov, iv] (setItem ov iv v)
      release [v, ov, iv] []) := by intro _; rfl) : PG X (.Subscript o i pos) (gSub to ti t) := by
  intro pins s σ H v u Q I r h
  rw [ha]
  refine wpAny_bind (wpAny_holding (thn (ho pins s σ H _ I h) fun ov s1 ⟨x, H1, I1, r1, q1⟩ => ?_))
  refine wpAny_bind (wpAny_holding (thn (hi pins s1 σ H1 _ I1 q1) fun iv s2 ⟨y, H2, I2, r2, q2⟩ => ?_))
  refine wpAny_bind (wpAny_standAt (wpAny_bind (wpAny_holding (thn (hs pins s2 σ H2 x y v ov iv u _ I2 r1 r2 r q2) fun _ s3 ⟨H3, I3, q3⟩ => ?_))))
  exact wpAny_release ⟨σ, H3, I3, q3⟩
/-- target = value -/
def tAsg (te : TE) (g : TG) : TS := fun D σ H => te σ H fun x H1 => g x σ H1 D.nx
theorem ps_asg {tg e : Expr} {te : TE} {g : TG} (he : PE X e te) (hg : PG X tg g) (hs : swapsWithSole [tg] e pos.line X.env = pure false := by rfl) (hw : swappedStores [tg] e X.env = pure none := by rfl)
    (h1 : (assignEach [tg] X.env).map (·.2) = [assign tg X.env] := by rfl) : PS X (.Assign [tg] e pos) (tAsg te g) := by
  intro pins s σ H D I h
  refine wpAny_Assign_stores (thn (he pins s σ H _ I h) fun v s1 ⟨x, H1, I1, r1, q1⟩ => ?_) hs hw
  rw [h1]
  exact thn (hg pins s1 σ H1 x v _ I1 r1 q1) fun _ s2 q => q
/-- name = value -/
theorem ps_set {i : Nat} {x : Str} {e : Expr} {te : TE} {pos' : Pos} (hN : X.N.Nodup) (hi : X.N[i]? = some x) (hx : Loc X.env.scope x) (he : PE X e te) (hs : swapsWith e (some (.Name x pos')) pos.line X.env = pure false := by rfl) (hf : X.fn x = true ∨ X.env.scope.names.lookup x = some .local := by first | exact .inl rfl | exact .inr rfl | assumption) :
    PS X (.Assign [.Name x pos'] e pos) (tAsg te (gName i)) := by
  intro pins s σ H D I h
  refine wpAny_Assign_Name (thn (he pins s σ H _ I h) fun v s1 ⟨y, H1, I1, r1, q1⟩ => ?_) hs
  exact store_ok I1 hN hi hx r1 (fun s2 I2 => ⟨_, H1, I2, q1⟩) hf
end

/-! ### while -/
section
variable {X : Cx} {pos : Pos}
end

/-! ### what a loop or a comprehension walks -/
/-- at turn i: it yields x (the heap may grow), or it stops -/
structure It where
  go : Nat → Hp → Prop
  yld : Nat → Hp → V → Hp → Prop
  stop : Nat → Hp → Prop
/-- the iterator's own objects may turn: they are not the frame's, not pinned, younger than the entry (or a comprehension's own) -/
def FpOk (X : Cx) (pins : List (Addr × Obj)) (H : Hp) (b : Addr) : Prop :=
  H b = none ∧ b ≠ X.env.locals ∧ b ∉ X.fs ∧ (b ∈ X.ex ∨ X.s₀.heap.objs.size ≤ b) ∧ (∀ x c, X.env.cells.lookup x = some c → c ≠ b) ∧ ∀ p ∈ X.pn ++ pins, p.1 ≠ b
theorem Inv.fpOk {X : Cx} {pins : List (Addr × Obj)} {σ : St} {H H' : Hp} {s : Shared} {b : Addr} (I : Inv X pins σ H s) (hb : s.heap.objs.size ≤ b) (hn : H' b = none) : FpOk X pins H' b := by
  refine ⟨hn, Nat.ne_of_gt (Nat.lt_of_lt_of_le I.lt hb), I.nofs hb, .inr (Nat.le_trans I.sz hb), fun x c e z => ?_, fun p hp z => ?_⟩
  · obtain ⟨v, q⟩ := I.cell x c e
    exact absurd (Nat.lt_of_lt_of_le q.lt (by rw [z]; exact hb)) (Nat.lt_irrefl _)
  · exact absurd (Nat.lt_of_lt_of_le (Heap.lt_size (I.pin p hp).1) (by rw [z]; exact hb)) (Nat.lt_irrefl _)
structure Turn (P : Program) (w : World) (K : PySem.W.Frag) (tg : Expr) (J : It) (fp : List Addr) (it : Addr) (tn : Nat → Heap → Prop) : Prop where
  mem : it ∈ fp
  obj : ∀ i h, tn i h → ∀ b ∈ fp, ∃ o, h.get? b = some o ∧ ∀ v, o.data ≠ .cell v
  keep : ∀ i h h', tn i h → (∀ b ∈ fp, ∀ o, h.get? b = some o → h'.get? b = some o) → tn i h'
  item : ∀ (X : Cx), X.prog = P → X.w = w → X.K = K → X.calm = true → ∀ (i : Nat) (pins : List (Addr × Obj)) (s : Shared) (σ : St) (H : Hp) (E : Value → Shared → Prop), Inv X pins σ H s → (∀ b ∈ fp, FpOk X pins H b) → tn i s.heap → J.go i H →
    wpAny (model P w) X.A (pyNext (.ref it)) (fun r s1 => ∃ u, r = some u ∧
      wpAny (model P w) X.A (letOwnedTupleGo tg (.ref it) u) (fun _ s2 => ∃ x H', Inv X pins σ H' s2 ∧ RelV x u ∧ J.yld i H x H' ∧ tn (i + 1) s2.heap ∧ ∀ b ∈ fp, H' b = none) E s1) E s
  done : ∀ (X : Cx), X.prog = P → X.w = w → X.K = K → X.calm = true → ∀ (i : Nat) (pins : List (Addr × Obj)) (s : Shared) (σ : St) (H : Hp) (E : Value → Shared → Prop), Inv X pins σ H s → (∀ b ∈ fp, FpOk X pins H b) → tn i s.heap → J.stop i H →
    wpAny (model P w) X.A (pyNext (.ref it)) (fun r s1 => r = none ∧ Inv X pins σ H s1) E s
  self : ∀ (A : Around) (i : Nat) (s : Shared) (Q : Value → Shared → Prop) (E : Value → Shared → Prop), tn i s.heap → Q (.ref it) s → wpAny (model P w) A (pyIter (.ref it)) Q E s
abbrev TI := St → Hp → (It → Hp → Prop) → Prop
/-- an iterator has come -/
def PIE (X : Cx) (pins : List (Addr × Obj)) (σ : St) (tg : Expr) (R : It → Hp → Prop) (itv : Value) (s2 : Shared) : Prop :=
  ∃ (it : Addr) (fp : List Addr) (tn : Nat → Heap → Prop) (J : It) (H' : Hp), itv = .ref it ∧ Inv X pins σ H' s2 ∧ Turn X.prog X.w X.K tg J fp it tn ∧ tn 0 s2.heap ∧ (∀ b ∈ fp, FpOk X pins H' b) ∧ R J H'
def PI (X : Cx) (tg iter : Expr) (wi : TI) : Prop :=
  ∀ (pins : List (Addr × Obj)) (s : Shared) (σ : St) (H : Hp) (R : It → Hp → Prop), Inv X pins σ H s → wi σ H R →
    wpAny (model X.prog X.w) X.A (eval iter X.env) (fun v s1 => wpAny (model X.prog X.w) X.A (pyIter v) (PIE X pins σ tg R) X.xe s1) X.xe s

/-- the step ahead of the store is nothing for an iterator that keeps no tuple -/
theorem go_of {M : Model} {A : Around} {E : Value → Shared → Prop} {s : Shared} {tg : Expr} {it : Addr} {u : Value} {o : Obj} {n : String} {vs : Array Value} {Q : Unit → Shared → Prop} (ho : s.heap.get? it = some o) (hc : o.cls = .type n) (hd : o.data = .fields vs)
    (hn : ["enumerate", "zip", "dict_itemiterator", "dict_reverseitemiterator", "odict_iterator", "itertools.zip_longest", "itertools.pairwise"].contains n = false) (hQ : Q () s) : wpAny M A (letOwnedTupleGo tg (.ref it) u) Q E s := by
  unfold letOwnedTupleGo
  cases tg <;> first
    | exact wpAny_pure hQ
    | (cases u <;> first
        | exact wpAny_pure hQ
        | (refine wpAny_bind (wpAny_load ho ?_)
           rw [hc, hd]
           show wpAny M A (if (["enumerate", "zip", "dict_itemiterator", "dict_reverseitemiterator", "odict_iterator", "itertools.zip_longest", "itertools.pairwise"].contains n && vs[0]? == some (rawInt _)) = true then _ else _) Q E s
           rw [if_neg (by intro h; rw [hn, Bool.false_and] at h; cases h)]
           exact wpAny_pure hQ))

/-- the list at a, as it stands at each turn (a loop may append to it) -/
def Itl (K : PySem.W.Frag) (a : Addr) : It :=
  ⟨fun i H => ∃ xs x, SqL K H a xs ∧ xs[i]? = some x, fun i H x H' => H' = H ∧ ∀ xs, SqL K H a xs → xs[i]? = some x, fun i H => ∃ xs, SqL K H a xs ∧ xs.length ≤ i⟩
def Itt (K : PySem.W.Frag) (a : Addr) : It :=
  ⟨fun i H => ∃ xs x, SqT K H a xs ∧ xs[i]? = some x, fun i H x H' => H' = H ∧ ∀ xs, SqT K H a xs → xs[i]? = some x, fun i H => ∃ xs, SqT K H a xs ∧ xs.length ≤ i⟩
/-- lo, lo + 1, .. (n of them) -/
def Itr (lo : Int) (n : Nat) : It := ⟨fun i _ => i < n, fun i H x H' => H' = H ∧ x = .int (lo + i), fun i _ => n ≤ i⟩
theorem turn_list {P : Program} {w : World} {K : PySem.W.Frag} {tg : Expr} (a it : Addr) : Turn P w K tg (Itl K a) [it] it (fun i h => h.IsListIter it a i) where
  mem := by simp
  obj := fun i h st b hb => by
    have e : b = it := by simpa using hb
    subst e
    obtain ⟨o, e, c, d⟩ := st
    exact ⟨o, e, fun v z => by rw [d] at z; cases z⟩
  keep := fun i h h' st k => st.at fun o e => k it (by simp) o e
  item := by
    intro X hP hw hK hc i pins s σ H E I hf st hg
    subst hP hw hK
    obtain ⟨xs, x, hq, hx⟩ := hg
    obtain ⟨its, rv, p, hz⟩ := I.list hq
    obtain ⟨u, hu, ru⟩ := rv.get hx
    obtain ⟨f0, f1, f2, f3, f4, f5⟩ := hf it (by simp)
    refine wpAny_pyNext_list_item st p.isList (x := u) (by simpa using hu) fun h' st' sb => ?_
    have I1 : Inv X pins σ H { s with heap := h' } := I.turned (t' := s.toks) (fun b o hb e => (sb.2 b hb).trans e) f0 f1 f3 f4 f5
    obtain ⟨o, e, c, d⟩ := id st'
    exact ⟨u, rfl, go_of (s := { s with heap := h' }) e c d (by decide) ⟨x, H, I1, ru, ⟨rfl, fun ys hy => by rw [I.list_inj hy hq]; exact hx⟩, st', fun b hb => (hf b hb).1⟩⟩
  done := by
    intro X hP hw hK hc i pins s σ H E I hf st hg
    subst hP hw hK
    obtain ⟨xs, hq, hx⟩ := hg
    obtain ⟨its, rv, p, hz⟩ := I.list hq
    obtain ⟨f0, f1, f2, f3, f4, f5⟩ := hf it (by simp)
    have hl := rv.length
    exact wpAny_pyNext_list_end (I.ok.hd hc) st p.isList (by simp; omega) fun h' eb => ⟨rfl, I.turned (t' := s.toks) (fun b o hb e => eb b o hb e) f0 f1 f3 f4 f5⟩
  self := fun _ _ _ _ _ st h => wpAny_pyIter_listiter st h
theorem turn_tuple {P : Program} {w : World} {K : PySem.W.Frag} {tg : Expr} (a it : Addr) : Turn P w K tg (Itt K a) [it] it (fun i h => h.IsTupleIter it a i) where
  mem := by simp
  obj := fun i h st b hb => by
    have e : b = it := by simpa using hb
    subst e
    obtain ⟨o, e, c, d⟩ := st
    exact ⟨o, e, fun v z => by rw [d] at z; cases z⟩
  keep := fun i h h' st k => st.at fun o e => k it (by simp) o e
  item := by
    intro X hP hw hK hc i pins s σ H E I hf st hg
    subst hP hw hK
    obtain ⟨xs, x, hq, hx⟩ := hg
    obtain ⟨its, rv, p, hz⟩ := I.tuple hq
    obtain ⟨u, hu, ru⟩ := rv.get hx
    obtain ⟨f0, f1, f2, f3, f4, f5⟩ := hf it (by simp)
    refine wpAny_pyNext_tuple_item st (show s.heap.IsTuple a its.toArray from p) (x := u) (by simpa using hu) fun h' st' sb => ?_
    have I1 : Inv X pins σ H { s with heap := h' } := I.turned (t' := s.toks) (fun b o hb e => (sb.2 b hb).trans e) f0 f1 f3 f4 f5
    obtain ⟨o, e, c, d⟩ := id st'
    exact ⟨u, rfl, go_of (s := { s with heap := h' }) e c d (by decide) ⟨x, H, I1, ru, ⟨rfl, fun ys hy => by rw [I.tuple_inj hy hq]; exact hx⟩, st', fun b hb => (hf b hb).1⟩⟩
  done := by
    intro X hP hw hK hc i pins s σ H E I hf st hg
    subst hP hw hK
    obtain ⟨xs, hq, hx⟩ := hg
    obtain ⟨its, rv, p, hz⟩ := I.tuple hq
    obtain ⟨f0, f1, f2, f3, f4, f5⟩ := hf it (by simp)
    have hl := rv.length
    exact wpAny_pyNext_tuple_end (I.ok.hd hc) st (show s.heap.IsTuple a its.toArray from p) (by simp; omega) fun h' eb => ⟨rfl, I.turned (t' := s.toks) (fun b o hb e => eb b o hb e) f0 f1 f3 f4 f5⟩
  self := fun _ _ _ _ _ st h => wpAny_pyIter_tupleiter st h
theorem turn_range {P : Program} {w : World} {K : PySem.W.Frag} {tg : Expr} (it : Addr) (lo : Int) (n : Nat) : Turn P w K tg (Itr lo n) [it] it (fun i h => IsRangeIter h it (lo + (i : Nat) * 1) ((n : Int) - (i : Nat)) 1) where
  mem := by simp
  obj := fun i h st b hb => by
    have e : b = it := by simpa using hb
    subst e
    exact ⟨_, st, fun v z => by
      have z' : Data.fields _ = Data.cell v := z
      cases z'⟩
  keep := fun i h h' st k => k it (by simp) _ st
  item := by
    intro X hP hw hK hc i pins s σ H E I hf st hg
    subst hP hw hK
    obtain ⟨f0, f1, f2, f3, f4, f5⟩ := hf it (by simp)
    have W := Walks.range (prog := X.prog) (w := X.w) (I.ok.hd hc) it lo 1 n
    refine W.item i s _ _ hg st fun v h' tk hv st' kk => ?_
    obtain ⟨t, rfl⟩ := hv
    have I1 : Inv X pins σ H { s with heap := h', toks := tk } := I.turned (fun b o hb e => kk b o (by simpa using hb) e) f0 f1 f3 f4 f5
    refine ⟨_, rfl, go_of (s := { s with heap := h', toks := tk }) (n := "range_iterator") st' rfl rfl (by decide) ⟨.int (lo + i), H, I1, ⟨t, ?_⟩, ⟨rfl, rfl⟩, st', fun b hb => (hf b hb).1⟩⟩
    rw [Int.mul_one]
  done := by
    intro X hP hw hK hc i pins s σ H E I hf st hg
    subst hP hw hK
    obtain ⟨f0, f1, f2, f3, f4, f5⟩ := hf it (by simp)
    exact wpAny_pyNext_range_end (I.ok.hd hc) st (by have : n ≤ i := hg; omega) fun h' eb => ⟨rfl, I.turned (t' := s.toks) (fun b o hb e => eb b o hb e) f0 f1 f3 f4 f5⟩
  self := fun _ _ _ _ _ st h => wpAny_pyIter_rangeiter st h
end L2

namespace L2
open PySem PySem.Spec PyProof.Rows
section
variable {X : Cx} {tg : Expr}
def iList (K : PySem.W.Frag) (tl : TE) : TI := fun σ H R => tl σ H fun x H1 => ∃ a, x = .ref a ∧ (∃ xs, SqL K H1 a xs) ∧ R (Itl K a) H1
def iTup (K : PySem.W.Frag) (tl : TE) : TI := fun σ H R => tl σ H fun x H1 => ∃ a, x = .ref a ∧ (∃ xs, SqT K H1 a xs) ∧ R (Itt K a) H1
theorem pi_list {l : Expr} {tl : TE} (hl : PE X l tl) : PI X tg l (iList X.K tl) := by
  intro pins s σ H R I h
  refine thn (hl pins s σ H _ I h) fun v s1 ⟨x, H1, I1, r1, q1⟩ => ?_
  obtain ⟨a, e, ⟨xs, hq⟩, q⟩ := q1
  subst e
  cases r1
  obtain ⟨its, rv, p, hz⟩ := I1.list hq
  refine wpAny_pyIter_list p.isList ?_
  refine ⟨s1.heap.objs.size, [s1.heap.objs.size], _, _, H1, rfl, I1.kept (t' := s1.toks) fun b o e => Heap.get?_push_of_some _ e, turn_list a _, ⟨_, Heap.get?_push_size _ rfl, rfl, rfl⟩, fun b hb => ?_, q⟩
  have e : b = s1.heap.objs.size := by simpa using hb
  subst e
  exact I1.fpOk (Nat.le_refl _) (I1.hok.fresh (Nat.le_refl _))
theorem pi_tup {l : Expr} {tl : TE} (hl : PE X l tl) : PI X tg l (iTup X.K tl) := by
  intro pins s σ H R I h
  refine thn (hl pins s σ H _ I h) fun v s1 ⟨x, H1, I1, r1, q1⟩ => ?_
  obtain ⟨a, e, ⟨xs, hq⟩, q⟩ := q1
  subst e
  cases r1
  obtain ⟨its, rv, p, hz⟩ := I1.tuple hq
  refine wpAny_pyIter_tuple (show s1.heap.IsTuple a its.toArray from p) ?_
  refine ⟨s1.heap.objs.size, [s1.heap.objs.size], _, _, H1, rfl, I1.kept (t' := s1.toks) fun b o e => Heap.get?_push_of_some _ e, turn_tuple a _, ⟨_, Heap.get?_push_size _ rfl, rfl, rfl⟩, fun b hb => ?_, q⟩
  have e : b = s1.heap.objs.size := by simpa using hb
  subst e
  exact I1.fpOk (Nat.le_refl _) (I1.hok.fresh (Nat.le_refl _))
/-- a range object just made, walked -/
theorem range_it {pins : List (Addr × Obj)} {σ : St} {H : Hp} {s : Shared} {R : It → Hp → Prop} {E : Value → Shared → Prop} {lo hi : Int} {t u v : Tok} {tk : Nat} (I : Inv X pins σ H s) (h1 : -(2 ^ 62) ≤ lo) (h2 : lo < 2 ^ 62) (h3 : -(2 ^ 62) ≤ hi) (h4 : hi < 2 ^ 62)
    (q : R (Itr lo (hi - lo).toNat) H) : wpAny (model X.prog X.w) X.A (pyIter (.ref s.heap.objs.size)) (PIE X pins σ tg R) E { s with heap := s.heap.push { cls := .type "range", data := .fields #[.int lo t, .int hi u, .int 1 v] }, toks := tk } := by
  refine wpAny_pyIter_range (IsRange.new ..) (small_one h1 h2 h3 h4) ?_
  have I1 : Inv X pins σ H { s with heap := s.heap.push { cls := .type "range", data := .fields #[.int lo t, .int hi u, .int 1 v] }, toks := tk } := I.kept fun b o e => Heap.get?_push_of_some _ e
  refine ⟨(s.heap.push { cls := .type "range", data := .fields #[.int lo t, .int hi u, .int 1 v] }).objs.size, [(s.heap.push { cls := .type "range", data := .fields #[.int lo t, .int hi u, .int 1 v] }).objs.size], _, _, H, rfl,
    I1.kept (t' := tk) fun b o e => Heap.get?_push_of_some _ e, turn_range _ lo (hi - lo).toNat, ?_, fun b hb => ?_, q⟩
  · have e1 : lo + ((0 : Nat) : Int) * 1 = lo := by simp
    have e2 : (((hi - lo).toNat : Nat) : Int) - ((0 : Nat) : Int) = Builtin.Range.rangeSize lo hi 1 := by rw [rangeSize_one]; split <;> omega
    show IsRangeIter _ _ (lo + ((0 : Nat) : Int) * 1) ((((hi - lo).toNat : Nat) : Int) - ((0 : Nat) : Int)) 1
    rw [e1, e2]
    exact Heap.get?_push_size _ rfl
  · have e : b = (s.heap.push { cls := .type "range", data := .fields #[.int lo t, .int hi u, .int 1 v] }).objs.size := by simpa using hb
    subst e
    exact I1.fpOk (Nat.le_refl _) (I1.hok.fresh (Nat.le_refl _))
def iRng1 (ta : TA) : TI := fun σ H R => ta σ H fun vs H1 => ∃ j : Int, vs = [.int j] ∧ -(2 ^ 62) ≤ j ∧ j < 2 ^ 62 ∧ R (Itr 0 j.toNat) H1
def iRng2 (ta : TA) : TI := fun σ H R => ta σ H fun vs H1 => ∃ i j : Int, vs = [.int i, .int j] ∧ (-(2 ^ 62) ≤ i ∧ i < 2 ^ 62 ∧ -(2 ^ 62) ≤ j ∧ j < 2 ^ 62) ∧ R (Itr i (j - i).toNat) H1
theorem pi_range1 {a : Expr} {ta : TA} {p pos : Pos} (hg : Gl X "range") (hm : X.mg "range" = none) (ha : PA X [a] ta) (hs : starEach [a] X.env = [(false, eval a X.env)] := by rfl) : PI X tg (.Call (.Name "range" p) [a] [] pos) (iRng1 ta) := by
  intro pins s σ H R I h
  refine Call_ (ld_blt I hg hm boot_range (PyProof.Rows.callWith_type1 (thn (ha pos pins s σ H _ I h) fun us s1 ⟨vs, H1, I1, r1, q1⟩ => ?_) hs rfl))
  obtain ⟨j, e, q1, q2, q⟩ := q1
  subst e
  cases r1 with
  | cons r rr =>
    cases rr
    obtain ⟨t, rfl⟩ := r
    exact call_range_1 (range_it I1 (by omega) (by omega) q1 q2 (by simpa using q))
theorem pi_range2 {a b : Expr} {ta : TA} {p pos : Pos} (hg : Gl X "range") (hm : X.mg "range" = none) (ha : PA X [a, b] ta) (hs : starEach [a, b] X.env = [(false, eval a X.env), (false, eval b X.env)] := by rfl) (hs2 : starEach [b] X.env = [(false, eval b X.env)] := by rfl) :
    PI X tg (.Call (.Name "range" p) [a, b] [] pos) (iRng2 ta) := by
  intro pins s σ H R I h
  refine Call_ (ld_blt I hg hm boot_range (PyProof.Rows.callWith_type1 (thn (ha pos pins s σ H _ I h) fun us s1 ⟨vs, H1, I1, r1, q1⟩ => ?_) (by rw [hs, hs2]) (by rw [hs2]; rfl)))
  obtain ⟨i, j, e, ⟨q1, q2, q3, q4⟩, q⟩ := q1
  subst e
  cases r1 with
  | cons r rr =>
    cases rr with
    | cons r' rr =>
      cases rr
      obtain ⟨t, rfl⟩ := r
      obtain ⟨t', rfl⟩ := r'
      exact call_range_2 (range_it I1 q1 q2 q3 q4 q)

/-! ### for -/
/-- W: the invariant by the turn and a measure; N: what the body is to reach -/
def tFor (wi : TI) (g : TG) (tb : TS) : TS := fun D σ H => wi σ H fun J H1 => ∃ W : Nat → Nat → St → Hp → Prop, (∃ m, W 0 m σ H1) ∧ ∀ i m σ H, W i m σ H →
  (J.stop i H ∧ D.nx σ H) ∨ (J.go i H ∧ ∃ N : St → Hp → Prop, (∀ σ' H', N σ' H' → ∃ m', m' < m ∧ W (i + 1) m' σ' H') ∧ ∀ x H', J.yld i H x H' → g x σ H' fun σ2 H2 => tb { D with nx := N, ct := N, bk := D.nx } σ2 H2)
/-- the records at fp as they stand -/
def pinsAt (fp : List Addr) (h : Heap) : List (Addr × Obj) := fp.filterMap fun b => (h.get? b).map fun o => (b, o)
theorem mem_pinsAt {fp : List Addr} {h : Heap} {b : Addr} {o : Obj} (hb : b ∈ fp) (e : h.get? b = some o) : (b, o) ∈ pinsAt fp h := List.mem_filterMap.mpr ⟨b, hb, by rw [e]; rfl⟩
theorem of_pinsAt {fp : List Addr} {h : Heap} {p : Addr × Obj} (hp : p ∈ pinsAt fp h) : p.1 ∈ fp ∧ h.get? p.1 = some p.2 := by
  obtain ⟨b, hb, e⟩ := List.mem_filterMap.mp hp
  cases q : h.get? b with
  | none => rw [q] at e; cases e
  | some o =>
    rw [q] at e
    have e' : (b, o) = p := Option.some.inj e
    subst e'
    exact ⟨hb, q⟩
theorem Inv.pinned {pins : List (Addr × Obj)} {σ : St} {H : Hp} {s : Shared} {fp : List Addr} (I : Inv X pins σ H s) (hf : ∀ b ∈ fp, FpOk X pins H b) (ho : ∀ b ∈ fp, ∃ o, s.heap.get? b = some o ∧ ∀ v, o.data ≠ .cell v) : Inv X (pins ++ pinsAt fp s.heap) σ H s :=
  I.pins_of fun p hp => (List.mem_append.mp hp).elim (fun z => I.pin p (List.mem_append_right _ z)) fun z => by
    obtain ⟨hb, e⟩ := of_pinsAt z
    obtain ⟨f0, f1, f2, _⟩ := hf p.1 hb
    obtain ⟨o, e', d⟩ := ho p.1 hb
    rw [e] at e'; cases e'
    exact ⟨e, f0, f1, f2, d⟩
theorem Inv.unpinned {pins pl : List (Addr × Obj)} {σ : St} {H : Hp} {s : Shared} (I : Inv X (pins ++ pl) σ H s) : Inv X pins σ H s := I.pins_of fun p hp => I.pin p (List.mem_append_right _ (List.mem_append_left _ hp))
theorem ps_for {iter : Expr} {body : List Stmt} {wi : TI} {g : TG} {tb : TS} {pos : Pos} (hp : PassesOwn (model X.prog X.w) X.A X.env X.xe) (hc : X.calm = true) (hi : PI X tg iter wi) (hg : PG X tg g) (hb : PSs X body tb)
    (hs : ∀ x, foldedSetIterable iter X.env x = pure x := by intro _; rfl) : PS X (.For tg iter body [] pos) (tFor wi g tb) := by
  intro pins s σ H D I h
  refine wpAny_For (thn (hi pins s σ H _ I h) fun v s1 h1 => thn h1 fun itv s2 h2 => ?_) hs
  obtain ⟨it, fp, tn, J, H2, e, I2, T, st2, f2, W, ⟨m0, w0⟩, turn⟩ := h2
  subst e
  -- what stays true of the iterator's objects through the loop
  have stat : ∀ {H' : Hp}, (∀ b ∈ fp, H' b = none) → ∀ b ∈ fp, FpOk X pins H' b := fun hn b hb => ⟨hn b hb, (f2 b hb).2⟩
  refine codeAny_forLoop_any (fun n s' => ∃ i σ' H', Inv X pins σ' H' s' ∧ tn i s'.heap ∧ (∀ b ∈ fp, H' b = none) ∧ W i n σ' H') ?_ m0 ⟨0, σ, H2, I2, st2, fun b hb => (f2 b hb).1, w0⟩
  rintro n s3 ⟨i, σ3, H3, I3, st3, fr3, w3⟩
  rcases turn i n σ3 H3 w3 with ⟨stop, qn⟩ | ⟨go, N, hN, step⟩
  · refine wpAny_passesOwn hp (thn (T.done X rfl rfl rfl hc i pins s3 σ3 H3 X.xe I3 (stat fr3) st3 stop) fun r s4 ⟨hr, I4⟩ => ?_)
    subst hr
    exact wpAny_execs_nil ⟨σ3, H3, I4, qn⟩
  · refine wpAny_passesOwn hp (thn (T.item X rfl rfl rfl hc i pins s3 σ3 H3 X.xe I3 (stat fr3) st3 go) fun r s4 ⟨u, hr, h4⟩ => ?_)
    subst hr
    refine wpAny_passesOwn hp (thn h4 fun _ s5 ⟨x, H5, I5, r5, y5, st5, fr5⟩ => ?_)
    have I5' := I5.pinned (stat fr5) (T.obj _ _ st5)
    refine wpAny_passesOwn hp (thn (hg _ s5 σ3 H5 x u _ I5' r5 (step x H5 y5)) fun _ s6 ⟨σ6, H6, I6, q6⟩ => ?_)
    refine wpAny_passesOwn hp (thn (hb _ s6 σ6 H6 _ I6 q6) fun f s7 q7 => ?_)
    have again : ∀ {σ7 : St} {H7 : Hp}, Inv X (pins ++ pinsAt fp s5.heap) σ7 H7 s7 → N σ7 H7 → ∃ m, m < n ∧ ∃ i σ' H', Inv X pins σ' H' s7 ∧ tn i s7.heap ∧ (∀ b ∈ fp, H' b = none) ∧ W i m σ' H' := fun {σ7 H7} I7 n7 => by
      obtain ⟨m', hm, w7⟩ := hN σ7 H7 n7
      refine ⟨m', hm, i + 1, σ7, H7, I7.unpinned, T.keep _ _ _ st5 fun b hb o e => (I7.pin (b, o) (List.mem_append_right _ (List.mem_append_right _ (mem_pinsAt hb e)))).1, fun b hb => ?_, w7⟩
      obtain ⟨o, e, d⟩ := T.obj _ _ st5 b hb
      exact (I7.pin (b, o) (List.mem_append_right _ (List.mem_append_right _ (mem_pinsAt hb e)))).2.1
    cases f with
    | next => obtain ⟨σ7, H7, I7, n7⟩ := q7; exact again I7 n7
    | cont => obtain ⟨σ7, H7, I7, n7⟩ := q7; exact again I7 n7
    | brk => obtain ⟨σ7, H7, I7, q7⟩ := q7; exact ⟨σ7, H7, I7.unpinned, q7⟩
    | ret v => obtain ⟨x7, σ7, H7, I7, r7, q7⟩ := q7; exact ⟨x7, σ7, H7, I7.unpinned, r7, q7⟩
end

/-! ### the forms one uses -/
/-- over a list that the body leaves as it is -/
theorem for_list {K : PySem.W.Frag} {a : Addr} {xs : List V} {g : TG} {tb : TS} {D : Ends} {σ : St} {H : Hp} (Pv : Nat → St → Hp → Prop) (h0 : Pv 0 σ H) (hl : ∀ i σ H, i ≤ xs.length → Pv i σ H → SqL K H a xs)
    (hs : ∀ i x σ H, xs[i]? = some x → Pv i σ H → g x σ H fun σ2 H2 => tb { D with nx := Pv (i + 1), ct := Pv (i + 1), bk := D.nx } σ2 H2) (hd : ∀ σ H, Pv xs.length σ H → D.nx σ H) :
    ∃ W : Nat → Nat → St → Hp → Prop, (∃ m, W 0 m σ H) ∧ ∀ i m σ H, W i m σ H →
      ((Itl K a).stop i H ∧ D.nx σ H) ∨ ((Itl K a).go i H ∧ ∃ N : St → Hp → Prop, (∀ σ' H', N σ' H' → ∃ m', m' < m ∧ W (i + 1) m' σ' H') ∧ ∀ x H', (Itl K a).yld i H x H' → g x σ H' fun σ2 H2 => tb { D with nx := N, ct := N, bk := D.nx } σ2 H2) := by
  refine ⟨fun i m σ H => m = xs.length - i ∧ i ≤ xs.length ∧ Pv i σ H, ⟨xs.length, by simp, Nat.zero_le _, h0⟩, ?_⟩
  rintro i m σ H ⟨rfl, hi, p⟩
  have q := hl i σ H hi p
  by_cases hlt : i < xs.length
  · refine .inr ⟨⟨xs, xs[i], q, by simp [hlt]⟩, Pv (i + 1), fun σ' H' p' => ⟨xs.length - (i + 1), by omega, rfl, hlt, p'⟩, fun x H' y => ?_⟩
    obtain ⟨e, y⟩ := y
    subst e
    exact hs i x σ _ (y xs q) p
  · have e : i = xs.length := by omega
    subst e
    exact .inl ⟨⟨xs, q, Nat.le_refl _⟩, hd σ H p⟩
theorem for_range {lo : Int} {n : Nat} {g : TG} {tb : TS} {D : Ends} {σ : St} {H : Hp} (Pv : Nat → St → Hp → Prop) (h0 : Pv 0 σ H)
    (hs : ∀ i σ H, i < n → Pv i σ H → g (.int (lo + i)) σ H fun σ2 H2 => tb { D with nx := Pv (i + 1), ct := Pv (i + 1), bk := D.nx } σ2 H2) (hd : ∀ σ H, Pv n σ H → D.nx σ H) :
    ∃ W : Nat → Nat → St → Hp → Prop, (∃ m, W 0 m σ H) ∧ ∀ i m σ H, W i m σ H →
      ((Itr lo n).stop i H ∧ D.nx σ H) ∨ ((Itr lo n).go i H ∧ ∃ N : St → Hp → Prop, (∀ σ' H', N σ' H' → ∃ m', m' < m ∧ W (i + 1) m' σ' H') ∧ ∀ x H', (Itr lo n).yld i H x H' → g x σ H' fun σ2 H2 => tb { D with nx := N, ct := N, bk := D.nx } σ2 H2) := by
  refine ⟨fun i m σ H => m = n - i ∧ i ≤ n ∧ Pv i σ H, ⟨n, by simp, Nat.zero_le _, h0⟩, ?_⟩
  rintro i m σ H ⟨rfl, hi, p⟩
  by_cases hlt : i < n
  · refine .inr ⟨hlt, Pv (i + 1), fun σ' H' p' => ⟨n - (i + 1), by omega, rfl, hlt, p'⟩, fun x H' y => ?_⟩
    obtain ⟨e, y⟩ := y
    subst e y
    exact hs i σ _ hlt p
  · have e : i = n := by omega
    subst e
    exact .inl ⟨Nat.le_refl _, hd σ H p⟩
end L2

namespace L2
open PySem PySem.Spec PyProof.Rows

abbrev R2 := V → V → Hp → VK → Prop
/-- a two-place operation on values: f is binaryOp op, inplaceOp op or compareOp op -/
def OpR (X : Cx) (f : Value → Value → Sem Value) (r : R2) : Prop :=
  ∀ (pins : List (Addr × Obj)) (s : Shared) (σ : St) (H : Hp) (x y : V) (v u : Value) (Q : VK), Inv X pins σ H s → RelV x v → RelV y u → r x y H Q →
    wpAny (model X.prog X.w) X.A (f v u) (EP X pins σ Q) X.xe s
/-- a one-place operation -/
def UnR (X : Cx) (f : Value → Sem Value) (r : V → Hp → VK → Prop) : Prop :=
  ∀ (pins : List (Addr × Obj)) (s : Shared) (σ : St) (H : Hp) (x : V) (v : Value) (Q : VK), Inv X pins σ H s → RelV x v → r x H Q →
    wpAny (model X.prog X.w) X.A (f v) (EP X pins σ Q) X.xe s
/-- a call of a value that is known (a builtin, a type) with values -/
def CallR (X : Cx) (f : Value) (r : List V → Hp → VK → Prop) : Prop :=
  ∀ (pins : List (Addr × Obj)) (s : Shared) (σ : St) (H : Hp) (xs : List V) (us : List Value) (Q : VK), Inv X pins σ H s → Vals xs us → r xs H Q →
    wpAny (model X.prog X.w) X.A (call f us) (EP X pins σ Q) X.xe s
/-- a value's truth -/
def TruR (X : Cx) (r : V → Hp → (Bool → Hp → Prop) → Prop) : Prop :=
  ∀ (pins : List (Addr × Obj)) (s : Shared) (σ : St) (H : Hp) (x : V) (v : Value) (Q : Bool → Hp → Prop), Inv X pins σ H s → RelV x v → r x H Q →
    wpAny (model X.prog X.w) X.A (truthy v) (TP X pins σ Q) X.xe s

def tOp (r : R2) (ta tb : TE) : TE := fun σ H Q => ta σ H fun x H1 => tb σ H1 fun y H2 => r x y H2 Q
def tUn (r : V → Hp → VK → Prop) (ta : TE) : TE := fun σ H Q => ta σ H fun x H1 => r x H1 Q
/-- ints in, under C, and a value out -/
def rI (C : Int → Int → Prop) (g : Int → Int → V) : R2 := fun x y H Q => ∃ i j, x = .int i ∧ y = .int j ∧ C i j ∧ Q (g i j) H
def rI0 (g : Int → Int → V) : R2 := fun x y H Q => ∃ i j, x = .int i ∧ y = .int j ∧ Q (g i j) H
def rU (g : Int → V) : V → Hp → VK → Prop := fun x H Q => ∃ i, x = .int i ∧ Q (g i) H

section
variable {X : Cx} {a b c : Expr} {ta tb tc : TE} {pos : Pos}

theorem binT (ha : PE X a ta) (hb : PE X b tb) {pins : List (Addr × Obj)} {s : Shared} {σ : St} {H : Hp} {R : V → V → Hp → Prop} (I : Inv X pins σ H s)
    (h : ta σ H fun x H1 => tb σ H1 fun y H2 => R x y H2) {Q : Value → Shared → Prop} {f : Value → Value → Sem Value}
    (hf : ∀ v u s2 x y H2, Inv X pins σ H2 s2 → RelV x v → RelV y u → R x y H2 → wpAny (model X.prog X.w) X.A (f v u) Q X.xe s2) :
    wpAny (model X.prog X.w) X.A (eval a X.env) (fun v s₁ => wpAny (model X.prog X.w) X.A (eval b X.env) (fun u s₂ => wpAny (model X.prog X.w) X.A (f v u) Q X.xe s₂) X.xe s₁) X.xe s := by
  refine thn (ha pins s σ H _ I h) fun v s1 ⟨x, H1, I1, r1, q1⟩ => ?_
  refine thn (hb pins s1 σ H1 _ I1 q1) fun u s2 ⟨y, H2, I2, r2, q2⟩ => ?_
  exact hf v u s2 x y H2 I2 r1 r2 q2

theorem pe_op {op : Operator} {r : R2} (ho : OpR X (binaryOp op) r) (ha : PE X a ta) (hb : PE X b tb) : PE X (.BinOp a op b pos) (tOp r ta tb) := by
  intro pins s σ H Q I h
  exact wpAny_BinOp (binT ha hb I h fun v u s2 x y H2 I2 rx ry q => ho pins s2 σ H2 x y v u Q I2 rx ry q)
theorem pe_un {op : UnaryOp} {r : V → Hp → VK → Prop} (ho : UnR X (unaryOp op) r) (ha : PE X a ta) : PE X (.UnaryOp op a pos) (tUn r ta) := by
  intro pins s σ H Q I h
  exact UnaryOp_ (thn (ha pins s σ H _ I h) fun v s1 ⟨x, H1, I1, r1, q1⟩ => ho pins s1 σ H1 x v Q I1 r1 q1)
/-! ### ints -/
theorem opI {f : Value → Value → Sem Value} {C : Int → Int → Prop} {g : Int → Int → Int}
    (rule : ∀ (i j : Int) (t u : Tok) (s : Shared) (Q : Value → Shared → Prop) (E : Value → Shared → Prop), C i j → Q (.int (g i j) s.toks) { s with toks := s.toks + 1 } → wpAny (model X.prog X.w) X.A (f (.int i t) (.int j u)) Q E s) :
    OpR X f (rI C fun i j => .int (g i j)) := by
  intro pins s σ H x y v u Q I rx ry h
  obtain ⟨i, j, rfl, rfl, hc, q⟩ := h
  obtain ⟨t, rfl⟩ := rx
  obtain ⟨t', rfl⟩ := ry
  exact rule i j t t' s _ _ hc ⟨.int (g i j), H, I.tok _, ⟨_, rfl⟩, q⟩
theorem opI0 {f : Value → Value → Sem Value} {g : Int → Int → Int}
    (rule : ∀ (i j : Int) (t u : Tok) (s : Shared) (Q : Value → Shared → Prop) (E : Value → Shared → Prop), Q (.int (g i j) s.toks) { s with toks := s.toks + 1 } → wpAny (model X.prog X.w) X.A (f (.int i t) (.int j u)) Q E s) :
    OpR X f (rI0 fun i j => .int (g i j)) := by
  intro pins s σ H x y v u Q I rx ry h
  obtain ⟨i, j, rfl, rfl, q⟩ := h
  obtain ⟨t, rfl⟩ := rx
  obtain ⟨t', rfl⟩ := ry
  exact rule i j t t' s _ _ ⟨.int (g i j), H, I.tok _, ⟨_, rfl⟩, q⟩
theorem opB0 {f : Value → Value → Sem Value} {g : Int → Int → Bool}
    (rule : ∀ (i j : Int) (t u : Tok) (s : Shared) (Q : Value → Shared → Prop) (E : Value → Shared → Prop), Q (.bool (g i j)) s → wpAny (model X.prog X.w) X.A (f (.int i t) (.int j u)) Q E s) :
    OpR X f (rI0 fun i j => .bl (g i j)) := by
  intro pins s σ H x y v u Q I rx ry h
  obtain ⟨i, j, rfl, rfl, q⟩ := h
  obtain ⟨t, rfl⟩ := rx
  obtain ⟨t', rfl⟩ := ry
  exact rule i j t t' s _ _ ⟨.bl (g i j), H, I, rfl, q⟩

def CDiv (i j : Int) : Prop := 0 < j ∧ j < 1073741824
def CPow (i j : Int) : Prop := 0 ≤ j ∧ j ≤ 1000000 ∧ i.natAbs < 2 ^ 64
theorem op_add : OpR X (binaryOp .Add) (rI0 fun i j => .int (i + j)) := opI0 fun _ _ _ _ _ _ _ q => add_int q
theorem op_sub : OpR X (binaryOp .Sub) (rI0 fun i j => .int (i - j)) := opI0 fun _ _ _ _ _ _ _ q => sub_int q
/-- // by a positive divisor -/
theorem op_fdiv : OpR X (binaryOp .FloorDiv) (rI CDiv fun i j => .int (i / j)) := opI fun i j _ _ _ _ _ hc q => by
  have h1 : (0 : Int) < j := hc.1
  have h2 : j < 1073741824 := hc.2
  exact floordiv_int (by omega) (by rw [Int.fdiv_eq_ediv_of_nonneg i (by omega)]; exact q) (.inl (PyProof.noPylong_small (by omega)))
/-- % by a positive divisor of any size -/
theorem op_mod : OpR X (binaryOp .Mod) (rI (fun _ j => 0 < j) fun i j => .int (i % j)) := opI fun i j _ _ _ _ _ hc q => by
  have h1 : (0 : Int) < j := hc
  exact mod_int' (by omega) (by rw [Int.fmod_eq_emod_of_nonneg i (by omega)]; exact q)
theorem op_pow : OpR X (binaryOp .Pow) (rI CPow fun i j => .int (i ^ j.toNat)) := opI fun _ _ _ _ _ _ _ hc q => pow_int_small hc.1 hc.2.1 hc.2.2 q
theorem unI {f : Value → Sem Value} {g : Int → Int}
    (rule : ∀ (i : Int) (t : Tok) (s : Shared) (Q : Value → Shared → Prop) (E : Value → Shared → Prop), Q (.int (g i) s.toks) { s with toks := s.toks + 1 } → wpAny (model X.prog X.w) X.A (f (.int i t)) Q E s) :
    UnR X f (rU fun i => .int (g i)) := by
  intro pins s σ H x v Q I rx h
  obtain ⟨i, rfl, q⟩ := h
  obtain ⟨t, rfl⟩ := rx
  exact rule i t s _ _ ⟨.int (g i), H, I.tok _, ⟨_, rfl⟩, q⟩
theorem un_neg : UnR X (unaryOp .USub) (rU fun i => .int (-i)) := unI fun _ _ _ _ _ q => neg_int q
/-! ### bools among ints: n += (a < b) -/
end

/-! ### comparisons -/
section
variable {X : Cx} {a b c : Expr} {ta tb tc : TE} {pos : Pos}
theorem fin_bl {pins : List (Addr × Obj)} {σ : St} {H : Hp} {s : Shared} {Q : VK} {k k' : Bool} (I : Inv X pins σ H s) (q : Q (.bl k) H) (e : k = k') : EP X pins σ Q (.bool k') s := by
  subst e
  exact ⟨.bl k, H, I, rfl, q⟩
theorem op_lt : OpR X (compareOp .Lt) (rI0 fun i j => .bl (decide (i < j))) := opB0 fun _ _ _ _ _ _ _ q => lt_int q
theorem op_le : OpR X (compareOp .LtE) (rI0 fun i j => .bl (decide (i ≤ j))) := opB0 fun _ _ _ _ _ _ _ q => le_int q
theorem op_gt : OpR X (compareOp .Gt) (rI0 fun i j => .bl (decide (j < i))) := opB0 fun _ _ _ _ _ _ _ q => gt_int q
theorem op_ge : OpR X (compareOp .GtE) (rI0 fun i j => .bl (decide (j ≤ i))) := opB0 fun _ _ _ _ _ _ _ q => ge_int q
/-- is None, is not None: the right side a value none -/
theorem op_isN : OpR X (compareOp .Is) (fun x y H Q => y = .non ∧ Q (.bl (decide (x = .non))) H) := by
  intro pins s σ H x y v u Q I rx ry h
  obtain ⟨rfl, q⟩ := h
  cases ry
  refine is_none_gen (fin_bl I q ?_)
  cases x <;> first
    | (cases rx; rfl)
    | (obtain ⟨t, rfl⟩ := rx; rfl)
theorem nomark (b : Expr) {op : CmpOp} (h : op ≠ .In := by decide) (h2 : op ≠ .NotIn := by decide) : behindInMarks op b = false := by
  have e1 : (op == CmpOp.In) = false := by cases op <;> first | rfl | exact absurd rfl h
  have e2 : (op == CmpOp.NotIn) = false := by cases op <;> first | rfl | exact absurd rfl h2
  cases b <;> simp [behindInMarks, e1, e2]
/-- a comparison as a value; hm: nomark b, or (for in, not in) by with_unfolding_all rfl -/
theorem pe_cmpR {op : CmpOp} {r : R2} (ho : OpR X (compareOp op) r) (ha : PE X a ta) (hb : PE X b tb) (hm : behindInMarks op b = false) : PE X (.Compare a [op] [b] pos) (tOp r ta tb) := by
  intro pins s σ H Q I h
  exact wpAny_Compare1 (binT ha hb I h fun v u s2 x y H2 I2 rx ry q => ho pins s2 σ H2 x y v u Q I2 rx ry q) hm
/-- a reading of a value as a test -/
def tTest (t : TE) : TT := fun σ H Q => t σ H fun x H' => ∃ k, x = .bl k ∧ Q k H'
theorem pt_cmpR {op : CmpOp} {r : R2} (ho : OpR X (compareOp op) r) (ha : PE X a ta) (hb : PE X b tb) (hm : behindInMarks op b = false) : PT X (.Compare a [op] [b] pos) (tTest (tOp r ta tb)) := by
  intro pins s σ H Q I h
  refine wpAny_isTrue_Compare1 (thn (ha pins s σ H _ I h) fun v s1 ⟨x, H1, I1, r1, q1⟩ => thn (hb pins s1 σ H1 _ I1 q1) fun u s2 ⟨y, H2, I2, r2, q2⟩ =>
    thn (ho pins s2 σ H2 x y v u _ I2 r1 r2 q2) fun c s3 ⟨z, H3, I3, r3, k, e, q3⟩ => ?_) hm
  subst e
  cases r3
  exact wpAny_truthy_bool ⟨H3, I3, q3⟩
/-! ### truth -/
/-- a value's truth by the abstract heap -/
def TruV (K : PySem.W.Frag) (x : V) (H : Hp) (k : Bool) : Prop :=
  match x with
  | .non => k = false
  | .bl b => k = b
  | .int i => k = (i != 0)
  | .str y => y.length ≤ sizeLine ∧ k = ((y.length : Int) != 0)
  | .byt y => y.size ≤ sizeLine ∧ k = ((y.size : Int) != 0)
  | .ref p => (∃ xs, SqL K H p xs ∧ k = !xs.isEmpty) ∨ (∃ xs, SqT K H p xs ∧ k = !xs.isEmpty) ∨ ∃ kvs, H p = some (.dK kvs) ∧ k = !kvs.isEmpty
  | _ => False
theorem isEmpty_kv {κ : Type} {kvs : List (κ × V)} {vs : List (κ × Value)} (r : KV kvs vs) : (!vs.isEmpty) = !kvs.isEmpty := by
  cases r <;> rfl
theorem isEmpty_of {xs : List V} {its : List Value} (r : Vals xs its) : (!its.toArray.isEmpty) = !xs.isEmpty := by
  cases r <;> simp
theorem line63 : (sizeLine : Nat) < 2 ^ 63 := by rw [sizeLine_eq]; decide
theorem tru_ok : TruR X (fun x H Q => ∃ k, TruV X.K x H k ∧ Q k H) := by
  intro pins s σ H x v Q I rx h
  obtain ⟨k, e, q⟩ := h
  have hl := line63
  have hs : sizeLine = 16777216 := sizeLine_eq
  cases x with
  | non =>
    cases rx
    have e' : k = false := e
    subst e'
    exact truthy_none ⟨H, I, q⟩
  | bl b =>
    cases rx
    have e' : k = b := e
    subst e'
    exact wpAny_truthy_bool ⟨H, I, q⟩
  | int i =>
    obtain ⟨t, rfl⟩ := rx
    have e' : k = (i != 0) := e
    subst e'
    exact PySem.P.truthy_int ⟨H, I, q⟩
  | str y =>
    obtain ⟨t, rfl⟩ := rx
    obtain ⟨hy, e'⟩ : y.length ≤ sizeLine ∧ k = ((y.length : Int) != 0) := e
    subst e'
    exact PySem.P.truthy_str (by omega) ⟨H, I.tok _, q⟩
  | byt y =>
    obtain ⟨t, rfl⟩ := rx
    obtain ⟨hy, e'⟩ : y.size ≤ sizeLine ∧ k = ((y.size : Int) != 0) := e
    subst e'
    exact PySem.W.truthy_bytes (by omega) ⟨H, I.tok _, q⟩
  | ref p =>
    cases rx
    have e' : (∃ xs, SqL X.K H p xs ∧ k = !xs.isEmpty) ∨ (∃ xs, SqT X.K H p xs ∧ k = !xs.isEmpty) ∨ ∃ kvs, H p = some (.dK kvs) ∧ k = !kvs.isEmpty := e
    rcases e' with ⟨xs, hx, e'⟩ | ⟨xs, hx, e'⟩ | ⟨kvs, hx, e'⟩
    · subst e'
      obtain ⟨its, r, pl, hz⟩ := I.list hx
      have hlen := r.length
      exact wpAny_truthy_list pl.isList (by simp only [List.size_toArray]; omega) ⟨H, I.tok _, by rw [isEmpty_of r]; exact q⟩
    · subst e'
      obtain ⟨its, r, pl, hz⟩ := I.tuple hx
      have hlen := r.length
      exact truthy_tuple pl (by simp only [List.size_toArray]; omega) ⟨H, I.tok _, by rw [isEmpty_of r]; exact q⟩
    · subst e'
      obtain ⟨hz, hS, vs, r, m⟩ : kvs.length ≤ sizeLine ∧ (p == sysModules) = false ∧ ∃ vs, KV kvs vs ∧ s.heap.DictOf (mixKind X.prog X.w) p vs := I.hok p _ hx
      have hlen : kvs.length = vs.length := Paired.length r
      exact wpAny_truthy_dict hS m (by omega) ⟨H, I.tok _, by rw [isEmpty_kv r]; exact q⟩
  | _ => exact (show False from e).elim
/-- any expression whose test is its value's truth (a name, a call, a subscript, a field ..: he by fun _ => rfl) -/
theorem pt_truth (ha : PE X a ta) (he : ∀ whole, isTrue a X.env whole = (do let v ← whole; standAt a.pos; holding [v] (truthy v))) :
    PT X a (fun σ H Q => ta σ H fun x H' => ∃ k, TruV X.K x H' k ∧ Q k H') := by
  intro pins s σ H Q I h
  exact isTrue_plain (thn (ha pins s σ H _ I h) fun v s1 ⟨x, H1, I1, r1, q1⟩ => tru_ok pins s1 σ H1 x v Q I1 r1 q1) (he _)

/-! ### strs and bytes -/
/-! ### scalar builtins, by CallR -/
theorem vals1 {x : V} {us : List Value} (r : Vals [x] us) : ∃ u, us = [u] ∧ RelV x u := by
  cases r with
  | cons r1 r2 => cases r2; exact ⟨_, rfl, r1⟩
theorem vals2 {x y : V} {us : List Value} (r : Vals [x, y] us) : ∃ u w', us = [u, w'] ∧ RelV x u ∧ RelV y w' := by
  cases r with
  | cons r1 r2 =>
    cases r2 with
    | cons r3 r4 => cases r4; exact ⟨_, _, rfl, r1, r3⟩
theorem call_abs : CallR X (.builtin "abs") (fun xs H Q => ∃ i, xs = [.int i] ∧ Q (.int (if i < 0 then -i else i)) H) := by
  intro pins s σ H xs us Q I r h
  obtain ⟨i, rfl, q⟩ := h
  obtain ⟨u, rfl, t, rfl⟩ := vals1 r
  exact call_abs_int fun u tk => ⟨.int (if i < 0 then -i else i), H, I.tok _, ⟨_, rfl⟩, q⟩
end
end L2

namespace L2
open PySem PySem.Spec PyProof.Rows

/-! ### an instance, its attributes a map -/
structure ObjM (h : Heap) (x dx C : Addr) (mA : Str → Option Value) : Prop where
  obj : h.get? x = some (PySem.W.instObj C dx)
  ns : h.Ns1 dx mA
  ne : dx ≠ x

theorem lookIn_ns {h : Heap} {dx : Addr} {mA : Str → Option Value} (n : h.Ns1 dx mA) : ∃ od, h.get? dx = some od ∧ ∀ name, PySem.W.lookIn name od = some (mA name) := by
  obtain ⟨o, es, ep, ho, hd, hk, _, hm⟩ := n
  refine ⟨o, ho, fun name => ?_⟩
  have e := hm name
  unfold nsFind findBy at e
  rw [← Array.find?_toList] at e
  unfold PySem.W.lookIn
  rw [hd]
  dsimp only
  split
  · rename_i y q
    rw [q] at e
    exact congrArg some e
  · rename_i q
    rw [q] at e
    have a : es.toList.any (·.refKey) = false := by
      rw [List.any_eq_false]
      intro y hy
      obtain ⟨z, t, hkey⟩ := hk y (Array.mem_toList_iff.mp hy)
      simp [DictEntry.refKey, hkey]
    have a' : ¬ es.toList.any (·.refKey) = true := by rw [a]; exact Bool.false_ne_true
    rw [if_neg a']
    exact congrArg some e

theorem ObjM.look {h : Heap} {x dx C : Addr} {mA : Str → Option Value} (I : ObjM h x dx C mA) : ∃ od, PySem.W.InstAt h x (PySem.W.instObj C dx) C (some od) ∧ ∀ name, PySem.W.lookIn name od = some (mA name) :=
  let ⟨od, ho, hl⟩ := lookIn_ns I.ns
  ⟨od, ⟨I.obj, rfl, rfl, ho⟩, hl⟩

section
variable {prog : Program} {w : World} {A : Around} {E : Value → Shared → Prop} {s : Shared} {K : PySem.W.Frag} {x dx C f : Addr} {mA : Str → Option Value} {name : Str} {v : Value}

theorem get_map {expr : Bool} {Q : Value → Shared → Prop} (X : K.In s.heap) (I : ObjM s.heap x dx C mA) (hg : PySem.W.plainGet K C name = true) (hh : PySem.W.hasDictIn K C = true)
    (ha : PySem.W.findIn K (.ref C) name = some none) (hv : mA name = some v) (hv' : PySem.W.handedIn v = true) (h : Q v { s with toks := s.toks + 1 }) :
    wpAny (model prog w) A (getAttr (.ref x) name expr) Q E s := by
  obtain ⟨od, J, hl⟩ := I.look
  exact PySem.W.get_value X J (PySem.W.plainGet_of hg).1 (PySem.W.findObj_own hh ha rfl (by rw [hl, hv])) hv' h

theorem get_meth {pl : Sem Bool} {Q : Value × List Value → Shared → Prop} (X : K.In s.heap) (I : ObjM s.heap x dx C mA) (hg : PySem.W.plainGet K C name = true)
    (hf : PySem.W.findIn K (.ref C) name = some (some (.ref f))) (ht : PySem.W.isFn K (.ref f) = true) (hv : mA name = none) (h : Q (.ref f, [.ref x]) s) :
    wpAny (model prog w) A (getMethod (.ref x) name pl) Q E s := by
  obtain ⟨od, J, hl⟩ := I.look
  exact PySem.W.method_fn X J (PySem.W.plainGet_of hg).1 (PySem.W.plainGet_of hg).2 hf (beq_iff_eq.mp ht) (by show (PySem.W.lookIn name od).map (·.isSome) = some false; rw [hl, hv]; rfl) h

theorem set_map {ns : List Str} {Q : Unit → Shared → Prop} (X : K.In s.heap) (I : ObjM s.heap x dx C mA)
    (hs : PySem.W.findIn K (.ref C) "__setattr__" = some (some (.builtin "object.__setattr__"))) (hp : PySem.W.plainOver K C = true) (ht : PySem.W.takerIn K C name = some none) (hh : PySem.W.hasDictIn K C = true)
    (hw : PySem.Within mA ns) (hsz : ns.length ≤ sizeLine)
    (h : ∀ h', ObjM h' x dx C (fun y => if y = name then some v else mA y) → Heap.SameBut dx s.heap h' → Q () { s with heap := h', toks := s.toks + 2 }) :
    wpAny (model prog w) A (setAttr (.ref x) name v) Q E s := by
  obtain ⟨od, J, hl⟩ := I.look
  refine PySem.W.set_plain X J hs (PySem.W.osa_open (s := { s with toks := s.toks + 1 }) (r := none) X J hp ht fun b => ?_)
  obtain ⟨cd, hc, hd'⟩ := PySem.W.any_some hh
  have hx : s.heap.get? x = some ⟨.ref C, some dx, .plain, #[]⟩ := I.obj
  refine wpAny_bind (wpAny_pure (wpAny_bind (wpAny_bind (wpAny_loadPart hx (wpAny_bind (PySem.W.Looks.here (s := { s with toks := s.toks + 1 }) (PySem.W.looks_clsIn X hc) ?_))))))
  rw [hd']
  refine wpAny_pure (a := some dx) (wpAny_bind (wpAny_pure (wpAny_bind ?_)))
  refine wpAny_nsSet1 (s := { s with toks := s.toks + 1 }) I.ns fun h' hn2 hs2 => ?_
  obtain ⟨oD, esD, epD, hoD, hdD, hcD⟩ := hn2.count (PySem.Within.cons name v hw)
  refine wpAny_bind (wpAny_lookBehind hoD (by rw [hdD]; exact pastItsLine_dict (Nat.le_trans hcD (by rw [List.length_cons]; omega))) ?_)
  exact wpAny_pure (h _ ⟨(hs2.2 _ (Ne.symm I.ne)).trans I.obj, hn2, I.ne⟩ hs2)

/-- C(..): the dict at the heap's end, the instance behind it; then its __init__ -/
theorem make_map {R : Result → Shared → Prop} {vs : List Value} {kw : List (Str × Value)} (X : K.In s.heap) (hm : PySem.W.makesIn K C = true)
    (hi : PySem.W.findIn K (.ref C) "__init__" = some (some (.ref f))) (hf : PySem.W.typeIn K (.ref f) = some (.type "function"))
    (h : codeAny (model prog w) (A.under (.builtin "type.__call__" ⟨.ref C :: vs, kw⟩)) (.call (.ref f) ⟨.ref (s.heap.objs.size + 1) :: vs, kw⟩) (PySem.W.InitBack (s.heap.objs.size + 1) R)
      { s with heap := (s.heap.push PySem.W.emptyDict).push (PySem.W.instObj C s.heap.objs.size) }) :
    codeAny (model prog w) A (.call (.ref C) ⟨vs, kw⟩) R s := by
  obtain ⟨hh, g, d, t, os⟩ := s
  exact PySem.W.make_core (PySem.W.makes_of X hm) (PySem.W.looks_findIn X hi) (fun self => PySem.W.bind_fn X self hf) (.inl rfl) h
/-- C() where there is no __init__ but object's -/
theorem make_map0 {R : Result → Shared → Prop} (X : K.In s.heap) (hm : PySem.W.makesIn K C = true)
    (hi : PySem.W.findIn K (.ref C) "__init__" = some (some (.builtin "object.__init__")))
    (hb : ∀ self, PySem.W.Looks (model prog w) s.heap (bindSpecial (.builtin "object.__init__") self) (.builtin "object.__init__", [self]))
    (h : codeAny (model prog w) (A.under (.builtin "type.__call__" ⟨[.ref C], []⟩)) (.call (.builtin "object.__init__") ⟨[.ref (s.heap.objs.size + 1)], []⟩) (PySem.W.InitBack (s.heap.objs.size + 1) R)
      { s with heap := (s.heap.push PySem.W.emptyDict).push (PySem.W.instObj C s.heap.objs.size) }) :
    codeAny (model prog w) A (.call (.ref C) ⟨[], []⟩) R s := by
  obtain ⟨hh, g, d, t, os⟩ := s
  exact PySem.W.make_core (PySem.W.makes_of X hm) (PySem.W.looks_findIn X hi) hb (.inr ⟨rfl, rfl⟩) h
end

/-! ### the attributes as a list of pairs -/
def putF (f : Str) (v : V) : List (Str × V) → List (Str × V)
  | [] => [(f, v)]
  | (g, x) :: r => if g = f then (g, v) :: r else (g, x) :: putF f v r
theorem lookup_putF (f g : Str) (v : V) : ∀ fs : List (Str × V), (putF f v fs).lookup g = if g = f then some v else fs.lookup g
  | [] => by
    show List.lookup g [(f, v)] = _
    by_cases h : g = f
    · have hb : (g == f) = true := beq_iff_eq.mpr h
      simp only [List.lookup, hb, if_pos h]
    · have hb : (g == f) = false := beq_eq_false_iff_ne.mpr h
      simp only [List.lookup, hb, if_neg h]
  | (k, x) :: r => by
    have ih := lookup_putF f g v r
    rw [show putF f v ((k, x) :: r) = (if k = f then (k, v) :: r else (k, x) :: putF f v r) from rfl]
    by_cases hk : k = f
    · rw [if_pos hk]
      by_cases h : g = k
      · have hb : (g == k) = true := beq_iff_eq.mpr h
        simp only [List.lookup, hb, if_pos (h.trans hk)]
      · have hb : (g == k) = false := beq_eq_false_iff_ne.mpr h
        simp only [List.lookup, hb, if_neg (fun e : g = f => h (e.trans hk.symm))]
    · rw [if_neg hk]
      by_cases h : g = k
      · have hb : (g == k) = true := beq_iff_eq.mpr h
        simp only [List.lookup, hb, if_neg (fun e : g = f => hk (h.symm.trans e))]
      · have hb : (g == k) = false := beq_eq_false_iff_ne.mpr h
        simp only [List.lookup, hb]
        exact ih
theorem keys_putF (f : Str) (v : V) : ∀ fs : List (Str × V), f ∈ (putF f v fs).map (·.1) ∧ ∀ g, g ∈ fs.map (·.1) → g ∈ (putF f v fs).map (·.1)
  | [] => ⟨by simp [putF], fun g h => by simp at h⟩
  | (k, x) :: r => by
    obtain ⟨i1, i2⟩ := keys_putF f v r
    rw [show putF f v ((k, x) :: r) = (if k = f then (k, v) :: r else (k, x) :: putF f v r) from rfl]
    by_cases hk : k = f
    · rw [if_pos hk]
      subst hk
      exact ⟨by simp, fun g h => by simpa using h⟩
    · rw [if_neg hk]
      refine ⟨?_, fun g h => ?_⟩
      · rw [List.map_cons]
        exact List.mem_cons_of_mem _ i1
      · rw [List.map_cons] at h ⊢
        rcases List.mem_cons.mp h with e | e
        · exact List.mem_cons.mpr (.inl e)
        · exact List.mem_cons_of_mem _ (i2 g e)
theorem length_putF (f : Str) (v : V) : ∀ fs : List (Str × V), (putF f v fs).length ≤ fs.length + 1
  | [] => by simp [putF]
  | (k, x) :: r => by
    have ih := length_putF f v r
    rw [show putF f v ((k, x) :: r) = (if k = f then (k, v) :: r else (k, x) :: putF f v r) from rfl]
    by_cases hk : k = f
    · rw [if_pos hk, List.length_cons, List.length_cons]; omega
    · rw [if_neg hk, List.length_cons, List.length_cons]; omega

theorem RelO.some_of {v : V} {o : Option Value} (r : RelO (some v) o) : ∃ u, o = some u ∧ RelV v u := by
  cases o with
  | none => exact (show False from r).elim
  | some u => exact ⟨u, rfl, r⟩
theorem RelO.none_of {o : Option Value} (r : RelO none o) : o = none := by
  cases o with
  | none => rfl
  | some u => exact (show False from r).elim
theorem handed_of {v : V} {u : Value} (r : RelV v u) : PySem.W.handedIn u = true := by
  cases v with
  | non => cases (show u = Value.none from r); rfl
  | bl b => cases (show u = Value.bool b from r); rfl
  | int i => obtain ⟨t, e⟩ := (show ∃ t, u = Value.int i t from r); cases e; rfl
  | str x => obtain ⟨t, e⟩ := (show ∃ t, u = Value.str x t from r); cases e; rfl
  | byt b => obtain ⟨t, e⟩ := (show ∃ t, u = Value.bytes b t from r); cases e; rfl
  | flt b => obtain ⟨t, e⟩ := (show ∃ t, u = Value.float b t from r); cases e; rfl
  | ref a => cases (show u = Value.ref a from r); rfl
  | ty n => cases (show u = Value.type n from r); rfl

section
variable {P : Program} {w : World} {H H' : Hp} {h h' : Heap} {a C dx : Addr} {fs fs' : List (Str × V)}
theorem ins_get (hok : HOk P w H h) (e : H a = some (.ins C dx fs)) : ∃ mA, ObjM h a dx C mA ∧ (∀ f, RelO (fs.lookup f) (mA f)) ∧ PySem.Within mA (fs.map (·.1)) ∧ fs.length ≤ 1000 ∧ H dx = some (.own a) := by
  obtain ⟨d, z, ne, ob, mA, n, r, q⟩ := (show ObjOk P w H h a (.ins C dx fs) from hok a _ e)
  exact ⟨mA, ⟨ob, n, ne⟩, r, q, z, d⟩
end

/-! ### what of the text a class must have -/
structure Cls (K : PySem.W.Frag) (C : Addr) : Prop where
  pg : PySem.W.plainGet K C Str.empty = true
  hd : PySem.W.hasDictIn K C = true
  po : PySem.W.plainOver K C = true
  sa : PySem.W.findIn K (.ref C) "__setattr__" = some (some (.builtin "object.__setattr__"))
theorem Cls.get {K : PySem.W.Frag} {C : Addr} (c : Cls K C) (f : Str) : PySem.W.plainGet K C f = true := c.pg
/-- no class of it has the name -/
def NoAttr (K : PySem.W.Frag) (C : Addr) (f : Str) : Prop := PySem.W.findIn K (.ref C) f = some none
theorem NoAttr.taker {K : PySem.W.Frag} {C : Addr} {f : Str} (n : NoAttr K C f) : PySem.W.takerIn K C f = some none := by
  unfold PySem.W.takerIn
  rw [show PySem.W.findIn K (.ref C) f = some none from n]
  rfl
/-- a method: a plain def of the class or of one above it -/
structure Meth (K : PySem.W.Frag) (C : Addr) (m : Str) (f : Addr) : Prop where
  at_ : PySem.W.findIn K (.ref C) m = some (some (.ref f))
  fn : PySem.W.isFn K (.ref f) = true
  kp : PySem.W.keepIn K (.ref f) = true

section
variable {X : Cx} {pins : List (Addr × Obj)} {σ : St} {H : Hp} {s : Shared} {a C dx : Addr} {fs : List (Str × V)} {f : Str} {v : V} {A : Around} {E : Value → Shared → Prop}

theorem getattr_ok {b : Bool} {Q : Value → Shared → Prop} (I : Inv X pins σ H s) (e : H a = some (.ins C dx fs)) (c : Cls X.K C) (n : NoAttr X.K C f) (l : fs.lookup f = some v)
    (h : ∀ u s', Inv X pins σ H s' → RelV v u → Q u s') : wpAny (model X.prog X.w) A (getAttr (.ref a) f b) Q E s := by
  obtain ⟨mA, O, r, _, _, _⟩ := ins_get I.hok e
  obtain ⟨u, hu, ru⟩ := RelO.some_of (v := v) (o := mA f) (by rw [← l]; exact r f)
  exact get_map I.kIn O (c.get f) c.hd n hu (handed_of ru) (h u _ (I.tok _) ru)

theorem getmeth_ok {m : Str} {g : Addr} {pl : Sem Bool} {Q : Value × List Value → Shared → Prop} (I : Inv X pins σ H s) (e : H a = some (.ins C dx fs)) (c : Cls X.K C) (k : Meth X.K C m g) (l : fs.lookup m = none)
    (h : Q (.ref g, [.ref a]) s) : wpAny (model X.prog X.w) A (getMethod (.ref a) m pl) Q E s := by
  obtain ⟨mA, O, r, _, _, _⟩ := ins_get I.hok e
  have hn : mA m = none := RelO.none_of (by rw [← l]; exact r m)
  exact get_meth I.kIn O (c.get m) k.at_ k.fn hn h

theorem setattr_ok {y : V} {u : Value} {Q : Unit → Shared → Prop} (I : Inv X pins σ H s) (e : H a = some (.ins C dx fs)) (c : Cls X.K C) (n : NoAttr X.K C f) (hl : fs.length < 1000) (ry : RelV y u)
    (h : ∀ s', Inv X pins σ (upd H a (.ins C dx (putF f y fs))) s' → Q () s') : wpAny (model X.prog X.w) A (setAttr (.ref a) f u) Q E s := by
  obtain ⟨mA, O, r, wi, _, ho⟩ := ins_get I.hok e
  have hz : (fs.map (·.1)).length ≤ sizeLine := by rw [List.length_map, sizeLine_eq]; omega
  refine set_map I.kIn O c.sa c.po n.taker c.hd wi hz fun h' O' sb => h _ ?_
  have hd : ∃ o, h'.get? dx = some o := let ⟨o, _, _, e', _⟩ := O'.ns; ⟨o, e'⟩
  refine I.write (x := a) (e := dx) (by rw [e]; exact True.intro) (.inr ho) (fun b q hb z => (sb.2 b hb).trans z) hd ?_
  refine ⟨by rw [upd_ne O.ne]; exact ho, ?_, O.ne, O'.obj, _, O'.ns, fun g => ?_, fun g hg => ?_⟩
  · have := length_putF f y fs; omega
  · show RelO ((putF f y fs).lookup g) (if g = f then some u else mA g)
    rw [lookup_putF]
    by_cases q : g = f
    · rw [if_pos q, if_pos q]; exact ry
    · rw [if_neg q, if_neg q]; exact r g
  · by_cases q : g = f
    · rw [q]; exact (keys_putF f y fs).1
    · refine (keys_putF f y fs).2 g (wi g fun z => hg ?_)
      show (if g = f then some u else mA g) = none
      rw [if_neg q]; exact z

/-- a new instance, tracked, without attributes -/
theorem Inv.made (I : Inv X pins σ H s) : Inv X pins σ (upd (upd H s.heap.objs.size (.own (s.heap.objs.size + 1))) (s.heap.objs.size + 1) (.ins C s.heap.objs.size []))
    { s with heap := (s.heap.push PySem.W.emptyDict).push (PySem.W.instObj C s.heap.objs.size) } := by
  have e1 : (s.heap.push PySem.W.emptyDict).get? s.heap.objs.size = some PySem.W.emptyDict := Heap.get?_push_size s.heap rfl
  have e2 : ((s.heap.push PySem.W.emptyDict).push (PySem.W.instObj C s.heap.objs.size)).get? (s.heap.objs.size + 1) = some (PySem.W.instObj C s.heap.objs.size) := by
    have := Heap.get?_push_size (s.heap.push PySem.W.emptyDict) (o := PySem.W.instObj C s.heap.objs.size) rfl
    rwa [Heap.size_push] at this
  have e3 : (s.heap.push PySem.W.emptyDict).Ns s.heap.objs.size (fun _ => none) := ⟨PySem.W.emptyDict, #[], _, e1, rfl, (fun e he => absurd he (by simp)), fun _ => rfl⟩
  have I1 := I.laid (a := s.heap.objs.size) (o := .own (s.heap.objs.size + 1)) (h' := s.heap.push PySem.W.emptyDict) (t' := s.toks) (fun b u q => Heap.get?_push_of_some _ q) (Nat.le_refl _) ⟨_, e1⟩
  refine I1.laid (a := s.heap.objs.size + 1) (o := .ins C s.heap.objs.size []) (t' := s.toks) (fun b u q => Heap.get?_push_of_some _ q) (Nat.le_of_eq (Heap.size_push _ _)) ?_
  have ne : s.heap.objs.size ≠ s.heap.objs.size + 1 := Nat.ne_of_lt (Nat.lt_succ_self _)
  refine ⟨by rw [upd_ne ne, upd_same], Nat.zero_le _, ne, e2, fun _ => none, (Heap.Ns1.of_empty e3).at fun o q => Heap.get?_push_of_some _ q, fun _ => True.intro, fun y hy => absurd rfl hy⟩

/-- e.f where nothing but the object is asked: through attributeBase (super) and the last hold -/
theorem attr_of {prog : Program} {w : World} {env : Env} {e : Expr} {f : Str} {pos : Pos} {s : Shared} {Q : Value → Shared → Prop} (hb : attributeBase e f env (eval e env) = eval e env)
    (h : wpAny (model prog w) A (eval e env) (fun o s₁ => wpAny (model prog w) A (getAttr o f true) Q E s₁) E s) : wpAny (model prog w) A (eval (.Attribute e f pos) env) Q E s :=
  Attribute_any_ h (by rw [arm_eval_Attribute, hb])
end

/-! ### readings and rules -/
/-- e.f, an attribute of the instance -/
def tFld (K : PySem.W.Frag) (ta : TE) (f : Str) : TE := fun σ H Q => ta σ H fun x H1 => ∃ a C dx fs v, x = .ref a ∧ H1 a = some (.ins C dx fs) ∧ Cls K C ∧ NoAttr K C f ∧ fs.lookup f = some v ∧ Q v H1
/-- e.f = value -/
def sFld (K : PySem.W.Frag) (ta tv : TE) (f : Str) : TS := fun D σ H => tv σ H fun y H1 => ta σ H1 fun x H2 => ∃ a C dx fs, x = .ref a ∧ H2 a = some (.ins C dx fs) ∧ Cls K C ∧ NoAttr K C f ∧ fs.length < 1000 ∧
  D.nx σ (upd H2 a (.ins C dx (putF f y fs)))
section
variable {X : Cx} {o e value : Expr} {f : Str} {pos pos' tpos : Pos} {ta tv : TE}
theorem pe_fld (he : PE X e ta) (hb : attributeBase e f X.env (eval e X.env) = eval e X.env) : PE X (.Attribute e f pos) (tFld X.K ta f) := by
  intro pins s σ H Q I h
  refine attr_of hb (thn (he pins s σ H _ I h) fun u s1 ⟨x, H1, I1, rx, a, C, dx, fs, v, ex, ea, c, n, l, q⟩ => ?_)
  subst ex
  obtain rfl : u = Value.ref a := rx
  exact getattr_ok I1 ea c n l fun u' s2 I2 ru => ⟨v, H1, I2, ru, q⟩
theorem ps_fld (ha : PE X o ta) (hv : PE X value tv) (hs : swapsWith value (some (.Attribute o f pos')) pos.line X.env = pure false) : PS X (.Assign [.Attribute o f pos'] value pos) (sFld X.K ta tv f) := by
  intro pins s σ H D I h
  refine plainObj_wpAny_Assign_Attribute (thn (hv pins s σ H _ I h) fun u s1 ⟨y, H1, I1, ry, q⟩ => thn (ha pins s1 σ H1 _ I1 q) fun ov s2 ⟨x, H2, I2, rx, a, C, dx, fs, ex, ea, c, n, l, q2⟩ => ?_) hs
  subst ex
  obtain rfl : ov = Value.ref a := rx
  exact setattr_ok I2 ea c n l ry fun s3 I3 => ⟨σ, _, I3, q2⟩
end

/-! ### isinstance -/
section
variable {X : Cx} {pins : List (Addr × Obj)} {σ : St} {H : Hp} {s : Shared} {A : Around} {E : Value → Shared → Prop} {Q : Value → Shared → Prop} {c : Value} {b : Bool}
/-- the type of a value, as the fragment's deciders take it; for an instance its class -/
inductive TyOf (K : PySem.W.Frag) (H : Hp) : V → Value → Prop where
  | non : TyOf K H .non (.type "NoneType")
  | bl (x : Bool) : TyOf K H (.bl x) (.type "bool")
  | int (i : Int) : TyOf K H (.int i) (.type "int")
  | str (x : Str) : TyOf K H (.str x) (.type "str")
  | flt (x : UInt64) : TyOf K H (.flt x) (.type "float")
  | lst {a : Addr} {xs : List V} (e : H a = some (.lst xs)) : TyOf K H (.ref a) (.type "list")
  | frz {a : Addr} {o : Obj} {xs : List V} (e : H a = some (.frz o (.lst xs))) : TyOf K H (.ref a) (.type "list")
  | tup {a : Addr} {xs : List V} (e : H a = some (.tup xs)) : TyOf K H (.ref a) (.type "tuple")
  | dK {a : Addr} {kvs : List (Key × V)} (e : H a = some (.dK kvs)) : TyOf K H (.ref a) (.type "dict")
  | dT {a : Addr} {kvs : List (List Key × V)} (e : H a = some (.dT kvs)) : TyOf K H (.ref a) (.type "dict")
  | ins {a C dx : Addr} {fs : List (Str × V)} (e : H a = some (.ins C dx fs)) (cl : Cls K C) (ha : PySem.W.findIn K (.ref C) "__class__" = some (some (.builtin "object.__class__")))
      (hn : PySem.W.specialIn K (.builtin "object.__class__") "__get__" = some (some (.builtin "getset_descriptor.__get__"))) (htk : PySem.W.takesIn K (.builtin "object.__class__") = some true)
      (hm : PySem.W.mroIn K C (.type "object") = some true) : TyOf K H (.ref a) (.ref C)
/-- isinstance(x, c) for one class c, a built-in or an own one: kitOne's answer -/
theorem isinst_ok {x : V} {u t : Value} (I : Inv X pins σ H s) (rx : RelV x u) (ty : TyOf X.K H x t) (e : PySem.W.kitOne X.K t c = some b) (h : ∀ tk, Q (.bool b) { s with toks := tk }) :
    wpAny (model X.prog X.w) A (call (.builtin "isinstance") [u, c]) Q E s := by
  cases ty with
  | non => cases (show u = Value.none from rx); exact PySem.W.kia_one PySem.W.kitx_none I.kIn True.intro e (fun z => nomatch z) h
  | bl y => cases (show u = Value.bool y from rx); exact PySem.W.kia_one PySem.W.kitx_bool I.kIn True.intro e (fun z => nomatch z) h
  | int i => obtain ⟨t, q⟩ := (show ∃ t, u = Value.int i t from rx); cases q; exact PySem.W.kia_one PySem.W.kitx_int I.kIn True.intro e (fun z => nomatch z) h
  | str y => obtain ⟨t, q⟩ := (show ∃ t, u = Value.str y t from rx); cases q; exact PySem.W.kia_one PySem.W.kitx_str I.kIn True.intro e (fun z => nomatch z) h
  | flt y => obtain ⟨t, q⟩ := (show ∃ t, u = Value.float y t from rx); cases q; exact PySem.W.kia_one PySem.W.kitx_float I.kIn True.intro e (fun z => nomatch z) h
  | @lst a xs ea =>
    cases (show u = Value.ref a from rx)
    obtain ⟨_, _, n, _, h1⟩ := (show ObjOk X.prog X.w H s.heap a (.lst xs) from I.hok a _ ea)
    exact PySem.W.kia_one PySem.W.kitx_list I.kIn ⟨_, h1, rfl⟩ e (fun z => nomatch z) h
  | @frz a ob xs ea =>
    cases (show u = Value.ref a from rx)
    obtain ⟨_, _, _, n, _, h1⟩ := (show ObjOk X.prog X.w H s.heap a (.frz ob (.lst xs)) from I.hok a _ ea)
    exact PySem.W.kia_one PySem.W.kitx_list I.kIn ⟨_, h1, rfl⟩ e (fun z => nomatch z) h
  | @tup a xs ea =>
    cases (show u = Value.ref a from rx)
    obtain ⟨_, _, _, p⟩ := (show ObjOk X.prog X.w H s.heap a (.tup xs) from I.hok a _ ea)
    obtain ⟨o, h1, h2, _⟩ := p
    exact PySem.W.kia_one PySem.W.kitx_tuple I.kIn ⟨o, h1, h2⟩ e (fun z => nomatch z) h
  | @dK a kvs ea =>
    cases (show u = Value.ref a from rx)
    obtain ⟨_, _, vs, _, p⟩ := (show ObjOk X.prog X.w H s.heap a (.dK kvs) from I.hok a _ ea)
    obtain ⟨o, es, ep, h1, h2, _⟩ := p
    exact PySem.W.kia_one PySem.W.kitx_dict I.kIn ⟨o, h1, h2.1⟩ e (fun z => nomatch z) h
  | @dT a kvs ea =>
    cases (show u = Value.ref a from rx)
    obtain ⟨_, _, xs, _, o, es, ep, h1, h2, _⟩ := (show ObjOk X.prog X.w H s.heap a (.dT kvs) from I.hok a _ ea)
    exact PySem.W.kia_one PySem.W.kitx_dict I.kIn ⟨o, h1, h2.1⟩ e (fun z => nomatch z) h
  | @ins a C dx fs ea cl ha hn htk hm =>
    cases (show u = Value.ref a from rx)
    obtain ⟨mA, O, _⟩ := ins_get I.hok ea
    obtain ⟨od, J, _⟩ := O.look
    exact PySem.W.kia_one (PySem.W.kitx_own (cl.get _) cl.hd ha hn htk hm) I.kIn J e (fun z => nomatch z) h
end
end L2

namespace L2
open PySem PySem.Spec PyProof.Rows

/-! ### room -/
structure Room (k : Nat) (A : Around) : Prop where
  hd : A.handled = none
  dp : A.depth + 3 * k + 5 < recursionLimit
  un : A.units + 16 * k + 200 < cLine
theorem Room.mono {j k : Nat} {A : Around} (r : Room k A) (h : j ≤ k) : Room j A := ⟨r.hd, by have := r.dp; omega, by have := r.un; omega⟩
theorem Room.deeper {k : Nat} {A : Around} (r : Room (k + 1) A) (env : Env) : Room k (A.deeper env) :=
  ⟨r.hd, by have := r.dp; show A.depth + 1 + 3 * k + 5 < _; omega, by have := r.un; show A.units + 3 + 16 * k + 200 < _; omega⟩
theorem make_depth {A : Around} {C : Addr} {us : List Value} {kw : List (Str × Value)} : (A.under (.builtin "type.__call__" ⟨.ref C :: us, kw⟩)).depth = A.depth + 1 := by
  first | rfl | simp [Around.under, Code.weight, Code.isCreation, Code.isGuard, Code.isCaller, Code.frames, Code.isFrame, guardIds]
theorem make_units {A : Around} {C : Addr} {us : List Value} {kw : List (Str × Value)} : (A.under (.builtin "type.__call__" ⟨.ref C :: us, kw⟩)).units = A.units + 1 := by
  first | rfl | simp [Around.under, Code.cUnits, Code.frames, Code.isFrame]
theorem Room.make {k : Nat} {A : Around} (r : Room (k + 1) A) (C : Addr) (us : List Value) (kw : List (Str × Value)) : Room k (A.under (.builtin "type.__call__" ⟨.ref C :: us, kw⟩)) :=
  ⟨r.hd, by have := r.dp; rw [make_depth]; omega, by have := r.un; rw [make_units]; omega⟩
theorem Room.depth {k : Nat} {A : Around} (r : Room k A) : A.depth < recursionLimit := by have := r.dp; omega
theorem Room.units {k : Nat} {A : Around} (r : Room k A) : A.units + 64 < cLine := by have := r.un; omega
/-! ### argument lists and displays -/
def tNil : TA := fun _ H Q => Q [] H
def tCons (ta : TE) (tr : TA) : TA := fun σ H Q => ta σ H fun x H1 => tr σ H1 fun xs H2 => Q (x :: xs) H2
section
variable {X : Cx} {e : Expr} {es : List Expr} {te : TE} {t : TA} {pos : Pos}
theorem pa_nil : PA X [] tNil := fun _ _ _ _ H Q I h => Calls.spliced_nil ⟨[], H, I, .nil, h⟩
theorem pa_cons (ha : PE X e te) (hr : PA X es t) (hs : starEach (e :: es) X.env = (false, eval e X.env) :: starEach es X.env := by rfl) : PA X (e :: es) (tCons te t) := by
  intro pos pins s σ H Q I h
  rw [hs]
  show wpAny _ _ (spliced ((false, eval e X.env) :: backTo pos (starEach es X.env))) _ _ s
  refine Calls.spliced_cons (thn (ha pins s σ H _ I h) fun u s1 ⟨x, H1, I1, r1, q1⟩ => ?_)
  exact thn (hr pos pins s1 σ H1 _ I1 q1) fun us s2 ⟨xs, H2, I2, r2, q2⟩ => ⟨x :: xs, H2, I2, .cons r1 r2, q2⟩

/-- a tuple, a list of written items -/
def tTup (t : TA) : TE := fun σ H Q => t σ H fun xs H1 => xs.length ≤ sizeLine ∧ ∀ p, H1 p = none → Q (.ref p) (upd H1 p (.tup xs))
def tLst (t : TA) : TE := fun σ H Q => t σ H fun xs H1 => xs.length ≤ sizeLine ∧ ∀ p, H1 p = none → Q (.ref p) (upd H1 p (.lst xs))
theorem pe_tup {x1} (h : PA X es t) : PE X (.Tuple es x1 pos) (tTup t) := by
  intro pins s σ H Q I hq
  refine wpAny_Tuple_spliced (thn (h pos pins s σ H _ I hq) fun us s1 ⟨xs, H1, I1, r, z, q⟩ => ⟨by rw [← r.length]; exact z, ?_⟩)
  have hf : H1 s1.heap.objs.size = none := I1.hok.fresh (Nat.le_refl _)
  refine ⟨.ref s1.heap.objs.size, upd H1 s1.heap.objs.size (.tup xs), I1.laid (t' := s1.toks) (fun b u e => Heap.get?_push_of_some _ e) (Nat.le_refl _) ?_, rfl, q _ hf⟩
  exact ⟨z, us, r, ⟨_, Heap.get?_push_size _ rfl, rfl, _, rfl⟩⟩
theorem pe_lst (h : PA X es t) : PE X (.List es pos) (tLst t) := by
  intro pins s σ H Q I hq
  refine wpAny_List_spliced (thn (h pos pins s σ H _ I hq) fun us s1 ⟨xs, H1, I1, r, z, q⟩ => ⟨by rw [← r.length]; exact z, ?_⟩)
  have hf : H1 s1.heap.objs.size = none := I1.hok.fresh (Nat.le_refl _)
  refine ⟨.ref s1.heap.objs.size, upd H1 s1.heap.objs.size (.lst xs), I1.laid (t' := s1.toks) (fun b u e => Heap.get?_push_of_some _ e) (Nat.le_refl _) ?_, rfl, q _ hf⟩
  exact ⟨z, us, 0, r, Heap.get?_push_size _ rfl⟩
end

/-! ### what a def promises -/
/-- a def's promise: the bound arguments in the parameters' order, the heap, the wanted end, the wanted exception -/
abbrev Sp := List V → Hp → VK → XK → Prop
/-- how an exception lies behind a call (file 08 gives it): the callers' frames, abstract heap and state ahead of the call, the wish, the exception, the state -/
abbrev CXT := List Env → Hp → Shared → XK → Value → Shared → Prop

/-- the state at a call -/
structure Env0 (P : Program) (w : World) (K : PySem.W.Frag) (mg : Str → Option Value) (base : Heap) (A : Around) (outer : List Env) (s : Shared) (H : Hp) : Prop where
  frames : A.frames = some outer
  mod : Mod K mg base
  bs : ∀ b o, base.get? b = some o → s.heap.get? b = some o ∧ H b = none
  bsz : base.objs.size ≤ s.heap.objs.size
  funs : s.heap.FunFrames base outer
  frf : ∀ b ∈ frs outer, H b = none
  hok : HOk P w H s.heap
  bare : AllBare s.gens
/-- a call's end -/
def CE (outer : List Env) (P : Program) (w : World) (H : Hp) (s : Shared) (Q : VK) (u : Value) (s' : Shared) : Prop :=
  ∃ v H', s'.os = s.os ∧ AllBare s'.gens ∧ Un (frs outer) [] H H' s.heap s'.heap ∧ HOk P w H' s'.heap ∧ RelV v u ∧ Q v H'
def CR (CX : CXT) (outer : List Env) (P : Program) (w : World) (H : Hp) (s : Shared) (Q : VK) (E : XK) (r : Result) (s' : Shared) : Prop :=
  match r with
  | .ok (.ret u) => CE outer P w H s Q u s'
  | .ok _ => False
  | .error e => CX outer H s E e s'
structure FnOk (P : Program) (w : World) (K : PySem.W.Frag) (mg : Str → Option Value) (base : Heap) (CX : CXT) (k : Nat) (f : Addr) (fd : FuncData) (ps : List Str) (sp : Sp) : Prop where
  len : ∀ vs H Q E, sp vs H Q E → vs.length = ps.length
  run : ∀ (A : Around) (outer : List Env) (s : Shared) (H : Hp) (args : Args) (us : List Value) (vs : List V) (Q : VK) (E : XK), Room k A → Env0 P w K mg base A outer s H → BindsTo s fd args (ps.zip us) → Vals vs us → sp vs H Q E →
    codeAny (model P w) A (.call (.ref f) args) (CR CX outer P w H s Q E) s
/-- a weaker promise -/
theorem FnOk.imp {P : Program} {w : World} {K : PySem.W.Frag} {mg : Str → Option Value} {base : Heap} {CX : CXT} {k : Nat} {f : Addr} {fd : FuncData} {ps : List Str} {sp sp' : Sp} (F : FnOk P w K mg base CX k f fd ps sp)
    (h : ∀ vs H Q E, sp' vs H Q E → sp vs H Q E) : FnOk P w K mg base CX k f fd ps sp' :=
  ⟨fun vs H Q E q => F.len vs H Q E (h _ _ _ _ q), fun A outer s H args us vs Q E hr he hb hv hs => F.run A outer s H args us vs Q E hr he hb hv (h _ _ _ _ hs)⟩

theorem Env0.make {P : Program} {w : World} {K : PySem.W.Frag} {mg : Str → Option Value} {base : Heap} {A : Around} {outer : List Env} {s : Shared} {H : Hp} (e : Env0 P w K mg base A outer s H) (C : Addr) (us : List Value) (kw : List (Str × Value)) :
    Env0 P w K mg base (A.under (.builtin "type.__call__" ⟨.ref C :: us, kw⟩)) outer s H := ⟨by first | exact e.frames | (simpa [Around.under, Code.envs, Code.isFrame, pushEnvs] using e.frames), e.mod, e.bs, e.bsz, e.funs, e.frf, e.hok, e.bare⟩
section
variable {X : Cx} {pins : List (Addr × Obj)} {σ : St} {H : Hp} {s s' : Shared}
/-- from a body: what a callee wants -/
theorem Inv.env0 (I : Inv X pins σ H s) : Env0 X.prog X.w X.K X.mg X.base X.A X.stack s H :=
  ⟨I.ok.frames, I.ok.mod, I.bs, Nat.le_trans I.ok.bsz I.sz, I.stack, I.stkFree, I.hok, I.bare⟩
/-- behind a call -/
theorem Inv.after {Q : VK} {u : Value} (I : Inv X pins σ H s) (h : CE X.stack X.prog X.w H s Q u s') : EP X pins σ Q u s' := by
  obtain ⟨v, H', os, bare, un, hok, r, q⟩ := h
  obtain ⟨hh, g, d, t, os'⟩ := s'
  obtain rfl : os' = s.os := os
  exact ⟨v, H', I.call (h' := hh) (g' := g) (d' := d) (t' := t) (ch := []) un hok bare (fun b z => absurd z (by simp)), r, q⟩
end

/-! ### calls -/
/-- f(..): the written arguments, then the defaults dvs; E: what is wanted of an exception -/
def tCall (sp : Sp) (dvs : List V) (E : XK) (t : TA) : TE := fun σ H Q => t σ H fun vs H1 => sp (vs ++ dvs) H1 Q E
/-- o.m(..) of an instance of the class at C -/
def tMeth (C : Addr) (m : Str) (sp : Sp) (dvs : List V) (E : XK) (ta : TE) (t : TA) : TE := fun σ H Q => ta σ H fun x H1 => ∃ a dx fs, x = .ref a ∧ H1 a = some (.ins C dx fs) ∧ fs.lookup m = none ∧
  t σ H1 fun vs H2 => sp (x :: (vs ++ dvs)) H2 Q E
/-- C(..): a new instance and its dict, then __init__ -/
def tMake (C : Addr) (sp : Sp) (dvs : List V) (E : XK) (t : TA) : TE := fun σ H Q => t σ H fun vs H1 => ∀ x dx, H1 x = none → H1 dx = none → dx ≠ x →
  sp (.ref x :: (vs ++ dvs)) (upd (upd H1 dx (.own x)) x (.ins C dx [])) (fun v H2 => v = .non ∧ Q (.ref x) H2) E

/-- how the parameters are bound: us the positional arguments, kw the keywords' values by name, ds the defaults that fill up -/
def Binds (K : PySem.W.Frag) (fd : FuncData) (ps : List Str) (ds : List Value) : Prop :=
  ∀ (s : Shared) (us : List Value), K.In s.heap → (us ++ ds).length = ps.length → BindsTo s fd ⟨us, []⟩ (ps.zip (us ++ ds))
/-- every parameter is given -/
theorem Binds.all {K : PySem.W.Frag} {fd : FuncData} {ps : List Str} (h : ∀ us : List Value, us.length = ps.length → bindArgs fd ⟨us, []⟩ = pure (ps.zip us)) : Binds K fd ps [] := fun s us _ hl => by
  rw [List.append_nil] at hl ⊢
  exact .of_eq (h us hl)

/-- an exception of a callee reaches what this body wants of exceptions -/
def Passes (CX : CXT) (X : Cx) (E : XK) : Prop := ∀ (pins : List (Addr × Obj)) (σ : St) (H : Hp) (s : Shared) (e : Value) (s' : Shared), Inv X pins σ H s → CX X.stack H s E e s' → X.xe e s'

section
variable {X : Cx} {CX : CXT} {k : Nat} {f C : Addr} {fd : FuncData} {ps : List Str} {sp : Sp} {dvs : List V} {ds : List Value} {E : XK} {x m : Str} {p pos apos : Pos} {e o : Expr} {es : List Expr} {ta : TE} {t : TA}

/-- the callee runs -/
theorem run_fn {pins : List (Addr × Obj)} {σ : St} {H : Hp} {s : Shared} {Q : VK} {us : List Value} {vs : List V} (F : FnOk X.prog X.w X.K X.mg X.base CX k f fd ps sp) (hr : Room k X.A) (hb : Binds X.K fd ps ds) (hd : Vals dvs ds) (hx : Passes CX X E)
    (I : Inv X pins σ H s) (r : Vals vs us) (h : sp (vs ++ dvs) H Q E) : wpAny (model X.prog X.w) X.A (call (.ref f) us) (EP X pins σ Q) X.xe s := by
  have r2 : Vals (vs ++ dvs) (us ++ ds) := r.append hd
  have hl : (us ++ ds).length = ps.length := by rw [← r2.length]; exact F.len _ _ _ _ h
  refine wpAny_call (codeAny_mono (F.run X.A X.stack s H ⟨us, []⟩ (us ++ ds) (vs ++ dvs) Q E hr I.env0 (hb s us I.kIn hl) r2 h) fun r s' hq => ?_)
  cases r with
  | error e => exact hx pins σ H s e s' I hq
  | ok fl =>
    cases fl with
    | ret u => exact I.after hq
    | next => exact False.elim hq
    | brk => exact False.elim hq
    | cont => exact False.elim hq

theorem pe_call (F : FnOk X.prog X.w X.K X.mg X.base CX k f fd ps sp) (hr : Room k X.A) (hg : Gl X x) (hm : X.mg x = some (.ref f)) (hk : PySem.W.keepIn X.K (.ref f) = true) (hb : Binds X.K fd ps ds) (hd : Vals dvs ds) (hx : Passes CX X E)
    (ha : PA X (e :: es) t) (hdb : (x == ("__debug__" : Str)) = false := by decide) (he : starEach (e :: es) X.env = (false, eval e X.env) :: starEach es X.env := by rfl) (hpl : (backTo pos (starEach es X.env)).any (·.1) = false := by rfl) :
    PE X (.Call (.Name x p) (e :: es) [] pos) (tCall sp dvs E t) := by
  intro pins s σ H Q I h
  refine wpAny_Call_Name_kw (ld_glob I hg hm ?_ hdb)
  refine PySem.W.callWith_K (h₀ := X.base) I.ok.mod.kin hk (thn (ha pos pins s σ H _ I h) fun us s1 ⟨vs, H1, I1, r, q⟩ => ⟨I1.kIn, ?_⟩) he hpl
  exact run_fn F hr hb hd hx I1 r q
/-- o.m(e, ..) -/
theorem pe_meth {pl : Sem Bool} (he : PE X o ta) (c : Cls X.K C) (hm : Meth X.K C m f) (F : FnOk X.prog X.w X.K X.mg X.base CX k f fd ps sp) (hr : Room k X.A) (hb : Binds X.K fd ps ds) (hd : Vals dvs ds) (hx : Passes CX X E) (ha : PA X (e :: es) t)
    (hst : starEach (e :: es) X.env = (false, eval e X.env) :: starEach es X.env := by rfl) (hpl : (backTo pos (starEach es X.env)).any (·.1) = false := by rfl)
    (ht : eval (.Call (.Attribute o m apos) (e :: es) [] pos) X.env = (do
      let ov ← eval o X.env
      standAt apos.atName
      let (f, first) ← holding [ov] (getMethod ov m pl)
      callWith pos f first (backTo pos (starEach (e :: es) X.env)) (backToKw pos (keywordEach [] X.env))) := by rfl) :
    PE X (.Call (.Attribute o m apos) (e :: es) [] pos) (tMeth C m sp dvs E ta t) := by
  intro pins s σ H Q I h
  refine PySem.W.methodCall_KW (pl := pl) (thn (he pins s σ H _ I h) fun u s1 ⟨x, H1, I1, rx, a, dx, fs, ex, ea, l, q⟩ => ?_) ht
  subst ex
  obtain rfl : u = Value.ref a := rx
  refine getmeth_ok I1 ea c hm l ?_
  refine PySem.W.callWith_K (first := [.ref a]) (h₀ := X.base) I.ok.mod.kin hm.kp (thn (ha pos pins s1 σ H1 _ I1 q) fun us s2 ⟨vs, H2, I2, r, q2⟩ => ⟨I2.kIn, ?_⟩) hst hpl
  exact run_fn (us := .ref a :: us) (vs := .ref a :: vs) F hr hb hd hx I2 (.cons rfl r) q2
/-- o.m() -/
theorem pe_meth0 {pl : Sem Bool} (he : PE X o ta) (c : Cls X.K C) (hm : Meth X.K C m f) (F : FnOk X.prog X.w X.K X.mg X.base CX k f fd ps sp) (hr : Room k X.A) (hb : Binds X.K fd ps ds) (hd : Vals dvs ds) (hx : Passes CX X E)
    (ht : eval (.Call (.Attribute o m apos) [] [] pos) X.env = (do
      let ov ← eval o X.env
      standAt apos.atName
      let (f, first) ← holding [ov] (getMethod ov m pl)
      callWith pos f first (backTo pos (starEach [] X.env)) (backToKw pos (keywordEach [] X.env))) := by rfl) :
    PE X (.Call (.Attribute o m apos) [] [] pos) (tMeth C m sp dvs E ta tNil) := by
  intro pins s σ H Q I h
  refine PySem.W.methodCall_KW (pl := pl) (thn (he pins s σ H _ I h) fun u s1 ⟨x, H1, I1, rx, a, dx, fs, ex, ea, l, q⟩ => ?_) ht
  subst ex
  obtain rfl : u = Value.ref a := rx
  refine getmeth_ok I1 ea c hm l ?_
  exact PySem.W.callWith_K0 (first := [.ref a]) I1.kIn hm.kp (run_fn (us := [.ref a]) (vs := [.ref a]) F hr hb hd hx I1 (.cons rfl .nil) q)

/-- what a class must have to be made -/
structure Mk (K : PySem.W.Frag) (C f : Addr) : Prop where
  makes : PySem.W.makesIn K C = true
  init : PySem.W.findIn K (.ref C) "__init__" = some (some (.ref f))
  fn : PySem.W.isFn K (.ref f) = true
  kp : PySem.W.keepIn K (.ref C) = true

theorem run_make {pins : List (Addr × Obj)} {σ : St} {H : Hp} {s : Shared} {Q : VK} {us : List Value} {vs : List V} (M : Mk X.K C f) (F : FnOk X.prog X.w X.K X.mg X.base CX k f fd ps sp) (hr : Room (k + 1) X.A) (hb : Binds X.K fd ps ds) (hd : Vals dvs ds)
    (hx : Passes CX X E) (I : Inv X pins σ H s) (r : Vals vs us)
    (h : ∀ x dx, H x = none → H dx = none → dx ≠ x → sp (.ref x :: (vs ++ dvs)) (upd (upd H dx (.own x)) x (.ins C dx [])) (fun v H2 => v = .non ∧ Q (.ref x) H2) E) :
    wpAny (model X.prog X.w) X.A (call (.ref C) us) (EP X pins σ Q) X.xe s := by
  have hq := h (s.heap.objs.size + 1) s.heap.objs.size (I.hok.fresh (Nat.le_succ _)) (I.hok.fresh (Nat.le_refl _)) (Nat.ne_of_lt (Nat.lt_succ_self _))
  have I2 := Inv.made (C := C) I
  have r2 : Vals (V.ref (s.heap.objs.size + 1) :: (vs ++ dvs)) (Value.ref (s.heap.objs.size + 1) :: (us ++ ds)) := .cons rfl (r.append hd)
  have hl : (Value.ref (s.heap.objs.size + 1) :: us ++ ds).length = ps.length := by
    have e := r2.length
    rw [F.len _ _ _ _ hq] at e
    exact e.symm
  refine wpAny_call (make_map (f := f) I.kIn M.makes M.init (beq_iff_eq.mp M.fn) (codeAny_mono (F.run _ X.stack _ _ ⟨Value.ref (s.heap.objs.size + 1) :: us, []⟩ (Value.ref (s.heap.objs.size + 1) :: (us ++ ds)) _ _ E (hr.make C us [])
    (I2.env0.make C us []) (hb _ (Value.ref (s.heap.objs.size + 1) :: us) I2.kIn hl) r2 hq) fun r s' hq' => ?_))
  cases r with
  | error e => exact hx pins σ _ _ e s' I2 hq'
  | ok fl =>
    cases fl with
    | ret u =>
      obtain ⟨v, H', I3, rv, ev, q3⟩ := I2.after hq'
      subst ev
      exact ⟨rv, ⟨V.ref (s.heap.objs.size + 1), H', I3, rfl, q3⟩⟩
    | next => exact False.elim hq'
    | brk => exact False.elim hq'
    | cont => exact False.elim hq'
theorem pe_make (M : Mk X.K C f) (F : FnOk X.prog X.w X.K X.mg X.base CX k f fd ps sp) (hr : Room (k + 1) X.A) (hg : Gl X x) (hm : X.mg x = some (.ref C)) (hb : Binds X.K fd ps ds) (hd : Vals dvs ds) (hx : Passes CX X E)
    (ha : PA X (e :: es) t) (hdb : (x == ("__debug__" : Str)) = false := by decide) (he : starEach (e :: es) X.env = (false, eval e X.env) :: starEach es X.env := by rfl) (hpl : (backTo pos (starEach es X.env)).any (·.1) = false := by rfl) :
    PE X (.Call (.Name x p) (e :: es) [] pos) (tMake C sp dvs E t) := by
  intro pins s σ H Q I h
  refine wpAny_Call_Name_kw (ld_glob I hg hm ?_ hdb)
  refine PySem.W.callWith_K (h₀ := X.base) I.ok.mod.kin M.kp (thn (ha pos pins s σ H _ I h) fun us s1 ⟨vs, H1, I1, r, q⟩ => ⟨I1.kIn, ?_⟩) he hpl
  exact run_make M F hr hb hd hx I1 r q
end

/-! ### keywords -/
section
variable {X : Cx} {CX : CXT} {k : Nat} {f C : Addr} {fd : FuncData} {ps ks : List Str} {sp : Sp} {E : XK} {x m : Str} {p pos apos kpos : Pos} {e o : Expr} {es : List Expr} {kws : List Keyword} {te ta : TE} {t tk : TA} {nm : Option Str}
variable {g : List Value → List Value → List Value} {gV : List V → List V → List V}
end

/-! ### a def's body keeps its promise -/
/-- names: the parameters first -/
structure FnScope (N P : List Str) (sc : Scope) : Prop where
  kind : sc.kind = .function
  co : sc.isCoroutine = false
  gen : sc.isGenerator = false
  nd : N.Nodup
  pre : N.take P.length = P
  par : ∀ x ∈ P, sc.names.lookup x = some .local ∨ sc.names.lookup x = some .cell
  nofree : ∀ y ∈ sc.names, y.2 ≠ .free

theorem bindL_out {kindOf : Str → Option NameKind} {x : Str} : ∀ {binds : List (Str × Value)} {m : Str → Option Value}, (∀ v, (x, v) ∉ binds) → bindL kindOf binds m x = m x
  | [], _, _ => rfl
  | (n, v) :: r, m, h => by
    unfold bindL
    rw [bindL_out fun w hw => h w (List.mem_cons_of_mem _ hw)]
    split
    · have : x ≠ n := by rintro rfl; exact h v List.mem_cons_self
      simp [this]
    · rfl
theorem bindC_out {kindOf : Str → Option NameKind} {x : Str} : ∀ {binds : List (Str × Value)} {m : Str → Option Value}, (∀ v, (x, v) ∉ binds) → bindC kindOf binds m x = m x
  | [], _, _ => rfl
  | (n, v) :: r, m, h => by
    unfold bindC
    rw [bindC_out fun w hw => h w (List.mem_cons_of_mem _ hw)]
    split
    · rfl
    · have : x ≠ n := by rintro rfl; exact h v List.mem_cons_self
      simp [this]
theorem bindL_get {kindOf : Str → Option NameKind} {x : Str} {v : Value} : ∀ {P : List Str} {vs : List Value} {i : Nat} {m : Str → Option Value}, P.Nodup → P[i]? = some x → vs[i]? = some v → kindOf x = some .local →
    bindL kindOf (P.zip vs) m x = some v
  | [], _, _, _, _, h, _, _ => by simp at h
  | _ :: _, [], _, _, _, _, h, _ => by simp at h
  | p :: P, w :: vs, 0, m, nd, h1, h2, hk => by
    simp at h1 h2; subst h1; subst h2
    show bindL kindOf ((p, w) :: P.zip vs) m p = _
    unfold bindL
    rw [bindL_out fun v hv => (List.nodup_cons.mp nd).1 (List.of_mem_zip hv).1, if_pos hk]
    simp
  | p :: P, w :: vs, i + 1, m, nd, h1, h2, hk => by
    show bindL kindOf ((p, w) :: P.zip vs) m x = _
    unfold bindL
    exact bindL_get (i := i) (List.nodup_cons.mp nd).2 (by simpa using h1) (by simpa using h2) hk
theorem bindC_get {kindOf : Str → Option NameKind} {x : Str} {v : Value} : ∀ {P : List Str} {vs : List Value} {i : Nat} {m : Str → Option Value}, P.Nodup → P[i]? = some x → vs[i]? = some v → kindOf x ≠ some .local →
    bindC kindOf (P.zip vs) m x = some v
  | [], _, _, _, _, h, _, _ => by simp at h
  | _ :: _, [], _, _, _, _, h, _ => by simp at h
  | p :: P, w :: vs, 0, m, nd, h1, h2, hk => by
    simp at h1 h2; subst h1; subst h2
    show bindC kindOf ((p, w) :: P.zip vs) m p = _
    unfold bindC
    rw [bindC_out fun v hv => (List.nodup_cons.mp nd).1 (List.of_mem_zip hv).1, if_neg hk]
    simp
  | p :: P, w :: vs, i + 1, m, nd, h1, h2, hk => by
    show bindC kindOf ((p, w) :: P.zip vs) m x = _
    unfold bindC
    exact bindC_get (i := i) (List.nodup_cons.mp nd).2 (by simpa using h1) (by simpa using h2) hk

/-- the names' values at the entry -/
def start (N : List Str) (vs : List V) : St := vs.map some ++ List.replicate (N.length - vs.length) none

/-- the context of a def's body, at its entry; an exception leaves the frame, then lies as CX says -/
def cxOf (CX : CXT) (P : Program) (w : World) (K : PySem.W.Frag) (mg : Str → Option Value) (base : Heap) (N : List Str) (qual : Str) (scope : Scope) (f : Addr) (cd : Value) (A : Around) (outer : List Env) (s : Shared) (H : Hp) (E : XK) : Cx where
  prog := P
  w := w
  K := K
  mg := mg
  base := base
  A := A.deeper (envOfC qual scope s.heap.objs.size f cd)
  N := N
  s₀ := s
  H₀ := H
  env := envOfC qual scope s.heap.objs.size f cd
  outer := outer
  stack := envOfC qual scope s.heap.objs.size f cd :: outer
  ex := []
  calm := true
  fn := fun _ => true
  pn := []
  xe := fun e s' => wpAny (model P w) (A.deeper (envOfC qual scope s.heap.objs.size f cd)) (leaving (envOfC qual scope s.heap.objs.size f cd) e) (fun _ s'' => CX outer H s E e s'') (fun e' s'' => CX outer H s E e' s'') s'

theorem cell_has {sc : Scope} {n : Nat} {x : Str} (h : sc.names.lookup x = some .cell) : ∃ c, (cellsFrom n sc.names []).lookup x = some c := by
  have q := PySem.W.cellsFrom_some sc.names n [] (.inl h)
  exact Option.isSome_iff_exists.mp q

theorem inv_start {CX : CXT} {P : Program} {w : World} {K : PySem.W.Frag} {mg : Str → Option Value} {base : Heap} {N ps : List Str} {qual : Str} {scope : Scope} {f : Addr} {cd : Value} {A : Around} {outer : List Env} {s s1 : Shared} {H : Hp} {E : XK} {us : List Value} {vs : List V}
    (S : FnScope N ps scope) (hd : A.handled = none) (e0 : Env0 P w K mg base A outer s H) (hl : vs.length = ps.length) (r : Vals vs us)
    (x : InCallC s s.heap.objs.size (bindL (envOfC qual scope s.heap.objs.size f cd).kindOf (ps.zip us) fun _ => none) (cellsFrom (s.heap.objs.size + 1) scope.names []) (bindC (envOfC qual scope s.heap.objs.size f cd).kindOf (ps.zip us) fun _ => none) s1) :
    Inv (cxOf CX P w K mg base N qual scope f cd A outer s H E) [] (start N vs) H s1 := by
  have hpl : ps.length ≤ N.length := by have := congrArg List.length S.pre; rw [List.length_take] at this; omega
  obtain ⟨h1, tk, rfl, hk⟩ := x.done
  have noA : ∀ b : Addr, b ∉ (cxOf CX P w K mg base N qual scope f cd A outer s H E).ex := fun b z => absurd (show b ∈ ([] : List Addr) from z) (by simp)
  refine ⟨⟨e0.mod, S.kind, rfl, rfl, Nat.le_refl _, fun y z c h1 h2 => ?_, fun y hy => ?_, fun y c _ h => ?_, fun _ => hd, Around.frames_deeper e0.frames, .inr ⟨rfl, rfl⟩, fun b z => absurd z (noA b), e0.bs, e0.bsz, fun b _ _ => noA b, fun b z => absurd z (noA b), e0.funs, e0.frf⟩,
    rfl, e0.bare, Un.kept hk, ⟨_, x.toInCall.ns, fun i y v h1 h2 h3 => ?_⟩, fun y c h => ⟨_, x.cell y c h⟩, e0.hok.fresh (Nat.le_refl _), fun y c h => ?_, fun p hp => absurd (show p ∈ ([] : List (Addr × Obj)) from hp) (by simp), e0.hok.kept hk, ?_⟩
  · exact name_of_addr x.apart (PySem.mem_of_lookup h1) (PySem.mem_of_lookup h2)
  · have hy : scope.names.lookup y = some .cell ∨ scope.names.lookup y = some .free := hy
    rcases hy with hy | hy
    · exact cell_has hy
    · exact absurd rfl (S.nofree _ (PySem.mem_of_lookup hy))
  · exact Nat.le_of_lt (x.above y c (PySem.mem_of_lookup h))
  · have hi : i < vs.length := by
      unfold start at h2
      by_cases hi : i < vs.length
      · exact hi
      · rw [List.getElem?_append_right (by simpa using hi)] at h2
        rw [List.getElem?_replicate] at h2
        split at h2 <;> cases h2
    have ha : vs[i]? = some v := by
      unfold start at h2
      rw [List.getElem?_append_left (by simpa using hi), List.getElem?_map] at h2
      cases e : vs[i]? with
      | none => rw [e] at h2; cases h2
      | some a => rw [e] at h2; cases h2; rfl
    obtain ⟨u, hu, rv⟩ := r.get ha
    have hp : ps[i]? = some y := by
      rw [← S.pre, List.getElem?_take_of_lt (by omega)]; exact h1
    have ndP : ps.Nodup := by rw [← S.pre]; exact S.nd.sublist (List.take_sublist _ _)
    refine ⟨u, rv, ?_⟩
    rcases S.par y (List.mem_of_getElem? hp) with k | k
    · exact .inl ⟨k, bindL_get ndP hp hu k⟩
    · obtain ⟨c, e⟩ := cell_has (n := s.heap.objs.size + 1) k
      refine .inr ⟨.inl k, c, e, ?_⟩
      have q := x.cell y c e
      rw [bindC_get ndP hp hu (by show scope.names.lookup y ≠ _; rw [k]; decide)] at q
      exact q
  · exact e0.hok.fresh (Nat.le_of_lt (x.above y c (PySem.mem_of_lookup h)))
  · unfold start
    show _ = N.length
    rw [List.length_append, List.length_map, List.length_replicate]
    omega

/-- THE RULE: a def (or a method) of the text, by its body. The body's reading t is chosen for each entry; it is run at the parameters' values -/
theorem fn_of {CX : CXT} {P : Program} {w : World} {K : PySem.W.Frag} {mg : Str → Option Value} {base : Heap} {k : Nat} {f : Addr} {name qual : Str} {params : Arguments} {body : List Stmt} {scope : Scope} {dV kV doc pm cdv ct oc : Value} {an od : Option Addr}
    {osl : Array (Option Value)} {N ps : List Str} {sp : Sp} (lk : K.lookup f = some ⟨oc, od, .func (PySem.W.fnOf name qual params body scope dV kV doc pm an cdv ct), osl⟩) (hcd : PySem.W.codeIn K cdv qual = true) (S : FnScope N ps scope)
    (len : ∀ vs H Q E, sp vs H Q E → vs.length = ps.length)
    (hbody : ∀ (A : Around) (outer : List Env) (s : Shared) (H : Hp) (vs : List V) (Q : VK) (E : XK), Room k (A.deeper (envOfC qual scope s.heap.objs.size f cdv)) → sp vs H Q E →
      ∃ t, PSs (cxOf CX P w K mg base N qual scope f cdv A outer s H E) body t ∧ t { nx := fun _ H' => Q .non H', rt := Q } (start N vs) H) :
    FnOk P w K mg base CX (k + 1) f (PySem.W.fnOf name qual params body scope dV kV doc pm an cdv ct) ps sp := by
  refine ⟨len, fun A outer s H args us vs Q E hr e0 hb r hsp => ?_⟩
  have hl := len _ _ _ _ hsp
  have KX : K.In s.heap := e0.mod.kin.keeps fun b o e => (e0.bs b o e).1
  have lim : s.heap.NoLimit := e0.mod.nolimit.keeps fun b o e => (e0.bs b o e).1
  have hkind : ∀ y ∈ ps.zip us, scope.names.lookup y.1 = some .local ∨ (scope.names.lookup y.1 = some .cell ∧ ((cellsFrom (s.heap.objs.size + 1) scope.names []).lookup y.1).isSome = true) := fun ⟨n, v⟩ hy => by
    rcases S.par n (List.of_mem_zip hy).1 with q | q
    · exact .inl q
    · exact .inr ⟨q, PySem.W.cellsFrom_some _ _ _ (.inl q)⟩
  refine codeAny_call_function hr.depth (KX _ _ lk) rfl S.co S.gen rfl (PySem.W.codeRec_of KX hcd) (hb _ _ _ _ ?_)
  refine wpAny_newFunctionEnv_cells S.kind hkind fun env he s1 x => ?_
  subst he
  refine ⟨lim.keeps x.toInCall.keep, codeAny_func ?_⟩
  obtain ⟨t, ht, hq⟩ := hbody A outer s H vs Q E (hr.deeper _) hsp
  have I : Inv (cxOf CX P w K mg base N qual scope f cdv A outer s H E) [] (start N vs) H s1 := inv_start S hr.hd e0 hl r x
  refine wpAny_mono (ht [] s1 (start N vs) H _ I hq) (fun fl s' hs => ?_) fun e s' hs => hs
  have fin : ∀ {σ' : St} {H' : Hp} {v : V} {u : Value}, Inv (cxOf CX P w K mg base N qual scope f cdv A outer s H E) [] σ' H' s' → RelV v u → Q v H' → CE outer P w H s Q u s' :=
    fun {σ' H' v u} J rv q => ⟨v, H', J.os, J.bare, J.base, J.hok, rv, q⟩
  cases fl with
  | ret u =>
    obtain ⟨v, σ', H', J, rv, q⟩ := hs
    exact fin J rv q
  | next =>
    obtain ⟨σ', H', J, q⟩ := hs
    exact fin (v := V.non) (u := Value.none) J rfl q
  | brk =>
    obtain ⟨_, _, _, q⟩ := hs
    exact False.elim q
  | cont =>
    obtain ⟨_, _, _, q⟩ := hs
    exact False.elim q
end L2

namespace L2
open PySem PySem.Spec PyProof.Rows
section
variable {X : Cx} {x : Str} {p pos : Pos} {e : Expr} {es : List Expr} {t : TA} {id T : String} {r : List V → Hp → VK → Prop}

def tCB (r : List V → Hp → VK → Prop) (t : TA) : TE := fun σ H Q => t σ H fun vs H1 => r vs H1 Q
/-- f(e, ..), f a built-in function -/
theorem pe_callB (hc : CallR X (.builtin id) r) (hg : Gl X x) (hm : X.mg x = none) (hv : bootBuiltins x = some (.builtin id)) (ha : PA X (e :: es) t) (hn : x ≠ "__name__" := by decide) (hdb : (x == ("__debug__" : Str)) = false := by decide)
    (he : starEach (e :: es) X.env = (false, eval e X.env) :: starEach es X.env := by rfl) (hpl : (backTo pos (starEach es X.env)).any (·.1) = false := by rfl) : PE X (.Call (.Name x p) (e :: es) [] pos) (tCB r t) := by
  intro pins s σ H Q I h
  refine wpAny_Call_Name_kw (ld_blt I hg hm hv ?_ hn hdb)
  exact PyProof.Rows.callWith_builtin1 (thn (ha pos pins s σ H _ I h) fun us s1 ⟨vs, H1, I1, r1, q1⟩ => hc pins s1 σ H1 vs us Q I1 r1 q1) he hpl
/-- T(e, ..), T a built-in type -/
theorem pe_callTy (hc : CallR X (.type T) r) (hg : Gl X x) (hm : X.mg x = none) (hv : bootBuiltins x = some (.type T)) (ha : PA X (e :: es) t) (hn : x ≠ "__name__" := by decide) (hdb : (x == ("__debug__" : Str)) = false := by decide)
    (he : starEach (e :: es) X.env = (false, eval e X.env) :: starEach es X.env := by rfl) (hpl : (backTo pos (starEach es X.env)).any (·.1) = false := by rfl) : PE X (.Call (.Name x p) (e :: es) [] pos) (tCB r t) := by
  intro pins s σ H Q I h
  refine wpAny_Call_Name_kw (ld_blt I hg hm hv ?_ hn hdb)
  exact PyProof.Rows.callWith_type1 (thn (ha pos pins s σ H _ I h) fun us s1 ⟨vs, H1, I1, r1, q1⟩ => hc pins s1 σ H1 vs us Q I1 r1 q1) he hpl
end
end L2

namespace HT
open PySem PyProof.Rows

section
open PySem.SeqAt
open PySem.AutoSeq1 (wpAny_loadPart')
open PySem.MeetsSeq PySem.MeetsSeq2 PySem.MeetsSeq3

end

section
variable {prog : Program} {w : World} {A : Around} {E : Value → Shared → Prop} {s : Shared}

/-! ### t[a:b], not the whole -/
/-- a slice's bound as a place among n (d where it is left out) -/
def sIx (n d : Nat) : Option Int → Nat
  | none => d
  | some v => if v < 0 then (v + (n : Int)).toNat else min v.toNat n
theorem sIx_nat (n d k : Nat) : sIx n d (some (k : Int)) = min k n := by
  show (if (k : Int) < 0 then ((k : Int) + (n : Int)).toNat else min (k : Int).toNat n) = min k n
  rw [if_neg (by omega), Int.toNat_natCast]
end
end HT

namespace L2
open PySem PySem.Spec PyProof.Rows

/-! ### the parts of a slice -/
abbrev TO := St → Hp → (Option Int → Hp → Prop) → Prop
/-- a slice's part (left out, or an int) -/
def PO (X : Cx) (e : Option Expr) (t : TO) : Prop :=
  ∀ (pins : List (Addr × Obj)) (s : Shared) (σ : St) (H : Hp) (Q : Option Int → Hp → Prop), Inv X pins σ H s → t σ H Q →
    wpAny (model X.prog X.w) X.A (evalPart e X.env) (fun u s' => ∃ o H', Inv X pins σ H' s' ∧ IsPart u o ∧ Q o H') X.xe s
def tPart (t : TE) : TO := fun σ H Q => t σ H fun x H1 => ∃ i, x = .int i ∧ Q (some i) H1

theorem intsAre_of {ns : List Int} : ∀ {us : List Value}, Vals (ns.map V.int) us → IntsAre us ns := by
  induction ns with
  | nil => intro us r; rw [List.map_nil] at r; cases r; exact .nil
  | cons n ns ih =>
    intro us r
    rw [List.map_cons] at r
    cases r with
    | cons r1 r2 =>
      obtain ⟨t, e⟩ := r1
      subst e
      exact .cons n t (ih r2)

section
variable {X : Cx} {e : Expr} {te : TE} {lo hi : Option Expr} {tl th : TO} {pos p2 : Pos}

theorem po_some (h : PE X e te) : PO X (some e) (tPart te) := by
  intro pins s σ H Q I hw
  rw [evalPart_some]
  refine thn (h pins s σ H _ I hw) fun u s1 ⟨x, H1, I1, r1, q1⟩ => ?_
  obtain ⟨i, rfl, q⟩ := q1
  obtain ⟨t, rfl⟩ := r1
  exact ⟨some i, H1, I1, .int i t, q⟩

/-- what a slice of a value is, by values: the slice object stands at sl -/
def SlR (X : Cx) (r : V → Option Int → Option Int → Hp → VK → Prop) : Prop :=
  ∀ (pins : List (Addr × Obj)) (s : Shared) (σ : St) (H : Hp) (x : V) (v vl vu : Value) (lo hi : Option Int) (sl : Addr) (Q : VK), Inv X pins σ H s → RelV x v → s.heap.IsSliceOf sl vl vu .none → IsPart vl lo → IsPart vu hi → r x lo hi H Q →
    ∃ T id, typeLookup (.type T) "__getitem__" = pure (some (.builtin id)) ∧ s.TypeIs v T ∧ wpAny (model X.prog X.w) X.A (getItem v (.ref sl)) (EP X pins σ Q) X.xe s
def tSl (r : V → Option Int → Option Int → Hp → VK → Prop) (te : TE) (tl th : TO) : TE := fun σ H Q => te σ H fun x H1 => tl σ H1 fun l H2 => th σ H2 fun u H3 => r x l u H3 Q
/-- a[lo:hi], any a -/
theorem pe_slice {r : V → Option Int → Option Int → Hp → VK → Prop} (hr : SlR X r) (he : PE X e te) (hl : PO X lo tl) (hu : PO X hi th) : PE X (.Subscript e (.Slice lo hi none p2) pos) (tSl r te tl th) := by
  intro pins s σ H Q I h
  refine Subscript_ (thn (he pins s σ H _ I h) fun v s1 ⟨x, H1, I1, r1, q1⟩ => ?_)
  refine wpAny_Slice (thn (hl pins s1 σ H1 _ I1 q1) fun vl s2 ⟨l, H2, I2, pl, q2⟩ => thn (hu pins s2 σ H2 _ I2 q2) fun vu s3 ⟨u, H3, I3, pu, q3⟩ => ?_)
  rw [evalPart_none]
  refine wpAny_pure ?_
  have I4 : Inv X pins σ H3 { s3 with heap := s3.heap.push { cls := .type "slice", data := .fields #[vl, vu, .none] } } := I3.kept (t' := s3.toks) fun b ob q => Heap.get?_push_of_some _ q
  obtain ⟨T, id, hT, ht, hg⟩ := hr pins { s3 with heap := s3.heap.push { cls := .type "slice", data := .fields #[vl, vu, .none] } } σ H3 x v vl vu l u s3.heap.objs.size Q I4 r1 (Heap.IsSliceOf.new ..) pl pu q3
  show wpAny (model X.prog X.w) X.A (subscriptTail e (.Slice lo hi none p2) v (.ref s3.heap.objs.size)) (EP X pins σ Q) X.xe { s3 with heap := s3.heap.push { cls := .type "slice", data := .fields #[vl, vu, .none] } }
  exact tail_any (ops := [.ref s3.heap.objs.size, v]) ht hT hg (by with_unfolding_all rfl)

/-- the items of xs[lo:hi] -/
def cutV (xs : List V) (lo hi : Option Int) : List V := (xs.drop (HT.sIx xs.length 0 lo)).take (HT.sIx xs.length xs.length hi - HT.sIx xs.length 0 lo)
theorem cutV_length (xs : List V) (lo hi : Option Int) : (cutV xs lo hi).length ≤ xs.length := by
  unfold cutV
  rw [List.length_take, List.length_drop]
  omega
/-! ### t < u, t + u -/
end
end L2

namespace L2
open PySem PySem.Spec PyProof.Rows

/-! ### places -/
/-- the place that an index of any sign means -/
def ixN (n : Nat) (i : Int) : Option Nat := if 0 ≤ i then (if i < n then some i.toNat else none) else if -(n : Int) ≤ i then some (i + n).toNat else none
def atI {α : Type} (xs : List α) (i : Int) : Option α := (ixN xs.length i).bind fun j => xs[j]?
theorem ixN_seq {n : Nat} {i : Int} {j : Nat} (h : ixN n i = some j) : seqIndex? i n = some j ∧ j < n ∧ -(n : Int) ≤ i ∧ i < n := by
  unfold ixN at h
  by_cases h0 : 0 ≤ i
  · rw [if_pos h0] at h
    by_cases h1 : i < n
    · rw [if_pos h1] at h
      have e : i.toNat = j := Option.some.inj h
      exact ⟨by rw [seqIndex_of h0 h1, e], by omega, by omega, h1⟩
    · rw [if_neg h1] at h; cases h
  · rw [if_neg h0] at h
    by_cases h1 : -(n : Int) ≤ i
    · rw [if_pos h1] at h
      have e : (i + n).toNat = j := Option.some.inj h
      exact ⟨by rw [seqIndex_neg (by omega) h1, e], by omega, h1, by omega⟩
    · rw [if_neg h1] at h; cases h
theorem atI_get {α : Type} {xs : List α} {i : Int} {v : α} (h : atI xs i = some v) : ∃ j, seqIndex? i xs.length = some j ∧ xs[j]? = some v ∧ j < xs.length ∧ -(xs.length : Int) ≤ i ∧ i < xs.length := by
  unfold atI at h
  cases e : ixN xs.length i with
  | none => rw [e] at h; cases h
  | some j =>
    rw [e] at h
    obtain ⟨h1, h2, h3, h4⟩ := ixN_seq e
    exact ⟨j, h1, h, h2, h3, h4⟩
theorem atI_nat {α : Type} {xs : List α} {j : Nat} {v : α} (h : xs[j]? = some v) : atI xs (j : Int) = some v := by
  have hj : j < xs.length := (List.getElem?_eq_some_iff.mp h).1
  have e : ixN xs.length (j : Int) = some j := by
    unfold ixN
    rw [if_pos (by omega), if_pos (by omega)]; simp
  unfold atI; rw [e]; exact h
/-! ### what may be subscripted -/
/-- what stands as an index of a plain subscript -/
def PlainIx (b : Expr) : Prop := ∀ o i, subscripted b false o i = operate [o, i] (getItem o i)
/-- a subscript by values -/
def IxR (X : Cx) (r : R2) : Prop :=
  ∀ (value slice : Expr) (pins : List (Addr × Obj)) (s : Shared) (σ : St) (H : Hp) (x y : V) (v u : Value) (Q : VK), Inv X pins σ H s → RelV x v → RelV y u → r x y H Q →
    subscripted slice false v u = operate [v, u] (getItem v u) → wpAny (model X.prog X.w) X.A (subscriptTail value slice v u) (EP X pins σ Q) X.xe s
/-- a call of a builtin's method by values: the receiver, the arguments -/
def MtR (X : Cx) (id : String) (r : V → List V → Hp → VK → Prop) : Prop :=
  ∀ (pins : List (Addr × Obj)) (s : Shared) (σ : St) (H : Hp) (x : V) (xs : List V) (v : Value) (us : List Value) (Q : VK), Inv X pins σ H s → RelV x v → Vals xs us → r x xs H Q →
    wpAny (model X.prog X.w) X.A (call (.builtin id) (v :: us)) (EP X pins σ Q) X.xe s
section
variable {X : Cx} {a b : Expr} {ta tb : TE} {pos : Pos}
theorem IxR.or {r r' : R2} (h : IxR X r) (h' : IxR X r') : IxR X (fun x y H Q => r x y H Q ∨ r' x y H Q) := by
  intro value slice pins s σ H x y v u Q I rx ry q hs
  rcases q with q | q
  · exact h value slice pins s σ H x y v u Q I rx ry q hs
  · exact h' value slice pins s σ H x y v u Q I rx ry q hs
/-- a[b] -/
theorem pe_ix {r : R2} (hr : IxR X r) (ha : PE X a ta) (hb : PE X b tb) (hs : PlainIx b) : PE X (.Subscript a b pos) (tOp r ta tb) := by
  intro pins s σ H Q I h
  exact Subscript_ (binT ha hb I h fun v u s2 x y H2 I2 rx ry q => hr a b pins s2 σ H2 x y v u Q I2 rx ry q (hs _ _))

def rIxL (K : PySem.W.Frag) : R2 := fun x y H Q => ∃ p xs i v, x = .ref p ∧ y = .int i ∧ SqL K H p xs ∧ atI xs i = some v ∧ Q v H
def rIxT (K : PySem.W.Frag) : R2 := fun x y H Q => ∃ p xs i v, x = .ref p ∧ y = .int i ∧ SqT K H p xs ∧ atI xs i = some v ∧ Q v H
theorem ix_list : IxR X (rIxL X.K) := by
  intro value slice pins s σ H x y v u Q I rx ry h hs
  obtain ⟨p, xs, i, z, rfl, rfl, hq, he, q⟩ := h
  cases rx
  obtain ⟨t, rfl⟩ := ry
  obtain ⟨its, r, pl, hz⟩ := I.list hq
  obtain ⟨j, h1, h2, h3, h4, h5⟩ := atI_get he
  obtain ⟨w, ew, rw'⟩ := r.get h2
  have hl := r.length
  have hn := line63
  have fin : EP X pins σ Q w s := ⟨z, H, I, rw', q⟩
  by_cases h0 : 0 ≤ i
  · have hj : i.toNat = j := by
      rw [seqIndex_of h0 h5] at h1
      exact Option.some.inj h1
    exact item_listR pl.isList h0 (by omega) (by rw [hj]; simpa using ew) fin hs
  · have hj : (i + (its.toArray.size : Int)).toNat = j := by
      rw [seqIndex_neg (by omega) h4] at h1
      rw [List.size_toArray, ← hl]
      exact Option.some.inj h1
    exact subscriptTail_builtinR (x := w) pl.isList.typeIs slot_list_getitem.lookup
      (wpAny_getItem_list_neg (Q := fun r s' => r = w ∧ EP X pins σ Q r s') pl.isList (by omega) (by rw [List.size_toArray] <;> omega) (by omega) (by rw [hj]; simpa using ew) ⟨rfl, fin⟩) hs
theorem ix_tup : IxR X (rIxT X.K) := by
  intro value slice pins s σ H x y v u Q I rx ry h hs
  obtain ⟨p, xs, i, z, rfl, rfl, hq, he, q⟩ := h
  cases rx
  obtain ⟨t, rfl⟩ := ry
  obtain ⟨its, r, pl, hz⟩ := I.tuple hq
  obtain ⟨j, h1, h2, h3, h4, h5⟩ := atI_get he
  obtain ⟨w, ew, rw'⟩ := r.get h2
  have hl := r.length
  have hn := line63
  have fin : EP X pins σ Q w s := ⟨z, H, I, rw', q⟩
  exact subscriptTail_builtinR (x := w) pl.typeIs slot_tuple_getitem.lookup
    (getItem_tuple (j := j) (Q := fun r s' => r = w ∧ EP X pins σ Q r s') pl (by omega) (by omega) (by rw [List.size_toArray, ← hl]; exact h1) (by simpa using ew) ⟨rfl, fin⟩) hs
/-! ### xs[i] = v, any sign -/
/-- the list's object behind a store -/
theorem mapSeq_set (its : List Value) (n j : Nat) (u : Value) : Obj.mapSeq (·.setIfInBounds j u) { cls := .type "list", data := .seq its.toArray n } = { cls := .type "list", data := .seq (its.set j u).toArray n } := by
  simp [Obj.mapSeq]
theorem Inv.lst {pins : List (Addr × Obj)} {σ : St} {H : Hp} {s : Shared} {p : Addr} {xs : List V} (I : Inv X pins σ H s) (h : H p = some (.lst xs)) :
    ∃ (its : List Value) (n : Nat), Vals xs its ∧ s.heap.get? p = some { cls := .type "list", data := .seq its.toArray n } ∧ xs.length ≤ sizeLine := by
  obtain ⟨z, its, n, r, e⟩ := I.hok p _ h
  exact ⟨its, n, r, e, z⟩
/-- the list at p is written by an update of its object -/
theorem Inv.lstUpd {pins : List (Addr × Obj)} {σ : St} {H : Hp} {s : Shared} {p : Addr} {xs ys : List V} {its its' : List Value} {n n' : Nat} {f : Obj → Obj} (I : Inv X pins σ H s) (h : H p = some (.lst xs))
    (ho : s.heap.get? p = some { cls := .type "list", data := .seq its.toArray n }) (hf : f { cls := .type "list", data := .seq its.toArray n } = { cls := .type "list", data := .seq its'.toArray n' }) (r : Vals ys its') (hz : ys.length ≤ sizeLine) (t : Nat) :
    Inv X pins σ (upd H p (.lst ys)) { s with heap := s.heap.update p f, toks := t } := by
  have e : (s.heap.update p f).get? p = some { cls := .type "list", data := .seq its'.toArray n' } := by
    rw [Heap.get?_update_self f ho (by rw [hf] <;> rfl), hf]
  refine I.write (x := p) (e := p) (by rw [h]; trivial) (.inl rfl) (fun b u hb q => (Heap.get?_update_other _ _ (Ne.symm hb)).trans q) ⟨_, e⟩ ?_
  exact ⟨hz, its', n', r, e⟩
def rSetL : V → V → V → Hp → (Hp → Prop) → Prop := fun o i v H Q => ∃ p xs k j, o = .ref p ∧ i = .int k ∧ H p = some (.lst xs) ∧ ixN xs.length k = some j ∧ Q (upd H p (.lst (xs.set j v)))
theorem set_list : PSet X rSetL := by
  intro pins s σ H o i v ov iv u Q I ro ri rv h
  obtain ⟨p, xs, k, j, rfl, rfl, hp, hj, q⟩ := h
  cases ro
  obtain ⟨t, rfl⟩ := ri
  obtain ⟨its, n, r, ho, hz⟩ := I.lst hp
  obtain ⟨h1, h2, h3, h4⟩ := ixN_seq hj
  have hl := r.length
  have hn := line63
  have I' : Inv X pins σ (upd H p (.lst (xs.set j v))) { s with heap := s.heap.update p (Obj.mapSeq (·.setIfInBounds j u)) } :=
    I.lstUpd hp ho (mapSeq_set its n j u) (r.set rv j) (by rw [List.length_set]; exact hz) s.toks
  by_cases h0 : 0 ≤ k
  · have hk : k.toNat = j := by
      rw [seqIndex_of h0 h4] at h1
      exact Option.some.inj h1
    exact PySem.W.ki_setAt ho h0 (by omega) (by rw [List.size_toArray, ← hl]; exact h4) (by rw [hk]; exact ⟨_, I', q⟩)
  · have hk : (k + (its.toArray.size : Int)).toNat = j := by
      rw [seqIndex_neg (by omega) h3] at h1
      rw [List.size_toArray, ← hl]
      exact Option.some.inj h1
    exact PySem.W.ki_setBack ho (by omega) (by rw [List.size_toArray, ← hl]; exact h3) (by omega) (by rw [hk]; exact ⟨_, I', q⟩)

/-! ### slices -/
theorem slice_bounds (lo hi : Option Int) (n : Nat) : (sliceBounds lo hi none n).1 = ((HT.sIx n 0 lo : Nat) : Int) ∧ (sliceBounds lo hi none n).2.1 = ((HT.sIx n n hi : Nat) : Int) ∧ (sliceBounds lo hi none n).2.2 = 1 := by
  refine ⟨?_, ?_, rfl⟩
  · cases lo with
    | none => simp [sliceBounds, HT.sIx]
    | some i =>
      simp only [sliceBounds, HT.sIx, Option.getD_none, show (1 : Int) > 0 by decide, if_true]
      by_cases h : i < 0
      · simp only [h, if_true] <;> omega
      · simp only [h, if_false] <;> omega
  · cases hi with
    | none => simp [sliceBounds, HT.sIx]
    | some i =>
      simp only [sliceBounds, HT.sIx, Option.getD_none, show (1 : Int) > 0 by decide, if_true]
      by_cases h : i < 0
      · simp only [h, if_true] <;> omega
      · simp only [h, if_false] <;> omega
theorem slicePick_cut (its : List Value) (lo hi : Option Int) : slicePick its.toArray lo hi none = ((its.drop (HT.sIx its.length 0 lo)).take (HT.sIx its.length its.length hi - HT.sIx its.length 0 lo)).toArray := by
  obtain ⟨h1, h2, h3⟩ := slice_bounds lo hi its.toArray.size
  unfold slicePick
  rw [h1, h2, h3]
  simp only [sliceRange_one, pick_run, List.size_toArray] <;> rfl
/-- xs[lo:hi] of a list: a new list -/
def rSlL (K : PySem.W.Frag) : V → Option Int → Option Int → Hp → VK → Prop := fun x lo hi H Q => ∃ a xs, x = .ref a ∧ SqL K H a xs ∧ ∀ p, H p = none → Q (.ref p) (upd H p (.lst (cutV xs lo hi)))
theorem sl_list : SlR X (rSlL X.K) := by
  intro pins s σ H x v vl vu lo hi sl Q I rx hs pl pu h
  obtain ⟨a, xs, rfl, hx, q⟩ := h
  cases rx
  obtain ⟨its, r, ht, hz⟩ := I.list hx
  have hlen := r.length
  refine ⟨"list", _, slot_list_getitem.lookup, ht.isList.typeIs, ?_⟩
  refine wpAny_getItem_list_slice ht.isList hs pl pu .none (by simp) ?_ (by rw [List.size_toArray] <;> omega)
  rw [slicePick_cut, ← hlen]
  refine ⟨.ref s.heap.objs.size, _, I.laid (t' := s.toks) (o := .lst (cutV xs lo hi)) (fun b ob q => Heap.get?_push_of_some _ q) (Nat.le_refl _) ?_, rfl, q _ (I.hok.fresh (Nat.le_refl _))⟩
  exact ⟨Nat.le_trans (cutV_length xs lo hi) hz, _, 0, (r.drop (HT.sIx xs.length 0 lo)).take (HT.sIx xs.length xs.length hi - HT.sIx xs.length 0 lo), Heap.get?_push_size _ rfl⟩

/-! ### in, not in: flat items -/
/-! ### len, list(x), tuple(x) of any list or tuple that is read -/
theorem call_len_seq : CallR X (.builtin "len") (fun xs H Q => ∃ p ys, xs = [.ref p] ∧ (SqL X.K H p ys ∨ SqT X.K H p ys) ∧ Q (.int ys.length) H) := by
  intro pins s σ H xs us Q I r h
  obtain ⟨p, ys, rfl, hq, q⟩ := h
  obtain ⟨u, rfl, rx⟩ := vals1 r
  cases rx
  have hn := line63
  rcases hq with hq | hq
  · obtain ⟨its, r', pl, hz⟩ := I.list hq
    have hlen := r'.length
    exact Calls.call_len_list pl.isList (by simp only [List.size_toArray] <;> omega) ⟨.int ys.length, H, I.tok _, ⟨s.toks + 1, by rw [List.size_toArray, hlen]⟩, q⟩
  · obtain ⟨its, r', pl, hz⟩ := I.tuple hq
    have hlen := r'.length
    exact len_tuple pl (by simp only [List.size_toArray] <;> omega) ⟨.int ys.length, H, I.tok _, ⟨s.toks + 1, by rw [List.size_toArray, hlen]⟩, q⟩
theorem call_list_of : CallR X (.type "list") (fun xs H Q => ∃ p ys, xs = [.ref p] ∧ (SqL X.K H p ys ∨ SqT X.K H p ys) ∧ ∀ l, H l = none → Q (.ref l) (upd H l (.lst ys))) := by
  intro pins s σ H xs us Q I r h
  obtain ⟨p, ys, rfl, hq, q⟩ := h
  obtain ⟨u, rfl, rx⟩ := vals1 r
  cases rx
  have fin : ∀ (its : List Value), Vals ys its → ys.length ≤ sizeLine → ∀ (h' : Heap) (c' : Nat), (∀ b o', s.heap.get? b = some o' → h'.get? b = some o') →
      h'.get? s.heap.objs.size = some { cls := .type "list", dict := none, data := .seq its.toArray c', slots := #[] } → EP X pins σ Q (.ref s.heap.objs.size) { s with heap := h' } := fun its r' hz h' c' kp e =>
    ⟨.ref s.heap.objs.size, _, I.laid (t' := s.toks) kp (Nat.le_refl _) (show ObjOk X.prog X.w _ h' _ (.lst ys) from ⟨hz, its, c', r', e⟩), rfl, q _ (I.hok.fresh (Nat.le_refl _))⟩
  rcases hq with hq | hq
  · obtain ⟨its, r', pl, hz⟩ := I.list hq
    have hlen := r'.length
    obtain ⟨o, ho, hc, n, hd⟩ := pl.isList
    exact call_list_seq p (.inl rfl) ho hc hd (fun h' c' kp e => fin its r' hz h' c' kp e) (by simp only [List.size_toArray] <;> omega)
  · obtain ⟨its, r', pl, hz⟩ := I.tuple hq
    have hlen := r'.length
    obtain ⟨o, ho, hc, n, hd⟩ := pl
    exact call_list_seq p (.inr rfl) ho hc hd (fun h' c' kp e => fin its r' hz h' c' kp e) (by simp only [List.size_toArray] <;> omega)
/-! ### the call of a builtin's method: o.m(..) -/
/-- the value is of that builtin type -/
def tyV (K : PySem.W.Frag) (T : String) (x : V) (H : Hp) : Prop := match x with
  | .str _ => T = "str"
  | .int _ => T = "int"
  | .ref p => (T = "list" ∧ ∃ xs, SqL K H p xs) ∨ (T = "tuple" ∧ ∃ o, K.lookup p = some o ∧ o.cls = .type "tuple" ∧ o.dict = none) ∨
      (T = "dict" ∧ ((∃ kvs, H p = some (.dK kvs)) ∨ ∃ kvs, H p = some (.dT kvs))) ∨ (T = "set" ∧ ∃ S n, H p = some (.set S n))
  | _ => False
theorem tyV_is {pins : List (Addr × Obj)} {σ : St} {H : Hp} {s : Shared} {T : String} {x : V} {v : Value} (I : Inv X pins σ H s) (r : RelV x v) (ty : tyV X.K T x H) :
    s.TypeIs v T ∧ ∀ a, v = .ref a → ∃ ob, s.heap.get? a = some ob ∧ ob.dict = none := by
  cases x with
  | str z =>
    obtain ⟨t, rfl⟩ := r
    cases (show T = "str" from ty)
    exact ⟨typeIs_str s z t, fun _ e => nomatch e⟩
  | int i =>
    obtain ⟨t, rfl⟩ := r
    cases (show T = "int" from ty)
    exact ⟨typeIs_int s i t, fun _ e => nomatch e⟩
  | ref p =>
    cases r
    rcases ty with ⟨rfl, xs, hq⟩ | ⟨rfl, o, hk, hc, hd⟩ | ⟨rfl, hk⟩ | ⟨rfl, S, n, hk⟩
    · obtain ⟨its, _, pl, _⟩ := I.list hq
      refine ⟨pl.isList.typeIs, fun a e => ?_⟩
      cases e
      obtain ⟨o, n, e, c, hd, _⟩ := pl
      exact ⟨o, e, hd⟩
    · refine ⟨⟨o, I.kIn p o hk, hc⟩, fun a e => ?_⟩
      cases e
      exact ⟨o, I.kIn _ o hk, hd⟩
    · have z : ∃ o, s.heap.get? p = some o ∧ o.ExactDict := by
        rcases hk with ⟨kvs, hk⟩ | ⟨kvs, hk⟩
        · obtain ⟨_, _, _, _, o, _, _, e, ex, _⟩ := I.hok p _ hk
          exact ⟨o, e, ex⟩
        · obtain ⟨_, _, _, _, o, _, _, e, ex, _⟩ := I.hok p _ hk
          exact ⟨o, e, ex⟩
      obtain ⟨o, e, ex⟩ := z
      refine ⟨⟨o, e, ex.1⟩, fun a e2 => ?_⟩
      cases e2
      exact ⟨o, e, ex.2.1⟩
    · obtain ⟨o, _, _, _, e, ex, _⟩ := I.hok p _ hk
      refine ⟨⟨o, e, ex.1⟩, fun a e2 => ?_⟩
      cases e2
      exact ⟨o, e, ex.2.1⟩
  | _ => exact False.elim ty
def tBM0 (K : PySem.W.Frag) (T : String) (r : V → List V → Hp → VK → Prop) (to : TE) : TE := fun σ H Q => to σ H fun x H1 => tyV K T x H1 ∧ r x [] H1 Q
def tBM (K : PySem.W.Frag) (T : String) (r : V → List V → Hp → VK → Prop) (to : TE) (t : TA) : TE := fun σ H Q => to σ H fun x H1 => tyV K T x H1 ∧ t σ H1 fun xs H2 => r x xs H2 Q
variable {o e : Expr} {es : List Expr} {to : TE} {t : TA} {name : Str} {apos cpos : Pos} {T id : String} {r : V → List V → Hp → VK → Prop}
theorem pe_bm0 (pa : PlainAttrs T) (slot : Slot T name id) (hty : typeOf (.builtin id) = pure (.type "method_descriptor")) (hm : MtR X id r) (ho : PE X o to)
    (hbase : attributeBase o name X.env (eval o X.env) = eval o X.env := by rfl) (hline : (apos.endLine == cpos.line) = true := by rfl) : PE X (.Call (.Attribute o name apos) [] [] cpos) (tBM0 X.K T r to) := by
  intro pins s σ H Q I h
  refine wpAny_Call_method0_late hbase hline (thn (ho pins s σ H _ I h) fun v s1 ⟨x, H1, I1, r1, ty, q1⟩ => ?_)
  obtain ⟨h1, h2⟩ := tyV_is I1 r1 ty
  exact ⟨T, id, pa, slot, hty, h1, h2, Calls.callWith_builtin rfl (PySem.evalArgs_none (hm pins s1 σ H1 x [] v [] Q I1 r1 .nil q1))⟩
theorem pe_bm (pa : PlainAttrs T) (slot : Slot T name id) (hty : typeOf (.builtin id) = pure (.type "method_descriptor")) (hm : MtR X id r) (ho : PE X o to) (ha : PA X (e :: es) t)
    (hbase : attributeBase o name X.env (eval o X.env) = eval o X.env := by rfl)
    (hfew : ((backTo cpos (starEach (e :: es) X.env)).all (fun x => !x.1) && (backToKw cpos (keywordEach [] X.env)).all (fun x => x.1.isSome)
      && decide ((e :: es).length + ([] : List Keyword).length + (if ([] : List Keyword).isEmpty then 0 else 1) < 30)) = true := by rfl)
    (hline : (apos.endLine == cpos.line) = true := by rfl) (hs : starEach (e :: es) X.env = (false, eval e X.env) :: starEach es X.env := by rfl) (hplain : (backTo cpos (starEach es X.env)).any (·.1) = false := by rfl) :
    PE X (.Call (.Attribute o name apos) (e :: es) [] cpos) (tBM X.K T r to t) := by
  intro pins s σ H Q I h
  refine wpAny_Call_method_late hbase hfew hline rfl (thn (ho pins s σ H _ I h) fun v s1 ⟨x, H1, I1, r1, ty, q1⟩ => ?_)
  obtain ⟨h1, h2⟩ := tyV_is I1 r1 ty
  refine ⟨T, id, pa, slot, hty, h1, h2, ?_⟩
  have hA := ha cpos pins s1 σ H1 _ I1 q1
  rw [hs] at hA ⊢
  refine Calls.callWith_builtin (by show (false || (backTo cpos (starEach es X.env)).any (·.1)) = false; rw [hplain] <;> rfl) (Calls.evalArgs_plain ?_)
  exact thn hA fun us s2 ⟨vs, H2, I2, r2, q2⟩ => hm pins s2 σ H2 x vs v us Q I2 r1 r2 q2
/- xs.append(e), list.index on a module's tuple .. are MtR facts of 06m -/
end
end L2

namespace L2
open PySem PySem.Spec PyProof.Rows

def MtM (X : Cx) (id : String) (r : V → List V → Hp → VK → Prop) : Prop :=
  ∀ (pins : List (Addr × Obj)) (s : Shared) (σ : St) (H : Hp) (x : V) (xs : List V) (v : Value) (us : List Value) (Q : VK), Inv X pins σ H s → RelV x v → Vals xs us → r x xs H Q →
    wpAny (model X.prog X.w) X.A (call (.builtin id) (v :: us)) (EP X pins σ Q) X.xe s

/-! ### lists of values -/
theorem Vals.one : ∀ {x : V} {us : List Value}, Vals [x] us → ∃ u, us = [u] ∧ RelV x u
  | _, _, .cons r .nil => ⟨_, rfl, r⟩
theorem Vals.zero : ∀ {us : List Value}, Vals [] us → us = []
  | _, .nil => rfl
section
variable {X : Cx} {pins : List (Addr × Obj)} {σ : St} {H : Hp} {s : Shared} {l b : Addr} {xs ys zs : List V}

/-! ### the two steps: a tracked list is rewritten, a new list is laid -/
theorem Inv.lset {its its' : List Value} {n : Nat} {f : Array Value → Array Value} {t' : Nat} (I : Inv X pins σ H s) (hH : H l = some (.lst xs))
    (e : s.heap.get? l = some { cls := .type "list", data := .seq its.toArray n }) (hf : f its.toArray = its'.toArray) (hv : Vals ys its') (hz : ys.length ≤ sizeLine) :
    Inv X pins σ (upd H l (.lst ys)) { s with heap := s.heap.update l (Obj.mapSeq f), toks := t' } := by
  have q := PySem.IsL.update e f
  rw [hf] at q
  refine I.write (x := l) (e := l) (by rw [hH]; exact trivial) (.inl rfl) (fun b' u hb hu => (Heap.get?_update_other s.heap (Obj.mapSeq f) (Ne.symm hb)).trans hu) ⟨_, q⟩ ?_
  exact ⟨hz, its', _, hv, q⟩
theorem Inv.lstM (I : Inv X pins σ H s) (hH : H l = some (.lst xs)) : xs.length ≤ sizeLine ∧ ∃ (its : List Value) (n : Nat), Vals xs its ∧ xs.length = its.length ∧ s.heap.get? l = some { cls := .type "list", data := .seq its.toArray n } := by
  obtain ⟨z, its, n, r, e⟩ := I.hok l _ hH
  exact ⟨z, its, n, r, r.length, e⟩

theorem notLongL {n : Nat} (h : n ≤ sizeLine) : Builtin.List.listTooLong n = false := by
  unfold Builtin.List.listTooLong
  exact decide_eq_false (by omega)
end

section
variable {X : Cx}

/-! ### methods -/
def rAppend : V → List V → Hp → VK → Prop := fun x vs H Q => ∃ l xs y, x = .ref l ∧ vs = [y] ∧ H l = some (.lst xs) ∧ xs.length < sizeLine ∧ Q .non (upd H l (.lst (xs ++ [y])))
theorem mt_append : MtM X "list.append" rAppend := by
  intro pins s σ H x vs v us Q I rx rv h
  obtain ⟨l, xs, y, rfl, rfl, hH, hz, q⟩ := h
  cases rx
  obtain ⟨u, rfl, ru⟩ := rv.one
  obtain ⟨z, its, n, r, hl, e⟩ := I.lstM hH
  refine call_meets F.slot_list_append ⟨_, e, rfl⟩ F.entry_list_append (F.args_list_append_2 _ _) (PySem.list_append l its.toArray n u (by rw [List.size_toArray]; omega)) ⟨e, ?_⟩
  refine ⟨.non, _, I.lset (its' := its ++ [u]) hH e (by simp) (r.append (.cons ru .nil)) ?_, rfl, q⟩
  rw [List.length_append, List.length_singleton]
  omega

def rExtend : V → List V → Hp → VK → Prop := fun x vs H Q => ∃ l b xs zs, x = .ref l ∧ vs = [.ref b] ∧ H l = some (.lst xs) ∧ H b = some (.lst zs) ∧ xs.length + zs.length ≤ sizeLine ∧ Q .non (upd H l (.lst (xs ++ zs)))
theorem mt_extend : MtM X "list.extend" rExtend := by
  intro pins s σ H x vs v us Q I rx rv h
  obtain ⟨l, b, xs, zs, rfl, rfl, hH, hB, hz, q⟩ := h
  cases rx
  obtain ⟨u, rfl, ru⟩ := rv.one
  cases ru
  obtain ⟨z, its, n, r, hl, e⟩ := I.lstM hH
  obtain ⟨z2, its2, n2, r2, hl2, e2⟩ := I.lstM hB
  have hsz : its.toArray.size + its2.toArray.size ≤ sizeLine := by rw [List.size_toArray, List.size_toArray]; omega
  have hlong : ¬ (!its.toArray.isEmpty && Builtin.List.listTooLong (its.toArray.size + its2.toArray.size)) = true := by
    rw [notLongL hsz, Bool.and_false]
    exact Bool.false_ne_true
  refine call_meets F.slot_list_extend ⟨_, e, rfl⟩ F.entry_list_extend (F.args_list_extend_2 _ _)
    (AutoSeq1.list_extend_list_list_0 l its.toArray n b its2.toArray n2 hlong (by rw [List.size_toArray]; omega) (by omega)) ⟨e, e2, ?_⟩
  refine ⟨.non, _, I.lset (its' := its ++ its2) hH e (by simp) (r.append r2) ?_, rfl, q⟩
  rw [List.length_append]
  omega

def rClear : V → List V → Hp → VK → Prop := fun x vs H Q => ∃ l xs, x = .ref l ∧ vs = [] ∧ H l = some (.lst xs) ∧ Q .non (upd H l (.lst []))
theorem mt_clear : MtM X "list.clear" rClear := by
  intro pins s σ H x vs v us Q I rx rv h
  obtain ⟨l, xs, rfl, rfl, hH, q⟩ := h
  cases rx
  have hus := rv.zero
  subst hus
  obtain ⟨z, its, n, r, hl, e⟩ := I.lstM hH
  refine call_meets F.slot_list_clear ⟨_, e, rfl⟩ F.entry_list_clear (F.args_list_clear_1 _) (AutoSeq1.list_clear_list_0 l its.toArray n (by rw [List.size_toArray]; omega)) ⟨e, ?_⟩
  exact ⟨.non, _, I.lset (its' := []) (ys := []) hH e rfl .nil (Nat.zero_le _), rfl, q⟩

/-! ### list + list, list += list, list * int -/
/-! ### del xs[i] -/
end

/-! ### xs[a:b] = ys -/
section
variable {prog : Program} {w : World} {A : Around} {E : Value → Shared → Prop} {s : Shared}
end

section
variable {X : Cx}
end
end L2

namespace Att
open PySem PySem.W PySem.Calls PyProof.Rows

/-! ### the script -/
theorem ints_of_wellAll {P : Params} {h : Heap} : ∀ (ns : List Int) (vs : List Value), WellAll P h vs (ns.map WData.int) → IntsAre vs ns := by
  intro ns
  induction ns with
  | nil =>
    intro vs w
    rw [List.map_nil] at w
    cases w
    exact .nil
  | cons n ns ih =>
    intro vs w
    rw [List.map_cons] at w
    cases w with
    | cons a b =>
      cases a
      exact .cons _ _ (ih _ b)

theorem script_of {l : OpenLaw} {n : Nat} (hn : l.most = some n) {P : Params} {h : Heap} {args : List WData} {vals : List Value}
    (hpre : l.row.toRowW.claim.pre args = true) (hwl : WellAll P h vals args) :
    ∃ a vs ns, vals = [Value.ref a] ∧ args = [WData.list (ns.map WData.int)] ∧ h.get? a = some { cls := .type "list", data := .seq vs.toArray } ∧ IntsAre vs ns ∧ ns.length ≤ n := by
  have hsh : WShape.hasAll [] args [.list .int] = true := (pre_splitW hpre).1
  have hc : l.pre.holds [] { args := args } = true := (pre_splitW hpre).2
  obtain ⟨d, r, rfl, h1, h2⟩ := hasAllW_cons hsh
  obtain rfl := hasAllW_nil h2
  obtain ⟨xs, rfl, h3⟩ := hasW_list h1
  obtain ⟨ns, rfl⟩ := items_int h3
  have hlen : ns.length ≤ n := by
    unfold OpenLaw.pre at hc
    have h4 : (WTm.not (.lt (.lit (.int (n : Int))) (.len (.arg 0)))).holds [] { args := [.list (ns.map .int)] } = true := by
      have h4 := (holds_andW hc).1
      rw [hn] at h4
      exact h4
    have h5 := condW_of h4 (w_not (w_lt w_lit (w_len_list (w_arg rfl))))
    rw [List.length_map] at h5
    refine Nat.le_of_not_lt fun q => ?_
    have q' : (n : Int) < ((ns.length : Nat) : Int) := by omega
    first
      | (rw [decide_eq_true q'] at h5; exact absurd h5 (by decide))
      | (simp at h5; omega)
  cases hwl with
  | cons w1 w2 =>
    cases w2
    cases w1 with
    | list ho hall => exact ⟨_, _, ns, rfl, rfl, ho, ints_of_wellAll ns _ hall, hlen⟩

theorem post_true (l : OpenLaw) (args : List WData) : l.row.toRowW.claim.post args (.bool true) args = true :=
  postW_of (r := l.row.toRowW) (X := (true == true))
    (show WShape.has [] (.bool true) .bool = true by first | rfl | decide | simp [WShape.has, WShape.arms, WShape.armsAll])
    (show (WTm.eq .res (.lit (.bool true))).value [] { args := args, res := some (.bool true), after := args } = some (.bool (true == true)) from w_eq_bool (w_res rfl) w_lit) rfl

/-! ### the attachment: holds_open's last premise (the goal 'hc' behind k_head) from a wpAny of the law's body -/
/-- the same from a codeAny of the CALL (for a layer whose function contracts speak of calls) -/
theorem attach_call {l : OpenLaw} {n : Nat} {q : Program} {loose : List Str} {XP : (Str → Option Value) → Heap → Prop} {YP : World → Heap → Prop} {d : DefRec}
    (hn : l.most = some n) (hdf : d.params.defaults = [])
    (call : ∀ (w : World) (s₀ s₁ : Shared) (mg mb : Str → Option Value) (fa : Addr) (o : Obj) (pm cd doc : Value) (a : Addr) (vs : List Value) (ns : List Int),
      Ground q loose [] XP w s₀ mg mb s₁.heap → YP w s₁.heap →
      s₁.heap.get? fa = some o → o.data = .func (docDef d.name d.params d.body d.scope pm cd doc) → s₁.heap.CodeRec cd d.name → mg d.name = some (.ref fa) →
      s₁.heap.get? a = some { cls := .type "list", data := .seq vs.toArray } → IntsAre vs ns → ns.length ≤ n → s₁.gens = #[] →
      codeAny (model l.prog w) callerA (.call (.ref fa) ⟨[.ref a], []⟩) (fun r s' => r = .ok (.ret (.bool true)) ∧ OldK s₁.heap s'.heap ∧ s'.os = s₁.os ∧ AllBare s'.gens) s₁) :
    WalkO q loose XP YP l.row.toRowW d [] (fun f vs => PySem.call f vs) := by
  intro w s₀ s₁ mg mb G Y fa o pm cd doc dV kV ho hd hcd hD hmg hg args vals as hpre hlay hrd hwl hlo
  obtain rfl : dV = .none := Dflts.none hD hdf
  obtain rfl : kV = .none := Dflts.noKw hD
  obtain ⟨a, vs, ns, rfl, rfl, hobj, hints, hlen⟩ := script_of hn hpre hwl
  refine enter_call (codeAny_mono (call w s₀ s₁ mg mb fa o pm cd doc a vs ns G Y ho (fd_plain hd) hcd hmg hobj hints hlen hg) fun r s' hq => ?_)
  obtain ⟨rfl, h2, h3, h4⟩ := hq
  exact ⟨.inl ⟨.bool true, .bool true, [], rfl, fun _ => rfl, .bool true, post_true l _, fun _ => ⟨List.Pairwise.nil, fun _ hm => (nomatch hm)⟩⟩, h2, h3, h4⟩

/-! ### rules over ANY heap (no ledger) from facts about the written part K: the library's own take a ledger (News) for what they write -/
section
variable {prog : Program} {w : World} {A : Around} {E : Value → Shared → Prop} {s : Shared} {K : Frag}

/-! the whole heap as the ledger: makes every rule that writes through a ledger a rule over any heap -/
end
end Att

namespace L2
open PySem PySem.Spec PyProof.Rows

theorem vals_ints : ∀ {vs : List Value} {ns : List Int}, IntsAre vs ns → Vals (ns.map V.int) vs
  | _, _, .nil => .nil
  | _, _, .cons n t h => .cons ⟨t, rfl⟩ (vals_ints h)

/-- nothing is tracked but the script, known to the object (or it is an object of the module) -/
def Only (H : Hp) : Prop := ∀ b, H b = none ∨ ∃ o xs, H b = some (.frz o (.lst xs))

/-- THE HEAD: the law's promise, at the heap behind the top. F, the promise of the law's def, may use that base is part of the heap (so K.In base, base.Ns mainGlobals mg stand in Mod) -/
theorem law_call {P : Program} {w : World} {K : PySem.W.Frag} {mg mb : Str → Option Value} {CX : CXT} {k : Nat} {fa a : Addr} {fd : FuncData} {x : Str} {sp : Sp} {s₁ : Shared} {vs : List Value} {ns : List Int}
    (KX : K.In s₁.heap) (hns : s₁.heap.Ns mainGlobals mg) (hb : s₁.heap.Ns builtinsNs mb) (hbb : ∀ x : Str, x ≠ "__name__" → mb x = bootBuiltins x) (hlim : s₁.heap.NoLimit) (hg : s₁.gens = #[])
    (ha : s₁.heap.get? a = some { cls := .type "list", data := .seq vs.toArray }) (hi : IntsAre vs ns) (hl : ns.length ≤ sizeLine) (hr : Room k callerA)
    (F : ∀ base : Heap, K.In base → base.Ns mainGlobals mg → FnOk P w K mg base CX k fa fd [x] sp) (hbind : ∀ (s : Shared) (u : Value), BindsTo s fd ⟨[u], []⟩ [(x, u)])
    (hsp : ∀ H : Hp, Only H → SqL K H a (ns.map V.int) → sp [.ref a] H (fun v _ => v = .bl true) fun _ _ _ => False)
    (hCX : ∀ H e s', CX [] H s₁ (fun _ _ _ => False) e s' → False) :
    codeAny (model P w) callerA (.call (.ref fa) ⟨[.ref a], []⟩) (fun r s' => r = .ok (.ret (.bool true)) ∧ OldK s₁.heap s'.heap ∧ s'.os = s₁.os ∧ AllBare s'.gens) s₁ := by
  have rv := vals_ints hi
  have lenV := hi.length
  -- from an abstract heap in which nothing but the script may be tracked
  have core : ∀ H : Hp, Only H → SqL K H a (ns.map V.int) → HOk P w H s₁.heap → (∀ b, H b ≠ none → b = a) → (H a ≠ none → K.lookup a = none) →
      codeAny (model P w) callerA (.call (.ref fa) ⟨[.ref a], []⟩) (fun r s' => r = .ok (.ret (.bool true)) ∧ OldK s₁.heap s'.heap ∧ s'.os = s₁.os ∧ AllBare s'.gens) s₁ := by
    intro H hO hS hok hA hK
    have base_of : ∀ {b : Addr} {o : Obj}, s₁.heap.get? b = some o → H b = none → (hidT s₁.heap H).get? b = some o := fun e n => hidT_get e n
    have noA : ∀ {b : Addr} {o : Obj} {es : Array DictEntry} {ep : Nat}, s₁.heap.get? b = some o → o.data = .dict es ep → H b = none := fun {b o es ep} e d => by
      cases q : H b with
      | none => rfl
      | some u =>
        have e' : b = a := hA b (by rw [q]; simp)
        subst e'
        rw [ha] at e; cases e
        have d' : Data.seq vs.toArray _ = Data.dict es ep := d
        cases d'
    have nsK : ∀ {b : Addr} {m : Str → Option Value}, s₁.heap.Ns b m → (hidT s₁.heap H).Ns b m := fun {b m} ⟨o, es, ep, e, d, r⟩ => ⟨o, es, ep, base_of e (noA e d), d, r⟩
    have hKb : K.In (hidT s₁.heap H) := fun b o e => base_of (KX b o e) (by
      cases q : H b with
      | none => rfl
      | some u =>
        have e' : b = a := hA b (by rw [q]; simp)
        subst e'
        rw [hK (by rw [q]; simp)] at e; cases e)
    have hM : Mod K mg (hidT s₁.heap H) := ⟨hKb, nsK hns, ⟨mb, nsK hb, hbb⟩, let ⟨mc, h1, h2⟩ := hlim; ⟨mc, nsK h1, h2⟩⟩
    have e0 : Env0 P w K mg (hidT s₁.heap H) callerA [] s₁ H := ⟨rfl, hM, fun b o e => of_hidT e, Nat.le_of_eq (hidT_size _ _), trivial, fun b hb => absurd (show b ∈ ([] : List Addr) from hb) (by simp), hok, .of_eq hg⟩
    refine codeAny_mono ((F _ hKb (nsK hns)).run callerA [] s₁ H ⟨[.ref a], []⟩ [.ref a] [.ref a] _ _ hr e0 (hbind s₁ (.ref a)) (.cons rfl .nil) (hsp H hO hS)) fun r s' h => ?_
    cases r with
    | error e => exact (hCX H e s' h).elim
    | ok fl =>
      cases fl with
      | next => exact False.elim h
      | brk => exact False.elim h
      | cont => exact False.elim h
      | ret u =>
        obtain ⟨v, H', os, bare, un, hok', r', q⟩ := h
        have q' : v = .bl true := q
        subst q'
        obtain rfl : u = Value.bool true := r'
        refine ⟨rfl, OldK.of_keep fun b o e => ?_, os, bare⟩
        cases q : H b with
        | none => exact un.keep b o e q (by intro z; exact absurd (show b ∈ ([] : List Addr) from z) (by simp)) (by simp)
        | some u =>
          rcases hO b with z | ⟨ob, xs, z⟩
          · rw [q] at z; cases z
          · have z2 := un.frzs b ob _ z
            obtain ⟨e1, _⟩ := hok b _ z
            obtain ⟨e2, _⟩ := hok' b _ z2
            rw [e] at e1; cases e1
            exact e2
  cases hk : K.lookup a with
  | some o =>
    -- the script is one of the module's own objects
    have e := KX a o hk
    rw [ha] at e
    cases e
    refine core (fun _ => none) (fun _ => .inl rfl) (.inr ⟨_, vs.toArray, _, hk, rfl, rfl, rfl, by rw [List.size_toArray, lenV]; exact hl, by simpa using rv⟩) (fun b u z => by have z' : (none : Option HO) = some u := z; cases z') (fun b z => absurd rfl z) fun z => absurd rfl z
  | none =>
    refine core (fun b => if b = a then some (.frz { cls := .type "list", data := .seq vs.toArray } (.lst (ns.map V.int))) else none) (fun b => ?_) (.inl (.inr ⟨{ cls := .type "list", data := .seq vs.toArray }, if_pos rfl⟩)) (fun b u z => ?_) (fun b z => ?_) fun _ => hk
    · by_cases hb : b = a
      · exact .inr ⟨_, _, if_pos hb⟩
      · exact .inl (if_neg hb)
    · by_cases hb : b = a
      · have z' := (if_pos hb).symm.trans z
        cases z'
        subst hb
        exact ⟨ha, by rw [List.length_map]; exact hl, vs, _, rv, ha⟩
      · have z' := (if_neg hb).symm.trans z
        cases z'
    · by_cases hb : b = a
      · exact hb
      · exact absurd (if_neg hb) z
end L2

namespace L2
open PySem PySem.Spec PyProof.Rows

/-- the goal that k_head leaves (case hc), from the law's promise. F gives the function object fd (K's own) once, then the promise over every base -/
theorem walk_of {l : PySem.W.OpenLaw} {n k : Nat} {q : Program} {loose : List Str} {XP : (Str → Option Value) → Heap → Prop} {YP : World → Heap → Prop} {d : DefRec} {K : Params → PySem.W.Frag} {CX : World → CXT} {sp : World → Sp} {x : Str}
    (hn : l.most = some n) (hn2 : n ≤ sizeLine) (hdf : d.params.defaults = []) (hr : Room k callerA)
    (hY : ∀ (w : World) (h : Heap), YP w h → (K w.params).In h)
    (F : ∀ (w : World) (mg : Str → Option Value) (fa : Addr) (h : Heap), (K w.params).In h → h.Ns mainGlobals mg → mg d.name = some (.ref fa) →
      ∃ fd : FuncData, (∀ (s : Shared) (u : Value), BindsTo s fd ⟨[u], []⟩ [(x, u)]) ∧
        ∀ base : Heap, (K w.params).In base → base.Ns mainGlobals mg → FnOk l.prog w (K w.params) mg base (CX w) k fa fd [x] (sp w))
    (hsp : ∀ (w : World) (H : Hp) (a : Addr) (ns : List Int), ns.length ≤ n → Only H → SqL (K w.params) H a (ns.map V.int) → sp w [.ref a] H (fun v _ => v = .bl true) fun _ _ _ => False)
    (hCX : ∀ (w : World) (H : Hp) (s : Shared) (e : Value) (s' : Shared), CX w [] H s (fun _ _ _ => False) e s' → False) :
    PySem.W.WalkO q loose XP YP l.row.toRowW d [] (fun f vs => PySem.call f vs) := by
  refine Att.attach_call hn hdf fun w s₀ s₁ mg mb fa o pm cd doc a vs ns G Y ho hd hcd hmg hobj hints hlen hg => ?_
  have KX := hY w _ Y
  obtain ⟨fd, hb, hF⟩ := F w mg fa _ KX G.T.g hmg
  exact law_call KX G.T.g G.T.b G.T.builtins G.T.nolimit hg hobj hints (Nat.le_trans hlen hn2) hr hF hb (fun H hO hS => hsp w H a ns hlen hO hS) fun H e s' => hCX w H s₁ e s'
end L2



/-! SHORT WORDS over the layer: a def of the text, its body, what a loop and a test want. -/
namespace L2
open PySem PySem.Spec PyProof.Rows

/-! ### the text by places -/
/-- the j-th statement of a class's body -/
def inClass (s : Stmt) (j : Nat) : Stmt := match s with
  | .ClassDef _ _ _ body _ _ _ _ _ _ _ => body.getD j (.Pass ⟨0, 0, 0, 0⟩)
  | _ => .Pass ⟨0, 0, 0, 0⟩
def defArgs (s : Stmt) : Arguments := match s with
  | .FunctionDef _ a _ _ _ _ _ _ _ _ => a
  | _ => { posonlyargs := [], args := [], vararg := none, kwonlyargs := [], kw_defaults := [], kwarg := none, defaults := [] }
def defBody (s : Stmt) : List Stmt := match s with
  | .FunctionDef _ _ b _ _ _ _ _ _ _ => b
  | _ => []
def defScope (s : Stmt) : Scope := match s with
  | .FunctionDef _ _ _ _ _ _ sc _ _ _ => sc
  | _ => { kind := .function, names := [], isGenerator := false, isCoroutine := false }

/-! ### no exception leaves a def -/
abbrev CX0 : CXT := fun _ _ _ _ _ _ => False
abbrev E0 : XK := fun _ _ _ => False
theorem pass0 {X : Cx} : Passes CX0 X E0 := fun _ _ _ _ _ _ _ h => h.elim

/-! ### a def (or method) of the text as it stands behind the top -/
section
variable {P : Program} {w : World} {K : PySem.W.Frag} {mg : Str → Option Value} {base : Heap}
end
theorem small1000 {n : Nat} (h : n ≤ 1000) : n < sizeLine := Nat.lt_of_le_of_lt h (by decide)

/-! ### expressions in short: the name that stands in the i-th slot -/
section
variable {X : Cx}
end

/-! ### tests -/
theorem iteF {A B : Prop} (h : B) : if false = true then A else B := by
  rw [if_neg Bool.false_ne_true]
  exact h
theorem iteT {A B : Prop} (h : A) : if true = true then A else B := by
  rw [if_pos rfl]
  exact h
/-! ### heaps -/
/-- all that was tracked is as it was -/
def Same (H H' : Hp) : Prop := ∀ b o, H b = some o → H' b = some o
theorem Same.refl (H : Hp) : Same H H := fun _ _ h => h
theorem Same.trans {H H1 H2 : Hp} (a : Same H H1) (b : Same H1 H2) : Same H H2 := fun c o h => b c o (a c o h)
theorem Same.free {H H' : Hp} (e : Same H H') {l : Addr} (h : H' l = Option.none) : H l = Option.none := by
  cases q : H l with
  | none => rfl
  | some o =>
    rw [e l o q] at h
    cases h
theorem Same.seq {K : PySem.W.Frag} {H H' : Hp} {a : Addr} {xs : List V} (e : Same H H') (h : SqL K H a xs) : SqL K H' a xs := by
  rcases h with (h | ⟨o, h⟩) | h
  · exact .inl (.inl (e _ _ h))
  · exact .inl (.inr ⟨o, e _ _ h⟩)
  · exact .inr h

end L2

namespace Z
open PySem PySem.Spec PyProof.Rows L2

/-- a value of the program as plain data -/
inductive D where
  | non | bl (b : Bool) | int (i : Int) | str (x : Str) | ty (n : String) | cls (c : Nat) | tup (xs : List D) | lst (xs : List D) | obj (c : Nat) (xs : List D) | dct (cs : List (Int × Int))

/-- the program's own classes: their addresses, their objects' fields -/
structure Kl where
  cls : Nat → Addr
  nm : Nat → List Str

/-! a dict whose keys are pairs of ints: what is true of its one object; the keys stand by themselves -/
def thash (ks : List Int) : Int := reduceHash (Builtin.Tuple.tupleHashOf (ks.map hashInt))
def DicO (a : Addr) (xs : List (List Int × Addr × Value)) : Heap → Prop := fun h => (a == sysModules) = false ∧ xs.length ≤ sizeLine ∧ (xs.map (·.1)).Nodup ∧
  ∃ o es ep, h.get? a = some o ∧ o.ExactDict ∧ o.data = .dict es ep ∧ es.toList = xs.map fun x => (⟨thash x.1, .ref x.2.1, x.2.2⟩ : DictEntry)
def KeyOk (K : PySem.W.Frag) (G : Hp) : List (List Int × Addr × Value) → List (Int × Int) → Prop
  | [], [] => True
  | (ks, b, _) :: xs, (x, y) :: cs => ks = [x, y] ∧ SqT K G b [.int x, .int y] ∧ KeyOk K G xs cs
  | _, _ => False
mutual
/-- the value v, by the things of the heap G alone, is the datum d -/
inductive Rp (K : PySem.W.Frag) (L : Kl) (G : Hp) : V → D → Prop
  | non : Rp K L G .non .non
  | bl (b : Bool) : Rp K L G (.bl b) (.bl b)
  | int (i : Int) : Rp K L G (.int i) (.int i)
  | str (x : Str) : Rp K L G (.str x) (.str x)
  | ty (n : String) : Rp K L G (.ty n) (.ty n)
  | cls (c : Nat) : Rp K L G (.ref (L.cls c)) (.cls c)
  | tup {a : Addr} {vs : List V} {ds : List D} : SqT K G a vs → RpA K L G vs ds → Rp K L G (.ref a) (.tup ds)
  | lst {a : Addr} {vs : List V} {ds : List D} : SqL K G a vs → RpA K L G vs ds → Rp K L G (.ref a) (.lst ds)
  | obj {a dx : Addr} {c : Nat} {vs : List V} {ds : List D} : G a = some (.ins (L.cls c) dx ((L.nm c).zip vs)) → (L.nm c).length = vs.length → RpA K L G vs ds → Rp K L G (.ref a) (.obj c ds)
  | dct {a : Addr} {xs : List (List Int × Addr × Value)} {cs : List (Int × Int)} : G a = some (.ext (DicO a xs)) → KeyOk K G xs cs → Rp K L G (.ref a) (.dct cs)
inductive RpA (K : PySem.W.Frag) (L : Kl) (G : Hp) : List V → List D → Prop
  | nil : RpA K L G [] []
  | cons {v : V} {d : D} {vs : List V} {ds : List D} : Rp K L G v d → RpA K L G vs ds → RpA K L G (v :: vs) (d :: ds)
end

theorem seqT {K : PySem.W.Frag} {H H' : Hp} {a : Addr} {xs : List V} (e : Same H H') (h : SqT K H a xs) : SqT K H' a xs := by
  rcases h with (h | ⟨o, h⟩) | h
  · exact .inl (.inl (e _ _ h))
  · exact .inl (.inr ⟨o, e _ _ h⟩)
  · exact .inr h

theorem KeyOk.mono {K : PySem.W.Frag} {G G' : Hp} (e : Same G G') : ∀ {xs : List (List Int × Addr × Value)} {cs : List (Int × Int)}, KeyOk K G xs cs → KeyOk K G' xs cs
  | [], [], _ => trivial
  | (_, _, _) :: _, (_, _) :: _, ⟨h1, h2, h3⟩ => ⟨h1, seqT e h2, KeyOk.mono e h3⟩
  | [], _ :: _, h => h.elim
  | _ :: _, [], h => h.elim
section
variable {K : PySem.W.Frag} {L : Kl} {G G' H H' : Hp}
mutual
theorem Rp.mono (e : Same G G') : ∀ {v : V} {d : D}, Rp K L G v d → Rp K L G' v d
  | _, _, .non => .non
  | _, _, .bl b => .bl b
  | _, _, .int i => .int i
  | _, _, .str x => .str x
  | _, _, .ty n => .ty n
  | _, _, .cls c => .cls c
  | _, _, .tup h hs => .tup (seqT e h) (RpA.mono e hs)
  | _, _, .lst h hs => .lst (Same.seq e h) (RpA.mono e hs)
  | _, _, .obj h hl hs => .obj (e _ _ h) hl (RpA.mono e hs)
  | _, _, .dct h hk => .dct (e _ _ h) (hk.mono e)
theorem RpA.mono (e : Same G G') : ∀ {vs : List V} {ds : List D}, RpA K L G vs ds → RpA K L G' vs ds
  | _, _, .nil => .nil
  | _, _, .cons h hs => .cons (Rp.mono e h) (RpA.mono e hs)
end
theorem RpA.length : ∀ {vs : List V} {ds : List D}, RpA K L G vs ds → vs.length = ds.length
  | _, _, .nil => rfl
  | _, _, .cons _ hs => congrArg (· + 1) (RpA.length hs)
theorem RpA.get : ∀ {vs : List V} {ds : List D} {i : Nat} {d : D}, RpA K L G vs ds → ds[i]? = some d → ∃ v, vs[i]? = some v ∧ Rp K L G v d
  | _, _, _, _, .nil, e => by simp at e
  | _, _, 0, _, .cons h _, e => by simp at e; subst e; exact ⟨_, rfl, h⟩
  | _, _, i + 1, d, .cons _ hs, e => by
    obtain ⟨u, h1, h2⟩ := RpA.get (i := i) (d := d) hs (by simpa using e)
    exact ⟨u, by simpa using h1, h2⟩
theorem RpA.get' : ∀ {vs : List V} {ds : List D} {i : Nat} {v : V}, RpA K L G vs ds → vs[i]? = some v → ∃ d, ds[i]? = some d ∧ Rp K L G v d
  | _, _, _, _, .nil, e => by simp at e
  | _, _, 0, _, .cons h _, e => by simp at e; subst e; exact ⟨_, rfl, h⟩
  | _, _, i + 1, v, .cons _ hs, e => by
    obtain ⟨u, h1, h2⟩ := RpA.get' (i := i) (v := v) hs (by simpa using e)
    exact ⟨u, by simpa using h1, h2⟩
theorem RpA.append : ∀ {vs ws : List V} {ds es : List D}, RpA K L G vs ds → RpA K L G ws es → RpA K L G (vs ++ ws) (ds ++ es)
  | _, _, _, _, .nil, s => s
  | _, _, _, _, .cons h hs, s => .cons h (RpA.append hs s)
theorem RpA.take : ∀ {vs : List V} {ds : List D} (n : Nat), RpA K L G vs ds → RpA K L G (vs.take n) (ds.take n)
  | _, _, 0, _ => .nil
  | _, _, _ + 1, .nil => .nil
  | _, _, n + 1, .cons h hs => .cons h (RpA.take n hs)
theorem RpA.drop : ∀ {vs : List V} {ds : List D} (n : Nat), RpA K L G vs ds → RpA K L G (vs.drop n) (ds.drop n)
  | _, _, 0, r => r
  | _, _, _ + 1, .nil => .nil
  | _, _, n + 1, .cons _ hs => RpA.drop n hs
theorem RpA.ints : ∀ (ns : List Int), RpA K L G (ns.map V.int) (ns.map D.int)
  | [] => .nil
  | n :: r => .cons (.int n) (RpA.ints r)
theorem RpA.of_ints : ∀ {vs : List V} {ns : List Int}, RpA K L G vs (ns.map D.int) → vs = ns.map V.int
  | _, [], .nil => rfl
  | _, n :: r, .cons h hs => by
    cases h
    rw [RpA.of_ints hs]
    rfl

/-- from the heap H with the known part G to H' with G': nothing is lost, and what is newly known is newly made -/
structure Ext (G H G' H' : Hp) : Prop where
  gg : Same G G'
  gh : Same G' H'
  hh : Same H H'
  nw : ∀ b, G' b ≠ none → G b ≠ none ∨ H b = none
theorem Ext.refl (s : Same G H) : Ext G H G H := ⟨.refl _, s, .refl _, fun _ h => .inl h⟩
theorem Ext.trans {G1 H1 : Hp} (a : Ext G H G1 H1) (b : Ext G1 H1 G' H') : Ext G H G' H' :=
  ⟨a.gg.trans b.gg, b.gh, a.hh.trans b.hh, fun c h => by
    rcases b.nw c h with h1 | h1
    · exact a.nw c h1
    · exact .inr (a.hh.free h1)⟩
/-- the known part at the start is the later one -/
theorem Ext.pre {G1 H1 : Hp} (a : Ext G H G1 H1) (b : Ext G1 H G' H') : Ext G H G' H' :=
  ⟨a.gg.trans b.gg, b.gh, b.hh, fun c h => by
    rcases b.nw c h with h1 | h1
    · exact a.nw c h1
    · exact .inr h1⟩
theorem Ext.rebase (a : Ext G H G' H') : Ext G' H G' H' := ⟨.refl _, a.gh, a.hh, fun _ h => .inl h⟩
theorem same_new {H : Hp} {p : Addr} (h : H p = none) (o : HO) : Same H (upd H p o) := fun b u q => by rw [upd_ne (ne_of_none q h)]; exact q
theorem Ext.alloc {p : Addr} (s : Same G H) (hp : H p = none) (o : HO) : Ext G H (upd G p o) (upd H p o) :=
  ⟨same_new (s.free hp) o, fun b u q => by
    by_cases e : b = p
    · subst e
      rw [upd_same] at q ⊢
      exact q
    · rw [upd_ne e] at q ⊢
      exact s _ _ q, same_new hp o, fun b h => by
    by_cases e : b = p
    · subst e
      exact .inr hp
    · rw [upd_ne e] at h
      exact .inl h⟩
end

/-- what is known of a name: nothing; its datum; a list of the def's own, which no one else has; an object of a class that is being made, its first fields -/
inductive Sl where
  | no | v (d : D) | own (ds : List D) | ob (p : Addr) (c : Nat) (ds : List D) | dic (cs : List (Int × Int))
def isOwn : Sl → Prop
  | .own _ => True
  | .ob _ _ _ => True
  | .dic _ => True
  | _ => False

def SlOk (K : PySem.W.Frag) (L : Kl) (H0 G H : Hp) (o : Option V) : Sl → Prop
  | .no => True
  | .v d => ∃ v, o = some v ∧ Rp K L G v d
  | .own ds => ∃ p vs, o = some (.ref p) ∧ H p = some (.lst vs) ∧ G p = none ∧ H0 p = none ∧ RpA K L G vs ds
  | .ob p c ds => ∃ vs, o = some (.ref p) ∧ (∃ dx, H p = some (.ins (L.cls c) dx ((L.nm c).zip vs))) ∧ G p = none ∧ H0 p = none ∧ RpA K L G vs ds ∧ ds.length ≤ (L.nm c).length
  | .dic cs => ∃ p xs, o = some (.ref p) ∧ H p = some (.ext (DicO p xs)) ∧ G p = none ∧ H0 p = none ∧ KeyOk K G xs cs

structure StOk (K : PySem.W.Frag) (L : Kl) (G0 H0 : Hp) (ρ : List Sl) (σ : L2.St) (G H : Hp) : Prop where
  ext : Ext G0 H0 G H
  sl : ∀ (i : Nat) (r : Sl), ρ[i]? = some r → SlOk K L H0 G H (σ[i]?.join) r
  len : ρ.length = σ.length
  dist : ∀ (i j : Nat) (p : Addr) (r r' : Sl), ρ[i]? = some r → ρ[j]? = some r' → isOwn r → isOwn r' → σ[i]? = some (some (.ref p)) → σ[j]? = some (some (.ref p)) → i = j

section
variable {K : PySem.W.Frag} {L : Kl} {G0 H0 G H G' H' : Hp} {ρ : List Sl} {σ : L2.St}
theorem join_some {o : Option (Option V)} {v : V} (h : o.join = some v) : o = some (some v) := by
  cases o with
  | none => cases h
  | some x => exact congrArg some h
/-- an own thing stands in the heap, and is known to no one else -/
theorem SlOk.owned {o : Option V} {r : Sl} (h : SlOk K L H0 G H o r) (hr : isOwn r) : ∃ p u, o = some (.ref p) ∧ H p = some u ∧ G p = none ∧ H0 p = none := by
  cases r with
  | no => exact hr.elim
  | v d => exact hr.elim
  | own ds =>
    obtain ⟨p, vs, h1, h2, h3, h4, _⟩ := h
    exact ⟨p, _, h1, h2, h3, h4⟩
  | ob p c ds =>
    obtain ⟨vs, h1, ⟨dx, h2⟩, h3, h4, _⟩ := h
    exact ⟨p, _, h1, h2, h3, h4⟩
  | dic cs =>
    obtain ⟨p, xs, h1, h2, h3, h4, _⟩ := h
    exact ⟨p, _, h1, h2, h3, h4⟩
/-- what is known of a name stays, where its own thing is left as it is -/
theorem SlOk.stay {o : Option V} {r : Sl} (h : SlOk K L H0 G H o r) (hg : Same G G') (hk : ∀ p u, isOwn r → o = some (.ref p) → H p = some u → H' p = some u ∧ G' p = none) : SlOk K L H0 G' H' o r := by
  cases r with
  | no => trivial
  | v d =>
    obtain ⟨v, h1, h2⟩ := h
    exact ⟨v, h1, h2.mono hg⟩
  | own ds =>
    obtain ⟨p, vs, h1, h2, h3, h4, h5⟩ := h
    obtain ⟨k1, k2⟩ := hk p _ trivial h1 h2
    exact ⟨p, vs, h1, k1, k2, h4, h5.mono hg⟩
  | ob p c ds =>
    obtain ⟨vs, h1, ⟨dx, h2⟩, h3, h4, h5, h6⟩ := h
    obtain ⟨k1, k2⟩ := hk p _ trivial h1 h2
    exact ⟨vs, h1, ⟨dx, k1⟩, k2, h4, h5.mono hg, h6⟩
  | dic cs =>
    obtain ⟨p, xs, h1, h2, h3, h4, h5⟩ := h
    obtain ⟨k1, k2⟩ := hk p _ trivial h1 h2
    exact ⟨p, xs, h1, k1, k2, h4, h5.mono hg⟩
theorem SlOk.any {o : Option V} {r : Sl} (h : SlOk K L H0 G H o r) (n : ¬ isOwn r) {H0' H' : Hp} : SlOk K L H0' G H' o r := by
  cases r with
  | no => trivial
  | v d => exact h
  | own ds => exact (n trivial).elim
  | ob p c ds => exact (n trivial).elim
  | dic cs => exact (n trivial).elim
theorem Ext.unknown (e : Ext G H G' H') {p : Addr} {u : HO} (h1 : H p = some u) (h2 : G p = none) : G' p = none := by
  cases q : G' p with
  | none => rfl
  | some o =>
    rcases e.nw p (by rw [q]; exact Option.some_ne_none _) with h6 | h6
    · exact absurd h2 h6
    · rw [h1] at h6; cases h6
theorem StOk.step (st : StOk K L G0 H0 ρ σ G H) (e : Ext G H G' H') : StOk K L G0 H0 ρ σ G' H' where
  ext := st.ext.trans e
  sl := fun i r hr => (st.sl i r hr).stay e.gg fun p u ho h1 h2 => by
    obtain ⟨p', u', h1', _, h3, _⟩ := (st.sl i r hr).owned ho
    rw [h1] at h1'
    cases h1'
    exact ⟨e.hh _ _ h2, e.unknown h2 h3⟩
  len := st.len
  dist := st.dist
theorem StOk.rebase (st : StOk K L G0 H0 ρ σ G H) : StOk K L G H0 ρ σ G H := ⟨st.ext.rebase, st.sl, st.len, st.dist⟩
theorem StOk.unbase {G1 H1 : Hp} (a : Ext G0 H0 G1 H1) (st : StOk K L G1 H0 ρ σ G H) : StOk K L G0 H0 ρ σ G H := ⟨a.pre st.ext, st.sl, st.len, st.dist⟩
theorem StOk.same (st : StOk K L G0 H0 ρ σ G H) : Same G H := st.ext.gh
theorem StOk.var (st : StOk K L G0 H0 ρ σ G H) {i : Nat} {d : D} (h : ρ[i]? = some (.v d)) : ∃ v, σ[i]? = some (some v) ∧ Rp K L G v d := by
  obtain ⟨v, h1, h2⟩ := st.sl i _ h
  exact ⟨v, join_some h1, h2⟩
theorem get_set {α : Type} {l : List α} {i j : Nat} {x y : α} (h : (l.set i x)[j]? = some y) : (j = i ∧ y = x ∧ i < l.length) ∨ (j ≠ i ∧ l[j]? = some y) := by
  by_cases e : j = i
  · subst e
    rw [List.getElem?_set] at h
    simp only [if_true] at h
    split at h
    · rename_i hl
      exact .inl ⟨rfl, (Option.some.inj h).symm, hl⟩
    · cases h
  · rw [List.getElem?_set_ne (fun z => e z.symm)] at h
    exact .inr ⟨e, h⟩
theorem StOk.set (st : StOk K L G0 H0 ρ σ G H) {i : Nat} {v : V} {d : D} (r : Rp K L G v d) : StOk K L G0 H0 (ρ.set i (.v d)) (σ.set i (some v)) G H where
  ext := st.ext
  sl := fun j s hs => by
    rcases get_set hs with ⟨rfl, rfl, hl⟩ | ⟨hne, hs⟩
    · refine ⟨v, ?_, r⟩
      rw [List.getElem?_set_self (by rw [← st.len]; exact hl)]
      rfl
    · rw [List.getElem?_set_ne (fun z => hne z.symm)]
      exact st.sl j s hs
  len := by rw [List.length_set, List.length_set]; exact st.len
  dist := fun j k p r1 r2 h1 h2 o1 o2 h3 h4 => by
    rcases get_set h1 with ⟨_, e, _⟩ | ⟨n1, g1⟩
    · rw [e] at o1; exact o1.elim
    rcases get_set h2 with ⟨_, e, _⟩ | ⟨n2, g2⟩
    · rw [e] at o2; exact o2.elim
    rw [List.getElem?_set_ne (fun z => n1 z.symm)] at h3
    rw [List.getElem?_set_ne (fun z => n2 z.symm)] at h4
    exact st.dist j k p r1 r2 g1 g2 o1 o2 h3 h4
/-- less is known of a name -/
theorem StOk.forget (st : StOk K L G0 H0 ρ σ G H) {ρ' : List Sl} (hl : ρ'.length = ρ.length) (hw : ∀ (i : Nat) (r : Sl), ρ'[i]? = some r → r = .no ∨ ρ[i]? = some r) : StOk K L G0 H0 ρ' σ G H where
  ext := st.ext
  sl := fun i r hr => by
    rcases hw i r hr with rfl | h
    · trivial
    · exact st.sl i r h
  len := hl.trans st.len
  dist := fun i j p r1 r2 h1 h2 o1 o2 h3 h4 => by
    rcases hw i _ h1 with h | h1'
    · rw [h] at o1; exact o1.elim
    rcases hw j _ h2 with h | h2'
    · rw [h] at o2; exact o2.elim
    exact st.dist i j p r1 r2 h1' h2' o1 o2 h3 h4
/-- a new list of the def's own -/
theorem StOk.newOwn (st : StOk K L G0 H0 ρ σ G H) {i : Nat} {p : Addr} {vs : List V} {ds : List D} (hp : H p = none) (r : RpA K L G vs ds) : StOk K L G0 H0 (ρ.set i (.own ds)) (σ.set i (some (.ref p))) G (upd H p (.lst vs)) where
  ext := ⟨st.ext.gg, st.ext.gh.trans (same_new hp _), st.ext.hh.trans (same_new hp _), st.ext.nw⟩
  sl := fun j s hs => by
    rcases get_set hs with ⟨rfl, rfl, hl⟩ | ⟨hne, hs⟩
    · refine ⟨p, vs, ?_, upd_same, st.ext.gh.free hp, st.ext.hh.free hp, r⟩
      rw [List.getElem?_set_self (by rw [← st.len]; exact hl)]
      rfl
    · rw [List.getElem?_set_ne (fun z => hne z.symm)]
      refine (st.sl j s hs).stay (.refl _) fun q u ho h1 h2 => ?_
      obtain ⟨q', u', h1', _, h3, _⟩ := (st.sl j s hs).owned ho
      rw [h1] at h1'
      cases h1'
      exact ⟨by rw [upd_ne (ne_of_none h2 hp)]; exact h2, h3⟩
  len := by rw [List.length_set, List.length_set]; exact st.len
  dist := fun j k q r1 r2 h1 h2 o1 o2 h3 h4 => by
    have old : ∀ {j : Nat} {r : Sl}, ρ[j]? = some r → isOwn r → σ[j]? = some (some (.ref p)) → False := fun {j r} a o b => by
      obtain ⟨q, u, c1, c2, _⟩ := (st.sl j _ a).owned o
      rw [b] at c1
      cases c1
      rw [hp] at c2
      cases c2
    rcases get_set h1 with ⟨rfl, e1, l1⟩ | ⟨n1, g1⟩
    · rcases get_set h2 with ⟨rfl, _, _⟩ | ⟨n2, g2⟩
      · rfl
      · rw [List.getElem?_set_self (by rw [← st.len]; exact l1)] at h3
        cases h3
        rw [List.getElem?_set_ne (fun z => n2 z.symm)] at h4
        exact (old g2 o2 h4).elim
    · rw [List.getElem?_set_ne (fun z => n1 z.symm)] at h3
      rcases get_set h2 with ⟨rfl, _, l2⟩ | ⟨n2, g2⟩
      · rw [List.getElem?_set_self (by rw [← st.len]; exact l2)] at h4
        cases h4
        exact (old g1 o1 h3).elim
      · rw [List.getElem?_set_ne (fun z => n2 z.symm)] at h4
        exact st.dist j k q r1 r2 g1 g2 o1 o2 h3 h4
/-- a new dict of the def's own -/
theorem StOk.newDic (st : StOk K L G0 H0 ρ σ G H) {i : Nat} {p : Addr} {xs : List (List Int × Addr × Value)} {cs : List (Int × Int)} (hp : H p = none) (r : KeyOk K G xs cs) : StOk K L G0 H0 (ρ.set i (.dic cs)) (σ.set i (some (.ref p))) G (upd H p (.ext (DicO p xs))) where
  ext := ⟨st.ext.gg, st.ext.gh.trans (same_new hp _), st.ext.hh.trans (same_new hp _), st.ext.nw⟩
  sl := fun j s hs => by
    rcases get_set hs with ⟨rfl, rfl, hl⟩ | ⟨hne, hs⟩
    · refine ⟨p, xs, ?_, upd_same, st.ext.gh.free hp, st.ext.hh.free hp, r⟩
      rw [List.getElem?_set_self (by rw [← st.len]; exact hl)]
      rfl
    · rw [List.getElem?_set_ne (fun z => hne z.symm)]
      refine (st.sl j s hs).stay (.refl _) fun q u ho h1 h2 => ?_
      obtain ⟨q', u', h1', _, h3, _⟩ := (st.sl j s hs).owned ho
      rw [h1] at h1'
      cases h1'
      exact ⟨by rw [upd_ne (ne_of_none h2 hp)]; exact h2, h3⟩
  len := by rw [List.length_set, List.length_set]; exact st.len
  dist := fun j k q r1 r2 h1 h2 o1 o2 h3 h4 => by
    have old : ∀ {j : Nat} {r : Sl}, ρ[j]? = some r → isOwn r → σ[j]? = some (some (.ref p)) → False := fun {j r} a o b => by
      obtain ⟨q, u, c1, c2, _⟩ := (st.sl j _ a).owned o
      rw [b] at c1
      cases c1
      rw [hp] at c2
      cases c2
    rcases get_set h1 with ⟨rfl, e1, l1⟩ | ⟨n1, g1⟩
    · rcases get_set h2 with ⟨rfl, _, _⟩ | ⟨n2, g2⟩
      · rfl
      · rw [List.getElem?_set_self (by rw [← st.len]; exact l1)] at h3
        cases h3
        rw [List.getElem?_set_ne (fun z => n2 z.symm)] at h4
        exact (old g2 o2 h4).elim
    · rw [List.getElem?_set_ne (fun z => n1 z.symm)] at h3
      rcases get_set h2 with ⟨rfl, _, l2⟩ | ⟨n2, g2⟩
      · rw [List.getElem?_set_self (by rw [← st.len]; exact l2)] at h4
        cases h4
        exact (old g1 o1 h3).elim
      · rw [List.getElem?_set_ne (fun z => n2 z.symm)] at h4
        exact st.dist j k q r1 r2 g1 g2 o1 o2 h3 h4
/-- an own thing is changed -/
theorem StOk.updO (st : StOk K L G0 H0 ρ σ G H) {i : Nat} {p : Addr} {r r' : Sl} {o : HO} (hi : ρ[i]? = some r) (hr : isOwn r) (hr' : isOwn r') (hp : σ[i]? = some (some (.ref p))) (hok : G p = none → H0 p = none → SlOk K L H0 G (upd H p o) (some (.ref p)) r') :
    StOk K L G0 H0 (ρ.set i r') σ G (upd H p o) := by
  obtain ⟨p', u, h1, h2, h3, h4⟩ := (st.sl i _ hi).owned hr
  have e1 := join_some h1
  rw [hp] at e1
  cases e1
  have hG : Same G (upd H p o) := fun b u q => by
    rw [upd_ne (ne_of_none q h3)]
    exact st.ext.gh _ _ q
  have hH : Same H0 (upd H p o) := fun b u q => by
    rw [upd_ne (ne_of_none q h4)]
    exact st.ext.hh _ _ q
  refine ⟨⟨st.ext.gg, hG, hH, st.ext.nw⟩, fun j s hs => ?_, by rw [List.length_set]; exact st.len, fun j k q r1 r2 g1 g2 o1 o2 g3 g4 => ?_⟩
  · rcases get_set hs with ⟨rfl, rfl, hl⟩ | ⟨hne, hs⟩
    · rw [hp]
      exact hok h3 h4
    · refine (st.sl j s hs).stay (.refl _) fun q u' ho c1 c2 => ?_
      obtain ⟨q', u'', c1', _, c3, _⟩ := (st.sl j s hs).owned ho
      rw [c1] at c1'
      cases c1'
      have hq : q ≠ p := fun z => by
        subst z
        exact hne (st.dist j i _ _ _ hs hi ho hr (join_some c1) hp)
      exact ⟨by rw [upd_ne hq]; exact c2, c3⟩
  · have back : ∀ {j : Nat} {s : Sl}, (ρ.set i r')[j]? = some s → isOwn s → ∃ s', ρ[j]? = some s' ∧ isOwn s' := fun {j s} a ho => by
      rcases get_set a with ⟨rfl, _, _⟩ | ⟨_, a⟩
      · exact ⟨_, hi, hr⟩
      · exact ⟨_, a, ho⟩
    obtain ⟨_, b1, b2⟩ := back g1 o1
    obtain ⟨_, b3, b4⟩ := back g2 o2
    exact st.dist j k q _ _ b1 b3 b2 b4 g3 g4
/-- the own list is handed over: a datum from now on -/
theorem StOk.freeze (st : StOk K L G0 H0 ρ σ G H) {i : Nat} {ds : List D} (hi : ρ[i]? = some (.own ds)) : ∃ p vs, σ[i]? = some (some (.ref p)) ∧ H p = some (.lst vs) ∧ G p = none ∧ Same G (upd G p (.lst vs)) ∧ StOk K L G0 H0 (ρ.set i (.v (.lst ds))) σ (upd G p (.lst vs)) H := by
  obtain ⟨p, vs, h1, h2, h3, h4, h5⟩ := st.sl i _ hi
  have gg : Same G (upd G p (.lst vs)) := same_new h3 _
  have gh : Same (upd G p (.lst vs)) H := fun b u q => by
    by_cases e : b = p
    · subst e
      rw [upd_same] at q
      rw [h2]
      exact q
    · rw [upd_ne e] at q
      exact st.ext.gh _ _ q
  refine ⟨p, vs, join_some h1, h2, h3, gg, ⟨st.ext.gg.trans gg, gh, st.ext.hh, fun b hb => ?_⟩, fun j s hs => ?_, by rw [List.length_set]; exact st.len, fun j k q r1 r2 g1 g2 o1 o2 g3 g4 => ?_⟩
  · by_cases e : b = p
    · subst e
      exact .inr h4
    · rw [upd_ne e] at hb
      exact st.ext.nw b hb
  · rcases get_set hs with ⟨rfl, rfl, hl⟩ | ⟨hne, hs⟩
    · exact ⟨.ref p, h1, .lst (SqL.of upd_same) (h5.mono gg)⟩
    · refine (st.sl j s hs).stay gg fun q u ho c1 c2 => ?_
      obtain ⟨q', u'', c1', _, c3, _⟩ := (st.sl j s hs).owned ho
      rw [c1] at c1'
      cases c1'
      have hq : q ≠ p := fun z => by
        subst z
        exact hne (st.dist j i _ _ _ hs hi ho trivial (join_some c1) (join_some h1))
      exact ⟨c2, by rw [upd_ne hq]; exact c3⟩
  · rcases get_set g1 with ⟨_, e, _⟩ | ⟨n1, g1⟩
    · rw [e] at o1; exact o1.elim
    rcases get_set g2 with ⟨_, e, _⟩ | ⟨n2, g2⟩
    · rw [e] at o2; exact o2.elim
    exact st.dist j k q r1 r2 g1 g2 o1 o2 g3 g4
/-- the own dict is handed over -/
theorem StOk.freezeD (st : StOk K L G0 H0 ρ σ G H) {i : Nat} {cs : List (Int × Int)} (hi : ρ[i]? = some (.dic cs)) : ∃ p xs, σ[i]? = some (some (.ref p)) ∧ H p = some (.ext (DicO p xs)) ∧ G p = none ∧ Same G (upd G p (.ext (DicO p xs))) ∧ StOk K L G0 H0 (ρ.set i (.v (.dct cs))) σ (upd G p (.ext (DicO p xs))) H := by
  obtain ⟨p, xs, h1, h2, h3, h4, h5⟩ := st.sl i _ hi
  have gg : Same G (upd G p (.ext (DicO p xs))) := same_new h3 _
  have gh : Same (upd G p (.ext (DicO p xs))) H := fun b u q => by
    by_cases e : b = p
    · subst e
      rw [upd_same] at q
      rw [h2]
      exact q
    · rw [upd_ne e] at q
      exact st.ext.gh _ _ q
  refine ⟨p, xs, join_some h1, h2, h3, gg, ⟨st.ext.gg.trans gg, gh, st.ext.hh, fun b hb => ?_⟩, fun j s hs => ?_, by rw [List.length_set]; exact st.len, fun j k q r1 r2 g1 g2 o1 o2 g3 g4 => ?_⟩
  · by_cases e : b = p
    · subst e
      exact .inr h4
    · rw [upd_ne e] at hb
      exact st.ext.nw b hb
  · rcases get_set hs with ⟨rfl, rfl, hl⟩ | ⟨hne, hs⟩
    · exact ⟨.ref p, h1, .dct upd_same (h5.mono gg)⟩
    · refine (st.sl j s hs).stay gg fun q u ho c1 c2 => ?_
      obtain ⟨q', u'', c1', _, c3, _⟩ := (st.sl j s hs).owned ho
      rw [c1] at c1'
      cases c1'
      have hq : q ≠ p := fun z => by
        subst z
        exact hne (st.dist j i _ _ _ hs hi ho trivial (join_some c1) (join_some h1))
      exact ⟨c2, by rw [upd_ne hq]; exact c3⟩
  · rcases get_set g1 with ⟨_, e, _⟩ | ⟨n1, g1⟩
    · rw [e] at o1; exact o1.elim
    rcases get_set g2 with ⟨_, e, _⟩ | ⟨n2, g2⟩
    · rw [e] at o2; exact o2.elim
    exact st.dist j k q r1 r2 g1 g2 o1 o2 g3 g4
end
end Z

namespace Z
open PySem PySem.Spec PyProof.Rows L2

/-! ### the weakest readings -/
section
variable (X : Cx)
def wE (e : Expr) : TE := fun σ H Q => ∀ (pins : List (Addr × Obj)) (s : Shared), Inv X pins σ H s → wpAny (model X.prog X.w) X.A (eval e X.env) (EP X pins σ Q) X.xe s
def wT (e : Expr) : TT := fun σ H Q => ∀ (pins : List (Addr × Obj)) (s : Shared), Inv X pins σ H s → wpAny (model X.prog X.w) X.A (isTrue e X.env (eval e X.env)) (TP X pins σ Q) X.xe s
def wA (es : List Expr) : TA := fun σ H Q => ∀ (pos : Pos) (pins : List (Addr × Obj)) (s : Shared), Inv X pins σ H s → wpAny (model X.prog X.w) X.A (spliced (backTo pos (starEach es X.env))) (AP X pins σ Q) X.xe s
def wS (st : Stmt) : TS := fun D σ H => ∀ (pins : List (Addr × Obj)) (s : Shared), Inv X pins σ H s → wpAny (model X.prog X.w) X.A (exec st X.env) (SP X pins D) X.xe s
def wSs (st : List Stmt) : TS := fun D σ H => ∀ (pins : List (Addr × Obj)) (s : Shared), Inv X pins σ H s → wpAny (model X.prog X.w) X.A (execs st X.env) (SP X pins D) X.xe s
end
section
variable {X : Cx} {e : Expr} {es : List Expr} {st : Stmt} {sts : List Stmt} {σ : L2.St} {H : Hp}
theorem pe_w : PE X e (wE X e) := fun pins s σ H Q I h => h pins s I
theorem pt_w : PT X e (wT X e) := fun pins s σ H Q I h => h pins s I
theorem pa_w : PA X es (wA X es) := fun pos pins s σ H Q I h => h pos pins s I
theorem ps_w : PS X st (wS X st) := fun pins s σ H Q I h => h pins s I
theorem pss_w : PSs X sts (wSs X sts) := fun pins s σ H Q I h => h pins s I
theorem wE_of {t : TE} {Q : VK} (h : PE X e t) (q : t σ H Q) : wE X e σ H Q := fun pins s I => h pins s σ H Q I q
theorem wT_of {t : TT} {Q : Bool → Hp → Prop} (h : PT X e t) (q : t σ H Q) : wT X e σ H Q := fun pins s I => h pins s σ H Q I q
theorem wA_of {t : TA} {Q : List V → Hp → Prop} (h : PA X es t) (q : t σ H Q) : wA X es σ H Q := fun pos pins s I => h pos pins s σ H Q I q
theorem wS_of {t : TS} {D : Ends} (h : PS X st t) (q : t D σ H) : wS X st D σ H := fun pins s I => h pins s σ H D I q
theorem wSs_of {t : TS} {D : Ends} (h : PSs X sts t) (q : t D σ H) : wSs X sts D σ H := fun pins s I => h pins s σ H D I q
/-- ends that say more -/
structure EndsLe (D D' : Ends) : Prop where
  nx : ∀ σ H, D.nx σ H → D'.nx σ H
  rt : ∀ v H, D.rt v H → D'.rt v H
  bk : ∀ σ H, D.bk σ H → D'.bk σ H
  ct : ∀ σ H, D.ct σ H → D'.ct σ H
theorem SP_mono {pins : List (Addr × Obj)} {D D' : Ends} (l : EndsLe D D') {f : Flow} {s : Shared} (h : SP X pins D f s) : SP X pins D' f s := by
  cases f with
  | next => obtain ⟨σ', H', I, q⟩ := h; exact ⟨σ', H', I, l.nx _ _ q⟩
  | brk => obtain ⟨σ', H', I, q⟩ := h; exact ⟨σ', H', I, l.bk _ _ q⟩
  | cont => obtain ⟨σ', H', I, q⟩ := h; exact ⟨σ', H', I, l.ct _ _ q⟩
  | ret u => obtain ⟨v, σ', H', I, r, q⟩ := h; exact ⟨v, σ', H', I, r, l.rt _ _ q⟩
theorem wSs_mono {D D' : Ends} (l : EndsLe D D') (h : wSs X sts D σ H) : wSs X sts D' σ H := fun pins s I => thn (h pins s I) fun _ _ q => SP_mono l q
theorem wSs_cons {D : Ends} (h : wS X st { D with nx := fun σ' H' => wSs X sts D σ' H' } σ H) : wSs X (st :: sts) D σ H := wSs_of (pss_cons ps_w pss_w) h
theorem wSs_nil {D : Ends} (h : D.nx σ H) : wSs X [] D σ H := wSs_of pss_nil h
end

/-! ### the judgements over data -/
/-- what is wanted behind a block: ρ behind it; the datum handed back -/
structure En where
  nx : List Sl → Prop
  rt : D → Prop
  bk : List Sl → Prop := fun _ => False
  ct : List Sl → Prop := fun _ => False
  rl : List D → Prop := fun _ => False

theorem retPre {K : PySem.W.Frag} {L : Kl} {G0 H0 G1 : Hp} {v : V} {H' : Hp} {Ha : Hp} {R : D → Prop} {RL : List D → Prop} (e : Ext G0 H0 G1 Ha)
    (h : (∃ d G, Ext G1 H0 G H' ∧ Rp K L G v d ∧ R d) ∨ ∃ p vs ds G, v = .ref p ∧ Ext G1 H0 G H' ∧ H0 p = none ∧ G p = none ∧ H' p = some (.lst vs) ∧ RpA K L G vs ds ∧ RL ds) :
    (∃ d G, Ext G0 H0 G H' ∧ Rp K L G v d ∧ R d) ∨ ∃ p vs ds G, v = .ref p ∧ Ext G0 H0 G H' ∧ H0 p = none ∧ G p = none ∧ H' p = some (.lst vs) ∧ RpA K L G vs ds ∧ RL ds := by
  rcases h with ⟨d, G, x, r, q⟩ | ⟨p, vs, ds, G, e1, x, h1, h2, h3, h4, h5⟩
  · exact .inl ⟨d, G, e.pre x, r, q⟩
  · exact .inr ⟨p, vs, ds, G, e1, e.pre x, h1, h2, h3, h4, h5⟩
def ends (K : PySem.W.Frag) (L : Kl) (G0 H0 : Hp) (E : En) : Ends where
  nx := fun σ H => ∃ ρ G, StOk K L G0 H0 ρ σ G H ∧ E.nx ρ
  rt := fun v H => (∃ d G, Ext G0 H0 G H ∧ Rp K L G v d ∧ E.rt d) ∨ ∃ p vs ds G, v = .ref p ∧ Ext G0 H0 G H ∧ H0 p = none ∧ G p = none ∧ H p = some (.lst vs) ∧ RpA K L G vs ds ∧ E.rl ds
  bk := fun σ H => ∃ ρ G, StOk K L G0 H0 ρ σ G H ∧ E.bk ρ
  ct := fun σ H => ∃ ρ G, StOk K L G0 H0 ρ σ G H ∧ E.ct ρ

section
variable (X : Cx) (L : Kl) (ρ : List Sl)
/-- the expression is the datum d, and nothing else happens -/
structure EV (e : Expr) (d : D) : Prop where
  run : ∀ (σ : L2.St) (G0 H0 G H : Hp), StOk X.K L G0 H0 ρ σ G H → ∀ Q : VK, (∀ v G' H', Ext G H G' H' → Rp X.K L G' v d → Q v H') → wE X e σ H Q
structure TV (e : Expr) (b : Bool) : Prop where
  run : ∀ (σ : L2.St) (G0 H0 G H : Hp), StOk X.K L G0 H0 ρ σ G H → ∀ Q : Bool → Hp → Prop, (∀ G' H', Ext G H G' H' → Q b H') → wT X e σ H Q
structure EVs (es : List Expr) (ds : List D) : Prop where
  run : ∀ (σ : L2.St) (G0 H0 G H : Hp), StOk X.K L G0 H0 ρ σ G H → ∀ Q : List V → Hp → Prop, (∀ vs G' H', Ext G H G' H' → RpA X.K L G' vs ds → Q vs H') → wA X es σ H Q
structure SV (ss : List Stmt) (E : En) : Prop where
  run : ∀ (σ : L2.St) (G0 H0 G H : Hp), StOk X.K L G0 H0 ρ σ G H → wSs X ss (ends X.K L G0 H0 E) σ H
end

section
variable {X : Cx} {L : Kl} {ρ : List Sl} {e a b c : Expr} {es : List Expr} {d da db : D} {ds : List D} {pos : Pos} {E : En} {rest : List Stmt}

/-! ### expressions -/
theorem ev_var (i : Nat) {x : Str} (hρ : ρ[i]? = some (.v d) := by rfl) (hN : X.N[i]? = some x := by rfl) (hv : Vis X.env.scope x := by first | exact Or.inl rfl | exact Or.inr (Or.inl rfl) | exact Or.inr (Or.inr rfl))
    (hd : (x == ("__debug__" : Str)) = false := by decide) (hcd : (x == ("__classdict__" : Str)) = false := by decide) : EV X L ρ (.Name x pos) d := .mk fun σ G0 H0 G H st Q k => by
  obtain ⟨v, h1, h2⟩ := st.var hρ
  exact wE_of (pe_var hN hv hd hcd) ⟨v, h1, k v G H (.refl st.same) h2⟩
theorem ev_int {i : Int} {j} : EV X L ρ (.Constant (.int i) j pos) (.int i) := .mk fun σ G0 H0 G H st Q k => wE_of pe_int (k _ G H (.refl st.same) (.int i))
theorem ev_bl {i : Bool} {j} : EV X L ρ (.Constant (.bool i) j pos) (.bl i) := .mk fun σ G0 H0 G H st Q k => wE_of pe_bl (k _ G H (.refl st.same) (.bl i))
theorem ev_non {j} : EV X L ρ (.Constant .none j pos) .non := .mk fun σ G0 H0 G H st Q k => wE_of pe_non (k _ G H (.refl st.same) .non)
theorem ev_str {x : Str} {j} : EV X L ρ (.Constant (.str x) j pos) (.str x) := .mk fun σ G0 H0 G H st Q k => wE_of pe_str (k _ G H (.refl st.same) (.str x))
/-- a name of the module -/
theorem ev_glob {x : Str} {v : V} {u : Value} (hm : X.mg x = some u) (r : RelV v u) (hr : ∀ G, Rp X.K L G v d) (hg : Gl X x := by rfl) (hd : (x == ("__debug__" : Str)) = false := by decide) : EV X L ρ (.Name x pos) d := .mk fun σ G0 H0 G H st Q k =>
  wE_of (pe_glob hg hm r hd) (k v G H (.refl st.same) (hr G))
theorem ev_bltn {x : Str} {v : V} {u : Value} (hm : X.mg x = none) (hv : bootBuiltins x = some u) (r : RelV v u) (hr : ∀ G, Rp X.K L G v d) (hg : Gl X x := by rfl) (hn : x ≠ "__name__" := by decide) (hd : (x == ("__debug__" : Str)) = false := by decide) :
    EV X L ρ (.Name x pos) d := .mk fun σ G0 H0 G H st Q k => wE_of (pe_bltn hg hm hv r hn hd) (k v G H (.refl st.same) (hr G))

/-- what a two-place operation makes of two data -/
def Op2 (K : PySem.W.Frag) (L : Kl) (r : R2) (da db d : D) : Prop := ∀ (G H : Hp) (v u : V), Same G H → Rp K L G v da → Rp K L G u db → ∀ Q : VK, (∀ z G' H', Ext G H G' H' → Rp K L G' z d → Q z H') → r v u H Q
theorem op2I {f : Int → Int → Int} {i j : Int} {K : PySem.W.Frag} : Op2 K L (rI0 fun i j => .int (f i j)) (.int i) (.int j) (.int (f i j)) := fun G H v u s r1 r2 Q k => by
  cases r1; cases r2
  exact ⟨i, j, rfl, rfl, k _ G H (.refl s) (.int _)⟩
theorem op2B {f : Int → Int → Bool} {i j : Int} {K : PySem.W.Frag} : Op2 K L (rI0 fun i j => .bl (f i j)) (.int i) (.int j) (.bl (f i j)) := fun G H v u s r1 r2 Q k => by
  cases r1; cases r2
  exact ⟨i, j, rfl, rfl, k _ G H (.refl s) (.bl _)⟩
theorem op2C {C : Int → Int → Prop} {f : Int → Int → Int} {i j : Int} {K : PySem.W.Frag} (hc : C i j) : Op2 K L (rI C fun i j => .int (f i j)) (.int i) (.int j) (.int (f i j)) := fun G H v u s r1 r2 Q k => by
  cases r1; cases r2
  exact ⟨i, j, rfl, rfl, hc, k _ G H (.refl s) (.int _)⟩
theorem bin2 {r : R2} (ha : EV X L ρ a da) (hb : EV X L ρ b db) (hr : Op2 X.K L r da db d) {σ : L2.St} {G0 H0 G H : Hp} (st : StOk X.K L G0 H0 ρ σ G H) {Q : VK} (k : ∀ v G' H', Ext G H G' H' → Rp X.K L G' v d → Q v H') : tOp r (wE X a) (wE X b) σ H Q :=
  ha.run σ G0 H0 G H st _ fun v G1 H1 e1 r1 => hb.run σ G0 H0 G1 H1 (st.step e1) _ fun u G2 H2 e2 r2 => hr G2 H2 v u e2.gh (r1.mono e2.gg) r2 _ fun z G3 H3 e3 r3 => k z G3 H3 ((e1.trans e2).trans e3) r3
theorem ev_op {op : Operator} {r : R2} (ho : OpR X (binaryOp op) r) (hr : Op2 X.K L r da db d) (ha : EV X L ρ a da) (hb : EV X L ρ b db) : EV X L ρ (.BinOp a op b pos) d := .mk fun σ G0 H0 G H st Q k =>
  wE_of (pe_op ho pe_w pe_w) (bin2 ha hb hr st k)
theorem ev_add {i j : Int} (ha : EV X L ρ a (.int i)) (hb : EV X L ρ b (.int j)) : EV X L ρ (.BinOp a .Add b pos) (.int (i + j)) := ev_op op_add op2I ha hb
theorem ev_sub {i j : Int} (ha : EV X L ρ a (.int i)) (hb : EV X L ρ b (.int j)) : EV X L ρ (.BinOp a .Sub b pos) (.int (i - j)) := ev_op op_sub op2I ha hb
theorem op_mulK : OpR X (binaryOp .Mult) (rI IntMulOk fun i j => .int (i * j)) := opI fun _ _ _ _ _ _ _ hc q => mul_int q hc
theorem ev_mul {i j : Int} (ha : EV X L ρ a (.int i)) (hb : EV X L ρ b (.int j)) (hc : IntMulOk i j) : EV X L ρ (.BinOp a .Mult b pos) (.int (i * j)) := ev_op op_mulK (op2C hc) ha hb
theorem ev_fdiv {i j : Int} (ha : EV X L ρ a (.int i)) (hb : EV X L ρ b (.int j)) (hc : CDiv i j) : EV X L ρ (.BinOp a .FloorDiv b pos) (.int (i / j)) := ev_op op_fdiv (op2C (f := fun i j => i / j) hc) ha hb
theorem ev_mod {i j : Int} (ha : EV X L ρ a (.int i)) (hb : EV X L ρ b (.int j)) (hc : 0 < j) : EV X L ρ (.BinOp a .Mod b pos) (.int (i % j)) := ev_op op_mod (op2C (C := fun _ j => 0 < j) (f := fun i j => i % j) hc) ha hb
theorem ev_pow {i j : Int} (ha : EV X L ρ a (.int i)) (hb : EV X L ρ b (.int j)) (hc : CPow i j) : EV X L ρ (.BinOp a .Pow b pos) (.int (i ^ j.toNat)) := ev_op op_pow (op2C (f := fun i j => i ^ j.toNat) hc) ha hb
theorem ev_neg {i : Int} (ha : EV X L ρ a (.int i)) : EV X L ρ (.UnaryOp .USub a pos) (.int (-i)) := .mk fun σ G0 H0 G H st Q k =>
  wE_of (pe_un un_neg pe_w) (ha.run σ G0 H0 G H st _ fun v G1 H1 e1 r1 => by cases r1; exact ⟨i, rfl, k _ G1 H1 e1 (.int _)⟩)

/-- a comparison's value; a comparison as a test -/
theorem ev_cmp {op : CmpOp} {r : R2} (ho : OpR X (compareOp op) r) (hr : Op2 X.K L r da db d) (ha : EV X L ρ a da) (hb : EV X L ρ b db) (hm : behindInMarks op b = false) : EV X L ρ (.Compare a [op] [b] pos) d := .mk fun σ G0 H0 G H st Q k =>
  wE_of (pe_cmpR ho pe_w pe_w hm) (bin2 ha hb hr st k)
theorem tv_cmp {op : CmpOp} {r : R2} {t : Bool} (ho : OpR X (compareOp op) r) (hr : Op2 X.K L r da db (.bl t)) (ha : EV X L ρ a da) (hb : EV X L ρ b db) (hm : behindInMarks op b = false) : TV X L ρ (.Compare a [op] [b] pos) t := .mk fun σ G0 H0 G H st Q k =>
  wT_of (pt_cmpR ho pe_w pe_w hm) (bin2 ha hb hr st fun v G1 H1 e1 r1 => by cases r1; exact ⟨t, rfl, k G1 H1 e1⟩)
theorem tv_lt {i j : Int} (ha : EV X L ρ a (.int i)) (hb : EV X L ρ b (.int j)) : TV X L ρ (.Compare a [.Lt] [b] pos) (decide (i < j)) := tv_cmp op_lt op2B ha hb (nomark _)
theorem tv_le {i j : Int} (ha : EV X L ρ a (.int i)) (hb : EV X L ρ b (.int j)) : TV X L ρ (.Compare a [.LtE] [b] pos) (decide (i ≤ j)) := tv_cmp op_le op2B ha hb (nomark _)
theorem tv_gt {i j : Int} (ha : EV X L ρ a (.int i)) (hb : EV X L ρ b (.int j)) : TV X L ρ (.Compare a [.Gt] [b] pos) (decide (j < i)) := tv_cmp op_gt (op2B (f := fun i j => decide (j < i))) ha hb (nomark _)
theorem ev_ge {i j : Int} (ha : EV X L ρ a (.int i)) (hb : EV X L ρ b (.int j)) : EV X L ρ (.Compare a [.GtE] [b] pos) (.bl (decide (j ≤ i))) := ev_cmp op_ge (op2B (f := fun i j => decide (j ≤ i))) ha hb (nomark _)

/-! ### tests -/
theorem tv_val {t : Bool} (h : EV X L ρ e (.bl t)) (he : ∀ whole, isTrue e X.env whole = (do let v ← whole; standAt e.pos; holding [v] (truthy v)) := by intro _; rfl) : TV X L ρ e t := .mk fun σ G0 H0 G H st Q k =>
  wT_of (pt_val pe_w he) (h.run σ G0 H0 G H st _ fun v G1 H1 e1 r1 => by cases r1; exact ⟨t, rfl, k G1 H1 e1⟩)
theorem tv_not {t : Bool} (h : TV X L ρ e t) : TV X L ρ (.UnaryOp .Not e pos) (!t) := .mk fun σ G0 H0 G H st Q k => wT_of (pt_not pt_w) (h.run σ G0 H0 G H st _ fun G1 H1 e1 => k G1 H1 e1)
end
end Z

namespace Z
open PySem PySem.Spec PyProof.Rows L2

section
variable (X : Cx) (L : Kl) (ρ : List Sl)
def wW (e : Expr) : TT := fun σ H Q => ∀ (whole : Sem Value) (pins : List (Addr × Obj)) (s : Shared), Inv X pins σ H s → wpAny (model X.prog X.w) X.A (isTrue e X.env whole) (TP X pins σ Q) X.xe s
structure WV (e : Expr) (b : Bool) : Prop where
  run : ∀ (σ : L2.St) (G0 H0 G H : Hp), StOk X.K L G0 H0 ρ σ G H → ∀ Q : Bool → Hp → Prop, (∀ G' H', Ext G H G' H' → Q b H') → wW X e σ H Q
end
section
variable {X : Cx} {L : Kl} {ρ : List Sl} {e a b c o : Expr} {es rs : List Expr} {d da db : D} {ds : List D} {pos p : Pos} {E : En} {rest : List Stmt} {t u : Bool}
theorem pw_w : PW X e (wW X e) := fun whole pins s σ H Q I h => h whole pins s I
theorem wW_of {σ : L2.St} {H : Hp} {t : TT} {Q : Bool → Hp → Prop} (h : PW X e t) (q : t σ H Q) : wW X e σ H Q := fun whole pins s I => h whole pins s σ H Q I q
theorem WV.tv (h : WV X L ρ e t) : TV X L ρ e t := .mk fun σ G0 H0 G H st Q k => wT_of (PW.pt pw_w) (h.run σ G0 H0 G H st Q k)
theorem wv_and1 (h : TV X L ρ a t) : WV X L ρ (.BoolOp .And [a] pos) t := .mk fun σ G0 H0 G H st Q k => wW_of (pw_and1 pt_w) (h.run σ G0 H0 G H st Q k)
theorem wv_or1 (h : TV X L ρ a t) : WV X L ρ (.BoolOp .Or [a] pos) t := .mk fun σ G0 H0 G H st Q k => wW_of (pw_or1 pt_w) (h.run σ G0 H0 G H st Q k)
theorem wv_and (ha : TV X L ρ a t) (hb : t = true → WV X L ρ (.BoolOp .And (b :: rs) pos) u) : WV X L ρ (.BoolOp .And (a :: b :: rs) pos) (t && u) := .mk fun σ G0 H0 G H st Q k =>
  wW_of (pw_and pt_w pw_w) (ha.run σ G0 H0 G H st _ fun G1 H1 e1 => by
    cases t with
    | true => exact iteT ((hb rfl).run σ G0 H0 G1 H1 (st.step e1) Q fun G2 H2 e2 => k G2 H2 (e1.trans e2))
    | false => exact iteF (k G1 H1 e1))
theorem wv_or (ha : TV X L ρ a t) (hb : t = false → WV X L ρ (.BoolOp .Or (b :: rs) pos) u) : WV X L ρ (.BoolOp .Or (a :: b :: rs) pos) (t || u) := .mk fun σ G0 H0 G H st Q k =>
  wW_of (pw_or pt_w pw_w) (ha.run σ G0 H0 G H st _ fun G1 H1 e1 => by
    cases t with
    | true => exact iteT (k G1 H1 e1)
    | false => exact iteF ((hb rfl).run σ G0 H0 G1 H1 (st.step e1) Q fun G2 H2 e2 => k G2 H2 (e1.trans e2)))
theorem ev_one {op} (h : EV X L ρ a d) : EV X L ρ (.BoolOp op [a] pos) d := .mk fun σ G0 H0 G H st Q k => wE_of (pe_one pe_w) (h.run σ G0 H0 G H st Q k)
theorem ev_and (ha : EV X L ρ a (.bl t)) (hb : t = true → EV X L ρ (.BoolOp .And (b :: rs) pos) (.bl u)) : EV X L ρ (.BoolOp .And (a :: b :: rs) pos) (.bl (t && u)) := .mk fun σ G0 H0 G H st Q k =>
  wE_of (pe_and pe_w pe_w) (ha.run σ G0 H0 G H st _ fun v G1 H1 e1 r1 => by
    cases r1
    refine ⟨t, rfl, ?_⟩
    cases t with
    | true => exact iteT ((hb rfl).run σ G0 H0 G1 H1 (st.step e1) Q fun v G2 H2 e2 r2 => k v G2 H2 (e1.trans e2) r2)
    | false => exact iteF (k _ G1 H1 e1 (.bl false)))
theorem ev_not (ha : EV X L ρ a (.bl t)) : EV X L ρ (.UnaryOp .Not a pos) (.bl (!t)) := .mk fun σ G0 H0 G H st Q k =>
  wE_of (pe_not pe_w) (ha.run σ G0 H0 G H st _ fun v G1 H1 e1 r1 => by
    cases r1
    exact ⟨t, rfl, k _ G1 H1 e1 (.bl _)⟩)
/-! ### lists of arguments, displays -/
theorem evs_nil : EVs X L ρ [] [] := .mk fun σ G0 H0 G H st Q k => wA_of pa_nil (k [] G H (.refl st.same) .nil)
theorem evs_cons (h : EV X L ρ e d) (hs : EVs X L ρ es ds) (hst : starEach (e :: es) X.env = (false, eval e X.env) :: starEach es X.env := by rfl) : EVs X L ρ (e :: es) (d :: ds) := .mk fun σ G0 H0 G H st Q k =>
  wA_of (pa_cons pe_w pa_w hst) (h.run σ G0 H0 G H st _ fun v G1 H1 e1 r1 => hs.run σ G0 H0 G1 H1 (st.step e1) _ fun vs G2 H2 e2 r2 => k (v :: vs) G2 H2 (e1.trans e2) (.cons (r1.mono e2.gg) r2))
theorem ev_tup {x1} (h : EVs X L ρ es ds) (hl : ds.length ≤ 1000 := by simp) : EV X L ρ (.Tuple es x1 pos) (.tup ds) := .mk fun σ G0 H0 G H st Q k =>
  wE_of (pe_tup pa_w) (h.run σ G0 H0 G H st _ fun vs G1 H1 e1 r1 => ⟨by rw [r1.length]; exact Nat.le_of_lt (small1000 hl), fun p hp => k _ (upd G1 p (.tup vs)) _ (e1.trans (.alloc e1.gh hp _)) (.tup (SqT.of upd_same) (r1.mono (same_new (e1.gh.free hp) _)))⟩)
theorem ev_lst (h : EVs X L ρ es ds) (hl : ds.length ≤ 1000 := by simp) : EV X L ρ (.List es pos) (.lst ds) := .mk fun σ G0 H0 G H st Q k =>
  wE_of (pe_lst pa_w) (h.run σ G0 H0 G H st _ fun vs G1 H1 e1 r1 => ⟨by rw [r1.length]; exact Nat.le_of_lt (small1000 hl), fun p hp => k _ (upd G1 p (.lst vs)) _ (e1.trans (.alloc e1.gh hp _)) (.lst (SqL.of upd_same) (r1.mono (same_new (e1.gh.free hp) _)))⟩)

/-! ### items -/
/-- the items of a list or a tuple -/
def sq : D → Option (List D)
  | .tup ds => some ds
  | .lst ds => some ds
  | _ => none
theorem ix_both : IxR X (fun x y H Q => rIxL X.K x y H Q ∨ rIxT X.K x y H Q) := ix_list.or ix_tup
theorem atI_rel {K : PySem.W.Frag} {G : Hp} {vs : List V} {ds : List D} {i : Int} {d : D} (r : RpA K L G vs ds) (h : atI ds i = some d) : ∃ v, atI vs i = some v ∧ Rp K L G v d := by
  unfold atI at h ⊢
  rw [r.length]
  cases q : ixN ds.length i with
  | none => rw [q] at h; cases h
  | some j =>
    rw [q] at h
    obtain ⟨v, h1, h2⟩ := r.get h
    exact ⟨v, h1, h2⟩
theorem op2Ix {K : PySem.W.Frag} {i : Int} (hs : sq da = some ds) (h : atI ds i = some d) : Op2 K L (fun x y H Q => rIxL K x y H Q ∨ rIxT K x y H Q) da (.int i) d := fun G H v u s r1 r2 Q k => by
  cases r2
  cases r1 with
  | tup hq hr =>
    cases hs
    obtain ⟨x, h1, h2⟩ := atI_rel hr h
    exact .inr ⟨_, _, i, x, rfl, rfl, seqT s hq, h1, k _ G H (.refl s) h2⟩
  | lst hq hr =>
    cases hs
    obtain ⟨x, h1, h2⟩ := atI_rel hr h
    exact .inl ⟨_, _, i, x, rfl, rfl, Same.seq s hq, h1, k _ G H (.refl s) h2⟩
  | _ => cases hs
theorem ev_ix {i : Int} (ha : EV X L ρ a da) (hb : EV X L ρ b (.int i)) (hs : sq da = some ds) (h : atI ds i = some d) (hx : PlainIx b := by intro _ _; rfl) : EV X L ρ (.Subscript a b pos) d := .mk fun σ G0 H0 G H st Q k =>
  wE_of (pe_ix ix_both pe_w pe_w hx) (bin2 ha hb (op2Ix hs h) st k)
/-- t[0], t[1], .. of a tuple that is written out -/
theorem ev_t0 {xs : List D} (ha : EV X L ρ a (.tup (d :: xs))) (hb : EV X L ρ b (.int 0)) (hx : PlainIx b := by intro _ _; rfl) : EV X L ρ (.Subscript a b pos) d := ev_ix ha hb rfl (atI_nat (j := 0) rfl) hx
theorem ev_t1 {d0 : D} {xs : List D} (ha : EV X L ρ a (.tup (d0 :: d :: xs))) (hb : EV X L ρ b (.int 1)) (hx : PlainIx b := by intro _ _; rfl) : EV X L ρ (.Subscript a b pos) d := ev_ix ha hb rfl (atI_nat (j := 1) rfl) hx
theorem ev_t2 {d0 d1 : D} {xs : List D} (ha : EV X L ρ a (.tup (d0 :: d1 :: d :: xs))) (hb : EV X L ρ b (.int 2)) (hx : PlainIx b := by intro _ _; rfl) : EV X L ρ (.Subscript a b pos) d := ev_ix ha hb rfl (atI_nat (j := 2) rfl) hx
/-- xs[lo:hi] of a list -/
def PV (X : Cx) (L : Kl) (ρ : List Sl) (e : Option Expr) (o : Option Int) : Prop := ∃ t, PO X e t ∧ ∀ (σ : L2.St) (G0 H0 G H : Hp), StOk X.K L G0 H0 ρ σ G H → ∀ Q : Option Int → Hp → Prop, (∀ G' H', Ext G H G' H' → Q o H') → t σ H Q
theorem pv_some {i : Int} (h : EV X L ρ e (.int i)) : PV X L ρ (some e) (some i) := ⟨_, po_some pe_w, fun σ G0 H0 G H st Q k => h.run σ G0 H0 G H st _ fun v G1 H1 e1 r1 => by cases r1; exact ⟨i, rfl, k G1 H1 e1⟩⟩
def cutD (xs : List D) (lo hi : Option Int) : List D := (xs.drop (HT.sIx xs.length 0 lo)).take (HT.sIx xs.length xs.length hi - HT.sIx xs.length 0 lo)
theorem cut_rel {K : PySem.W.Frag} {G : Hp} {vs : List V} {ds : List D} (r : RpA K L G vs ds) (lo hi : Option Int) : RpA K L G (cutV vs lo hi) (cutD ds lo hi) := by
  unfold cutV cutD
  rw [r.length]
  exact (r.drop _).take _
theorem ev_slice {lo hi : Option Expr} {l h : Option Int} {p2 : Pos} (ha : EV X L ρ a (.lst ds)) (hl : PV X L ρ lo l) (hh : PV X L ρ hi h) : EV X L ρ (.Subscript a (.Slice lo hi none p2) pos) (.lst (cutD ds l h)) := .mk fun σ G0 H0 G H st Q k => by
  obtain ⟨tl, pl, ql⟩ := hl
  obtain ⟨th, ph, qh⟩ := hh
  refine wE_of (pe_slice sl_list pe_w pl ph) (ha.run σ G0 H0 G H st _ fun v G1 H1 e1 r1 => ql σ G0 H0 G1 H1 (st.step e1) _ fun G2 H2 e2 => qh σ G0 H0 G2 H2 ((st.step e1).step e2) _ fun G3 H3 e3 => ?_)
  cases r1 with
  | lst hq hr =>
    have s13 : Same G1 G3 := e2.gg.trans e3.gg
    refine ⟨_, _, rfl, Same.seq e3.gh (Same.seq s13 hq), fun p hp => k _ (upd G3 p _) _ (((e1.trans e2).trans e3).trans (.alloc e3.gh hp _)) (.lst (SqL.of upd_same) ?_)⟩
    exact (cut_rel (hr.mono s13) l h).mono (same_new (e3.gh.free hp) _)

/-! ### calls of built-ins -/
/-- what a built-in makes of data -/
def CallD (K : PySem.W.Frag) (L : Kl) (r : List V → Hp → VK → Prop) (ds : List D) (d : D) : Prop := ∀ (G H : Hp) (vs : List V), Same G H → RpA K L G vs ds → ∀ Q : VK, (∀ z G' H', Ext G H G' H' → Rp K L G' z d → Q z H') → r vs H Q
theorem ev_callB {id : String} {x : Str} {r : List V → Hp → VK → Prop} (hc : CallR X (.builtin id) r) (hr : CallD X.K L r ds d) (hm : X.mg x = none) (hv : bootBuiltins x = some (.builtin id)) (ha : EVs X L ρ (e :: es) ds) (hg : Gl X x := by rfl) (hn : x ≠ "__name__" := by decide)
    (hdb : (x == ("__debug__" : Str)) = false := by decide) (he : starEach (e :: es) X.env = (false, eval e X.env) :: starEach es X.env := by rfl) (hpl : (backTo pos (starEach es X.env)).any (·.1) = false := by rfl) : EV X L ρ (.Call (.Name x p) (e :: es) [] pos) d := .mk fun σ G0 H0 G H st Q k =>
  wE_of (pe_callB hc hg hm hv pa_w hn hdb he hpl) (ha.run σ G0 H0 G H st _ fun vs G1 H1 e1 r1 => hr G1 H1 vs e1.gh r1 Q fun z G2 H2 e2 r2 => k z G2 H2 (e1.trans e2) r2)
theorem ev_callTy {T : String} {x : Str} {r : List V → Hp → VK → Prop} (hc : CallR X (.type T) r) (hr : CallD X.K L r ds d) (hm : X.mg x = none) (hv : bootBuiltins x = some (.type T)) (ha : EVs X L ρ (e :: es) ds) (hg : Gl X x := by rfl) (hn : x ≠ "__name__" := by decide)
    (hdb : (x == ("__debug__" : Str)) = false := by decide) (he : starEach (e :: es) X.env = (false, eval e X.env) :: starEach es X.env := by rfl) (hpl : (backTo pos (starEach es X.env)).any (·.1) = false := by rfl) : EV X L ρ (.Call (.Name x p) (e :: es) [] pos) d := .mk fun σ G0 H0 G H st Q k =>
  wE_of (pe_callTy hc hg hm hv pa_w hn hdb he hpl) (ha.run σ G0 H0 G H st _ fun vs G1 H1 e1 r1 => hr G1 H1 vs e1.gh r1 Q fun z G2 H2 e2 r2 => k z G2 H2 (e1.trans e2) r2)
theorem RpA.one {K : PySem.W.Frag} {G : Hp} {vs : List V} (r : RpA K L G vs [d]) : ∃ v, vs = [v] ∧ Rp K L G v d := by
  cases r with
  | cons h t => cases t; exact ⟨_, rfl, h⟩
theorem RpA.two {K : PySem.W.Frag} {G : Hp} {vs : List V} (r : RpA K L G vs [da, db]) : ∃ v u, vs = [v, u] ∧ Rp K L G v da ∧ Rp K L G u db := by
  cases r with
  | cons h t =>
    obtain ⟨u, rfl, h2⟩ := RpA.one t
    exact ⟨_, u, rfl, h, h2⟩
theorem ev_abs {i : Int} {x : Str} (ha : EV X L ρ a (.int i)) (hm : X.mg x = none) (hx : x = "abs" := by rfl) (hg : Gl X x := by rfl) (he : starEach [a] X.env = (false, eval a X.env) :: starEach [] X.env := by rfl) : EV X L ρ (.Call (.Name x p) [a] [] pos) (.int (if i < 0 then -i else i)) := by
  subst hx
  exact ev_callB call_abs (fun G H vs s r Q k => by obtain ⟨v, rfl, h⟩ := r.one; cases h; exact ⟨i, rfl, k _ G H (.refl s) (.int _)⟩) hm (by decide +kernel) (evs_cons ha evs_nil he) hg (he := he)
theorem ev_len {x : Str} (ha : EV X L ρ a da) (hs : sq da = some ds) (hm : X.mg x = none) (hx : x = "len" := by rfl) (hg : Gl X x := by rfl) (he : starEach [a] X.env = (false, eval a X.env) :: starEach [] X.env := by rfl) : EV X L ρ (.Call (.Name x p) [a] [] pos) (.int ds.length) := by
  subst hx
  refine ev_callB call_len_seq (fun G H vs s r Q k => ?_) hm PySem.boot_len (evs_cons ha evs_nil he) hg (he := he)
  obtain ⟨v, rfl, h⟩ := r.one
  cases h with
  | tup hq hr => cases hs; rw [← hr.length] at k; exact ⟨_, _, rfl, .inr (seqT s hq), k _ G H (.refl s) (.int _)⟩
  | lst hq hr => cases hs; rw [← hr.length] at k; exact ⟨_, _, rfl, .inl (Same.seq s hq), k _ G H (.refl s) (.int _)⟩
  | _ => cases hs
theorem ev_list {x : Str} (ha : EV X L ρ a da) (hs : sq da = some ds) (hm : X.mg x = none) (hx : x = "list" := by rfl) (hg : Gl X x := by rfl) (he : starEach [a] X.env = (false, eval a X.env) :: starEach [] X.env := by rfl) : EV X L ρ (.Call (.Name x p) [a] [] pos) (.lst ds) := by
  subst hx
  refine ev_callTy call_list_of (fun G H vs s r Q k => ?_) hm (by decide +kernel) (evs_cons ha evs_nil he) hg (he := he)
  obtain ⟨v, rfl, h⟩ := r.one
  have fin : ∀ {ws : List V}, RpA X.K L G ws ds → ∀ l, H l = none → Q (.ref l) (upd H l (.lst ws)) := fun {ws} hr l hl => k _ (upd G l (.lst ws)) _ (.alloc s hl _) (.lst (SqL.of upd_same) (hr.mono (same_new (s.free hl) _)))
  cases h with
  | tup hq hr => cases hs; exact ⟨_, _, rfl, .inr (seqT s hq), fin hr⟩
  | lst hq hr => cases hs; exact ⟨_, _, rfl, .inl (Same.seq s hq), fin hr⟩
  | _ => cases hs
end
end Z

namespace Z
open PySem PySem.Spec PyProof.Rows L2

section
variable {X : Cx} {L : Kl} {ρ : List Sl} {e a b c o tg : Expr} {es rs : List Expr} {d da db : D} {ds : List D} {pos p pos' : Pos} {E : En} {rest body els : List Stmt} {t u : Bool} {st : Stmt}
theorem ends_le {K : PySem.W.Frag} {G0 H0 : Hp} {E E' : En} (nx : ∀ ρ, E.nx ρ → E'.nx ρ) (rt : ∀ d, E.rt d → E'.rt d) (bk : ∀ ρ, E.bk ρ → E'.bk ρ) (ct : ∀ ρ, E.ct ρ → E'.ct ρ) (rl : ∀ ds, E.rl ds → E'.rl ds) : EndsLe (ends K L G0 H0 E) (ends K L G0 H0 E') :=
  ⟨fun _ _ ⟨ρ, G, s, h⟩ => ⟨ρ, G, s, nx ρ h⟩, fun _ _ h => h.elim (fun ⟨d, G, x, r, h⟩ => .inl ⟨d, G, x, r, rt d h⟩) (fun ⟨p, vs, ds, G, a1, a2, a3, a4, a5, a6, h⟩ => .inr ⟨p, vs, ds, G, a1, a2, a3, a4, a5, a6, rl ds h⟩), fun _ _ ⟨ρ, G, s, h⟩ => ⟨ρ, G, s, bk ρ h⟩, fun _ _ ⟨ρ, G, s, h⟩ => ⟨ρ, G, s, ct ρ h⟩⟩
theorem SV.imp {E E' : En} (h : SV X L ρ rest E) (nx : ∀ ρ, E.nx ρ → E'.nx ρ) (rt : ∀ d, E.rt d → E'.rt d) (bk : ∀ ρ, E.bk ρ → E'.bk ρ) (ct : ∀ ρ, E.ct ρ → E'.ct ρ) (rl : ∀ ds, E.rl ds → E'.rl ds := by exact fun _ h => h) : SV X L ρ rest E' := .mk fun σ G0 H0 G H st => wSs_mono (ends_le nx rt bk ct rl) (h.run σ G0 H0 G H st)
theorem sv_nil (h : E.nx ρ) : SV X L ρ [] E := .mk fun σ G0 H0 G H st => wSs_nil ⟨ρ, G, st, h⟩
theorem sv_ret (he : EV X L ρ e d) (h : E.rt d) : SV X L ρ (.Return (some e) pos :: rest) E := .mk fun σ G0 H0 G H st => by
  refine wSs_cons (wS_of (ps_ret pe_w) (he.run σ G0 H0 G H st _ fun v G1 H1 e1 r1 => ?_))
  exact .inl ⟨d, G1, st.ext.trans e1, r1, h⟩
theorem sv_expr (he : EV X L ρ e d) (h : SV X L ρ rest E) (hs : swapsWith e none pos.line X.env = pure false := by rfl) : SV X L ρ (.Expr e pos :: rest) E := .mk fun σ G0 H0 G H st =>
  wSs_cons (wS_of (ps_expr pe_w hs) (he.run σ G0 H0 G H st _ fun v G1 H1 e1 r1 => h.run σ G0 H0 G1 H1 (st.step e1)))
theorem sv_set (i : Nat) {x : Str} (he : EV X L ρ e d) (h : SV X L (ρ.set i (.v d)) rest E) (hN : X.N.Nodup := by first | assumption | decide +kernel) (hi : X.N[i]? = some x := by rfl) (hx : Loc X.env.scope x := by first | exact Or.inl rfl | exact Or.inr rfl)
    (hs : swapsWith e (some (.Name x pos')) pos.line X.env = pure false := by rfl) (hf : X.fn x = true ∨ X.env.scope.names.lookup x = some .local := by first | exact .inl rfl | exact .inr rfl) : SV X L ρ (.Assign [.Name x pos'] e pos :: rest) E := .mk fun σ G0 H0 G H st =>
  wSs_cons (wS_of (ps_set (i := i) hN hi hx pe_w hs hf) (he.run σ G0 H0 G H st _ fun v G1 H1 e1 r1 => h.run _ G0 H0 G1 H1 ((st.step e1).set r1)))
/-- x = [..]: a list that is to grow -/
theorem sv_new (i : Nat) {x : Str} (he : EVs X L ρ es ds) (hl : ds.length ≤ sizeLine) (h : SV X L (ρ.set i (.own ds)) rest E) (hN : X.N.Nodup := by first | assumption | decide +kernel) (hi : X.N[i]? = some x := by rfl) (hx : Loc X.env.scope x := by first | exact Or.inl rfl | exact Or.inr rfl)
    (hs : swapsWith (.List es p) (some (.Name x pos')) pos.line X.env = pure false := by rfl) (hf : X.fn x = true ∨ X.env.scope.names.lookup x = some .local := by first | exact .inl rfl | exact .inr rfl) : SV X L ρ (.Assign [.Name x pos'] (.List es p) pos :: rest) E := .mk fun σ G0 H0 G H st =>
  wSs_cons (wS_of (ps_set (i := i) hN hi hx (pe_lst pa_w) hs hf) (he.run σ G0 H0 G H st _ fun vs G1 H1 e1 r1 => ⟨by rw [r1.length]; exact hl, fun q hq => h.run _ G0 H0 G1 _ ((st.step e1).newOwn hq r1)⟩))
/-- x.append(e), x a list of the def's own -/
theorem sv_append (i : Nat) {x : Str} {apos cpos px : Pos} (hi : ρ[i]? = some (.own ds)) (he : EV X L ρ e d) (hl : ds.length < sizeLine) (h : SV X L (ρ.set i (.own (ds ++ [d]))) rest E) (hN : X.N[i]? = some x := by rfl)
    (hv : Vis X.env.scope x := by first | exact Or.inl rfl | exact Or.inr (Or.inl rfl) | exact Or.inr (Or.inr rfl)) (hd : (x == ("__debug__" : Str)) = false := by decide) (hcd : (x == ("__classdict__" : Str)) = false := by decide)
    (hbase : attributeBase (.Name x px) "append" X.env (eval (.Name x px) X.env) = eval (.Name x px) X.env := by rfl)
    (hfew : ((backTo cpos (starEach [e] X.env)).all (fun x => !x.1) && (backToKw cpos (keywordEach [] X.env)).all (fun x => x.1.isSome)
      && decide (([e] : List Expr).length + ([] : List Keyword).length + (if ([] : List Keyword).isEmpty then 0 else 1) < 30)) = true := by rfl)
    (hline : (apos.endLine == cpos.line) = true := by rfl) (hst : starEach [e] X.env = [(false, eval e X.env)] := by rfl) (hpl : (backTo cpos (starEach [] X.env)).any (·.1) = false := by rfl)
    (hsw : swapsWith (.Call (.Attribute (.Name x px) "append" apos) [e] [] cpos) none pos.line X.env = pure false := by rfl) :
    SV X L ρ (.Expr (.Call (.Attribute (.Name x px) "append" apos) [e] [] cpos) pos :: rest) E := .mk fun σ G0 H0 G H st => by
  obtain ⟨q, vs, h1, h2, h3, h4, h5⟩ := st.sl i _ hi
  have hσ := join_some h1
  refine wSs_cons (wS_of (ps_expr (pe_bm PySem.F.plainAttrs_list PySem.F.slot_list_append PySem.F.type_list_append mt_append (pe_var hN hv hd hcd) (pa_cons pe_w pa_nil hst) hbase hfew hline hst hpl) hsw) ?_)
  refine ⟨_, hσ, .inl ⟨rfl, _, SqL.of h2⟩, he.run σ G0 H0 G H st _ fun v G1 H1 e1 r1 => ?_⟩
  have st1 := st.step e1
  obtain ⟨q', vs', k1, k2, k3, k4, k5⟩ := st1.sl i _ hi
  have hσ' := join_some k1
  rw [hσ] at hσ'
  cases hσ'
  refine ⟨q, vs', v, rfl, rfl, k2, by rw [k5.length]; exact hl, ?_⟩
  exact h.run σ G0 H0 G1 _ (st1.updO (r' := .own (ds ++ [d])) hi trivial trivial hσ fun n1 n2 => ⟨q, _, rfl, upd_same, n1, n2, k5.append (.cons r1 .nil)⟩)
/-- the own list is a datum from here on -/
theorem sv_freeze (i : Nat) (hi : ρ[i]? = some (.own ds)) (h : SV X L (ρ.set i (.v (.lst ds))) rest E) : SV X L ρ rest E := .mk fun σ G0 H0 G H st => by
  obtain ⟨p, vs, _, _, _, _, st1⟩ := st.freeze hi
  exact h.run σ G0 H0 _ H st1
theorem sv_if (hc : TV X L ρ c t) (h1 : t = true → SV X L ρ body { E with nx := fun ρ' => SV X L ρ' rest E }) (h2 : t = false → SV X L ρ els { E with nx := fun ρ' => SV X L ρ' rest E }) : SV X L ρ (.If c body els pos :: rest) E := .mk fun σ G0 H0 G H st => by
  have le : EndsLe (ends X.K L G0 H0 { E with nx := fun ρ' => SV X L ρ' rest E }) { ends X.K L G0 H0 E with nx := fun σ' H' => wSs X rest (ends X.K L G0 H0 E) σ' H' } :=
    ⟨fun σ' H' ⟨ρ', G', s', h'⟩ => h'.run σ' G0 H0 G' H' s', fun _ _ q => q, fun _ _ q => q, fun _ _ q => q⟩
  refine wSs_cons (wS_of (ps_if pt_w pss_w pss_w) (hc.run σ G0 H0 G H st _ fun G1 H1 e1 => ?_))
  cases t with
  | true => exact iteT (wSs_mono le ((h1 rfl).run σ G0 H0 G1 H1 (st.step e1)))
  | false => exact iteF (wSs_mono le ((h2 rfl).run σ G0 H0 G1 H1 (st.step e1)))
/-! ### loops -/
/-- the targets of a for: what they make of the turn's datum -/
def GV (X : Cx) (L : Kl) (tg : Expr) (f : D → List Sl → List Sl) (ok : D → Prop) : Prop := ∃ g : TG, PG X tg g ∧ ∀ (d : D) (ρ : List Sl) (σ : L2.St) (G0 H0 G H : Hp) (v : V), ok d → StOk X.K L G0 H0 ρ σ G H → Rp X.K L G v d → ∀ Q : L2.St → Hp → Prop,
  (∀ σ', StOk X.K L G0 H0 (f d ρ) σ' G H → Q σ' H) → g v σ H Q
theorem gv_name (i : Nat) {x : Str} (hN : X.N.Nodup := by first | assumption | decide +kernel) (hi : X.N[i]? = some x := by rfl) (hx : Loc X.env.scope x := by first | exact Or.inl rfl | exact Or.inr rfl) (hf : X.fn x = true ∨ X.env.scope.names.lookup x = some .local := by first | exact .inl rfl | exact .inr rfl) :
    GV X L (.Name x pos) (fun d ρ => ρ.set i (.v d)) (fun _ => True) := ⟨_, pg_name hN hi hx hf, fun d ρ σ G0 H0 G H v _ st r Q k => k _ (st.set r)⟩
/-- (x, y) = a pair -/
theorem gv_pair (i j : Nat) {x y : Str} {px py pt : Pos} {k : Nat} (hc : X.calm = true := by rfl) (hN : X.N.Nodup := by first | assumption | decide +kernel) (hi : X.N[i]? = some x := by rfl) (hx : Loc X.env.scope x := by first | exact Or.inl rfl | exact Or.inr rfl) (hj : X.N[j]? = some y := by rfl) (hy : Loc X.env.scope y := by first | exact Or.inl rfl | exact Or.inr rfl)
    (hf : X.fn x = true ∨ X.env.scope.names.lookup x = some .local := by first | exact .inl rfl | exact .inr rfl) (hf' : X.fn y = true ∨ X.env.scope.names.lookup y = some .local := by first | exact .inl rfl | exact .inr rfl)
    (hs1 : (assignEach [.Name x px, .Name y py] X.env).map (·.2) = assign (.Name x px) X.env :: (assignEach [.Name y py] X.env).map (·.2) := by rfl) (hs2 : (assignEach [.Name y py] X.env).map (·.2) = assign (.Name y py) X.env :: (assignEach [] X.env).map (·.2) := by rfl)
    (hn : (assignEach [.Name x px, .Name y py] X.env).length = 2 := by rfl) (hst : (assignEach [.Name x px, .Name y py] X.env).findIdx? (·.1) = none := by rfl) :
    GV X L (.Tuple [.Name x px, .Name y py] k pt) (fun d ρ => match d with | .tup [d1, d2] => (ρ.set i (.v d1)).set j (.v d2) | _ => ρ) (fun d => ∃ d1 d2, d = .tup [d1, d2]) :=
  ⟨_, pg_tup hc (pgs_cons (pg_name hN hi hx hf) (pgs_cons (pg_name hN hj hy hf') pgs_nil hs2) hs1) hn hst, fun d ρ σ G0 H0 G H v ok st r Q kk => by
    obtain ⟨d1, d2, rfl⟩ := ok
    cases r with
    | tup hq hr =>
      obtain ⟨v1, v2, rfl, r1, r2⟩ := RpA.two hr
      exact ⟨_, _, rfl, seqT st.same hq, rfl, v1, [v2], rfl, v2, [], rfl, rfl, kk _ ((st.set r1).set r2)⟩⟩

theorem sv_for_seq {f : D → List Sl → List Sl} {ok : D → Prop} {iter : Expr} (Iv : Nat → List Sl → Prop) (hit : EV X L ρ iter (.lst ds)) (hg : GV X L tg f ok) (hok : ∀ d ∈ ds, ok d) (h0 : Iv 0 ρ)
    (hs : ∀ (i : Nat) (d : D) (ρ' : List Sl), ds[i]? = some d → Iv i ρ' → SV X L (f d ρ') body { nx := Iv (i + 1), ct := Iv (i + 1), bk := fun ρ'' => SV X L ρ'' rest E, rt := E.rt, rl := E.rl })
    (hd : ∀ ρ', Iv ds.length ρ' → SV X L ρ' rest E) (hp : PassesOwn (model X.prog X.w) X.A X.env X.xe := by exact PassesOwn.never) (hc : X.calm = true := by rfl) (hfs : ∀ x, foldedSetIterable iter X.env x = pure x := by intro _; rfl) :
    SV X L ρ (.For tg iter body [] pos :: rest) E := .mk fun σ G0 H0 G H st => by
  obtain ⟨g, pg, qg⟩ := hg
  refine wSs_cons (wS_of (ps_for hp hc (pi_list pe_w) pg pss_w hfs) (hit.run σ G0 H0 G H st _ fun v G1 H1 e1 r1 => ?_))
  have st1 := st.step e1
  cases r1 with
  | @lst q vs _ hq hr =>
    refine ⟨q, rfl, ⟨vs, Same.seq e1.gh hq⟩, for_list (K := X.K) (a := q) (xs := vs) (fun i σ' H' => ∃ ρ' G', StOk X.K L G1 H0 ρ' σ' G' H' ∧ Iv i ρ') ⟨ρ, G1, st1.rebase, h0⟩ (fun i σ' H' _ ⟨ρ', G', s', _⟩ => Same.seq (s'.ext.gg.trans s'.ext.gh) hq) ?_ ?_⟩
    · rintro i x σ' H' hx ⟨ρ', G', s', iv⟩
      obtain ⟨d, hd1, hd2⟩ := hr.get' hx
      refine qg d ρ' σ' G1 H0 G' H' x (hok d (List.mem_of_getElem? hd1)) s' (hd2.mono s'.ext.gg) _ fun σ2 s2 => ?_
      have hh := (hs i d ρ' hd1 iv).run σ2 G1 H0 G' H' s2
      refine wSs_mono ?_ hh
      refine ⟨fun _ _ q => q, ?_, ?_, fun _ _ q => q⟩
      · rintro v' H'' q
        exact retPre st1.ext q
      · rintro σ3 H3 ⟨ρ3, G3, s3, q3⟩
        exact q3.run σ3 G0 H0 G3 H3 (s3.unbase st1.ext)
    · rintro σ' H' ⟨ρ', G', s', iv⟩
      rw [hr.length] at iv
      exact (hd ρ' iv).run σ' G0 H0 G' H' (s'.unbase st1.ext)
/-- for x in range(n) -/
theorem sv_for_range {f : D → List Sl → List Sl} {ok : D → Prop} {x : Str} {n : Int} {p2 : Pos} (Iv : Nat → List Sl → Prop) (ha : EV X L ρ a (.int n)) (hn : -(2 ^ 62) ≤ n ∧ n < 2 ^ 62) (hm : X.mg x = none) (hx : x = "range") (hg : GV X L tg f ok) (hok : ∀ i : Int, ok (.int i)) (h0 : Iv 0 ρ)
    (hs : ∀ (i : Nat) (ρ' : List Sl), i < n.toNat → Iv i ρ' → SV X L (f (.int i) ρ') body { nx := Iv (i + 1), ct := Iv (i + 1), bk := fun ρ'' => SV X L ρ'' rest E, rt := E.rt, rl := E.rl })
    (hd : ∀ ρ', Iv n.toNat ρ' → SV X L ρ' rest E) (hgl : Gl X "range" := by rfl) (hst : starEach [a] X.env = [(false, eval a X.env)] := by rfl) (hp : PassesOwn (model X.prog X.w) X.A X.env X.xe := by exact PassesOwn.never) (hc : X.calm = true := by rfl)
    (hfs : ∀ x, foldedSetIterable (.Call (.Name "range" p) [a] [] p2) X.env x = pure x := by intro _; rfl) : SV X L ρ (.For tg (.Call (.Name x p) [a] [] p2) body [] pos :: rest) E := .mk fun σ G0 H0 G H st => by
  subst hx
  obtain ⟨g, pg, qg⟩ := hg
  refine wSs_cons (wS_of (ps_for hp hc (pi_range1 hgl hm (pa_cons pe_w pa_nil hst) hst) pg pss_w hfs) (ha.run σ G0 H0 G H st _ fun v G1 H1 e1 r1 => ?_))
  have st1 := st.step e1
  cases r1
  refine ⟨n, rfl, hn.1, hn.2, for_range (lo := 0) (n := n.toNat) (fun i σ' H' => ∃ ρ' G', StOk X.K L G1 H0 ρ' σ' G' H' ∧ Iv i ρ') ⟨ρ, G1, st1.rebase, h0⟩ ?_ ?_⟩
  · rintro i σ' H' hi ⟨ρ', G', s', iv⟩
    refine qg (.int i) ρ' σ' G1 H0 G' H' _ (hok _) s' (by rw [Int.zero_add]; exact .int _) _ fun σ2 s2 => ?_
    have hh := (hs i ρ' hi iv).run σ2 G1 H0 G' H' s2
    refine wSs_mono ?_ hh
    refine ⟨fun _ _ q => q, ?_, ?_, fun _ _ q => q⟩
    · rintro v' H'' q
      exact retPre st1.ext q
    · rintro σ3 H3 ⟨ρ3, G3, s3, q3⟩
      exact q3.run σ3 G0 H0 G3 H3 (s3.unbase st1.ext)
  · rintro σ' H' ⟨ρ', G', s', iv⟩
    exact (hd ρ' iv).run σ' G0 H0 G' H' (s'.unbase st1.ext)
end

/-! ### defs -/
/-- a def that makes of data a datum, and does nothing else -/
def spC (K : PySem.W.Frag) (L : Kl) (C : List D → D → Prop) : Sp := fun vs H Q _ => ∃ G ds r, Same G H ∧ RpA K L G vs ds ∧ C ds r ∧ ∀ v G' H', Ext G H G' H' → Rp K L G' v r → Q v H'
def rho0 (N : List Str) (ds : List D) : List Sl := ds.map Sl.v ++ List.replicate (N.length - ds.length) Sl.no
section
variable {P : Program} {w : World} {K : PySem.W.Frag} {mg : Str → Option Value} {base : Heap} {L : Kl}
theorem st0 {N : List Str} {vs : List V} {ds : List D} {G H : Hp} (s : Same G H) (r : RpA K L G vs ds) : StOk K L G H (rho0 N ds) (start N vs) G H where
  ext := .refl s
  sl := fun i x hx => by
    unfold rho0 at hx
    unfold L2.start
    by_cases h : i < ds.length
    · rw [List.getElem?_append_left (by rw [List.length_map]; exact h), List.getElem?_map] at hx
      rw [List.getElem?_append_left (by rw [List.length_map, r.length]; exact h), List.getElem?_map]
      cases q : ds[i]? with
      | none => rw [q] at hx; cases hx
      | some d =>
        rw [q] at hx
        cases hx
        obtain ⟨v, h1, h2⟩ := r.get q
        rw [h1]
        exact ⟨v, rfl, h2⟩
    · rw [List.getElem?_append_right (by rw [List.length_map]; omega), List.getElem?_replicate] at hx
      split at hx
      · cases hx; trivial
      · cases hx
  len := by
    unfold rho0 L2.start
    rw [List.length_append, List.length_append, List.length_map, List.length_map, List.length_replicate, List.length_replicate, r.length]
  dist := fun i j p r1 r2 h1 h2 o1 => by
    unfold rho0 at h1
    have hm := List.mem_of_getElem? h1
    rcases List.mem_append.mp hm with h | h
    · obtain ⟨d, _, e⟩ := List.mem_map.mp h
      rw [← e] at o1
      exact o1.elim
    · rw [(List.mem_replicate.mp h).2] at o1
      exact o1.elim
/-- the def of that name, with what it makes of data (defaults filled up) -/
structure Fn (P : Program) (w : World) (K : PySem.W.Frag) (mg : Str → Option Value) (base : Heap) (L : Kl) (x : Str) (k : Nat) (C : List D → D → Prop) : Prop where
  ex : ∃ (f : Addr) (fd : FuncData) (ps : List Str) (C0 : List D → D → Prop) (dvs : List V) (us : List Value) (dds : List D), FnOk P w K mg base CX0 k f fd ps (spC K L C0) ∧ mg x = some (.ref f) ∧ PySem.W.keepIn K (.ref f) = true ∧ Binds K fd ps us ∧ Vals dvs us ∧
    (∀ G, RpA K L G dvs dds) ∧ ∀ ds r, C ds r → C0 (ds ++ dds) r
theorem Fn.mk0 {x : Str} {k : Nat} {C : List D → D → Prop} {f : Addr} {fd : FuncData} {ps : List Str} (F : FnOk P w K mg base CX0 k f fd ps (spC K L C)) (hm : mg x = some (.ref f)) (hk : PySem.W.keepIn K (.ref f) = true) (hb : Binds K fd ps []) : Fn P w K mg base L x k C :=
  ⟨f, fd, ps, C, [], [], [], F, hm, hk, hb, .nil, fun _ => .nil, fun ds r h => by rw [List.append_nil]; exact h⟩
end
section
variable {X : Cx} {L : Kl} {ρ : List Sl} {e : Expr} {es : List Expr} {d : D} {ds : List D} {pos p : Pos}
theorem ev_call {x : Str} {k : Nat} {C : List D → D → Prop} (F : Fn X.prog X.w X.K X.mg X.base L x k C) (hr : Room k X.A) (ha : EVs X L ρ (e :: es) ds) (hc : C ds d) (hg : Gl X x := by rfl) (hdb : (x == ("__debug__" : Str)) = false := by decide)
    (he : starEach (e :: es) X.env = (false, eval e X.env) :: starEach es X.env := by rfl) (hpl : (backTo pos (starEach es X.env)).any (·.1) = false := by rfl) : EV X L ρ (.Call (.Name x p) (e :: es) [] pos) d := .mk fun σ G0 H0 G H st Q k => by
  obtain ⟨f, fd, ps, C0, dvs, us, dds, F1, hm, hk, hb, hv, hdd, hC⟩ := F.ex
  refine wE_of (pe_call F1 hr hg hm hk hb hv pass0 pa_w hdb he hpl) (ha.run σ G0 H0 G H st _ fun vs G1 H1 e1 r1 => ?_)
  exact ⟨G1, ds ++ dds, d, e1.gh, r1.append (hdd G1), hC ds d hc, fun v G2 H2 e2 r2 => k v G2 H2 (e1.trans e2) r2⟩
end
end Z

namespace Z
open PySem PySem.Spec PyProof.Rows L2

/-! ### data of the library; == -/
mutual
def pd : D → PyData
  | .non => .none
  | .bl b => .bool b
  | .int i => .int i
  | .str x => .str x
  | .tup xs => .tuple (pdA xs)
  | .lst xs => .list (pdA xs)
  | .ty _ => .none
  | .cls _ => .none
  | .obj _ _ => .none
  | .dct _ => .none
def pdA : List D → List PyData
  | [] => []
  | x :: xs => pd x :: pdA xs
end
mutual
def okd : D → Bool
  | .non => true
  | .bl _ => true
  | .int _ => true
  | .str _ => true
  | .tup xs => okA xs
  | .lst xs => okA xs
  | .ty _ => false
  | .cls _ => false
  | .obj _ _ => false
  | .dct _ => false
def okA : List D → Bool
  | [] => true
  | x :: xs => okd x && okA xs
end
def eqD (a b : D) : Bool := PyData.eqv (pd a) (pd b)
def okq (d : D) : Bool := okd d && SeqAt.shaped (pd d)

section
variable {X : Cx} {L : Kl} {pins : List (Addr × Obj)} {σ : L2.St} {G H : Hp} {s : Shared}
theorem rd_list (I : Inv X pins σ H s) {a : Addr} {vs : List V} (h : SqL X.K H a vs) : ∃ (its : List Value) (o : Obj) (n : Nat), Vals vs its ∧ s.heap.get? a = some o ∧ o.cls = .type "list" ∧ o.data = .seq its.toArray n ∧ vs.length ≤ sizeLine := by
  obtain ⟨its, r, ⟨o, n, e, c, _, d⟩, z⟩ := I.list h
  exact ⟨its, o, n, r, e, c, d, z⟩
mutual
theorem Rp.reads (I : Inv X pins σ H s) (sm : Same G H) : ∀ {v : V} {d : D} {u : Value}, Rp X.K L G v d → RelV v u → okd d = true → ∃ as, Reads s.heap u (pd d) as
  | _, _, _, .non, r, _ => by cases r; exact ⟨_, .none⟩
  | _, _, _, .bl b, r, _ => by cases r; exact ⟨_, .bool b⟩
  | _, _, _, .int i, r, _ => by obtain ⟨t, rfl⟩ := r; exact ⟨_, .int i t⟩
  | _, _, _, .str x, r, _ => by obtain ⟨t, rfl⟩ := r; exact ⟨_, .str x t⟩
  | _, _, _, .ty n, _, h => by cases h
  | _, _, _, .cls c, _, h => by cases h
  | _, _, _, .obj _ _ _, _, h => by cases h
  | _, _, _, .dct _ _, _, h => by cases h
  | _, _, _, .tup hq hr, r, h => by
    cases r
    obtain ⟨its, rv, ⟨o, h1, h2, n, h3⟩, _⟩ := I.tuple (seqT sm hq)
    obtain ⟨as, ha⟩ := RpA.reads I sm hr rv h
    exact ⟨_, .tuple h1 h2 h3 (by simpa using ha)⟩
  | _, _, _, .lst hq hr, r, h => by
    cases r
    obtain ⟨its, o, n, rv, h1, h2, h3, _⟩ := rd_list I (Same.seq sm hq)
    obtain ⟨as, ha⟩ := RpA.reads I sm hr rv h
    exact ⟨_, .list h1 h2 h3 (by simpa using ha)⟩
theorem RpA.reads (I : Inv X pins σ H s) (sm : Same G H) : ∀ {vs : List V} {ds : List D} {us : List Value}, RpA X.K L G vs ds → Vals vs us → okA ds = true → ∃ as, ReadsAll s.heap us (pdA ds) as
  | _, _, _, .nil, r, _ => by cases r; exact ⟨_, .nil⟩
  | _, _, _, .cons h hs, r, q => by
    cases r with
    | cons r rs =>
      have q' := Bool.and_eq_true_iff.mp q
      obtain ⟨as, ha⟩ := Rp.reads I sm h r q'.1
      obtain ⟨bs, hb⟩ := RpA.reads I sm hs rs q'.2
      exact ⟨_, .cons ha hb⟩
end
def rQ (K : PySem.W.Frag) (L : Kl) (neg : Bool) : R2 := fun x y H Q => ∃ G da db, Same G H ∧ Rp K L G x da ∧ Rp K L G y db ∧ okq da = true ∧ okq db = true ∧ Q (.bl (if neg then !eqD da db else eqD da db)) H
theorem op_eqD (hu : X.A.units + 64 < cLine) : OpR X (compareOp .Eq) (rQ X.K L false) := by
  intro pins s σ H x y v u Q I rx ry ⟨G, da, db, sm, ra, rb, oa, ob, q⟩
  have oa' := Bool.and_eq_true_iff.mp oa
  have ob' := Bool.and_eq_true_iff.mp ob
  obtain ⟨as, ha⟩ := Rp.reads I sm ra rx oa'.1
  obtain ⟨bs, hb⟩ := Rp.reads I sm rb ry ob'.1
  exact eq_dataH ha hb oa'.2 ob'.2 hu ⟨.bl _, H, I, rfl, q⟩
theorem op_neD (hu : X.A.units + 64 < cLine) : OpR X (compareOp .NotEq) (rQ X.K L true) := by
  intro pins s σ H x y v u Q I rx ry ⟨G, da, db, sm, ra, rb, oa, ob, q⟩
  have oa' := Bool.and_eq_true_iff.mp oa
  have ob' := Bool.and_eq_true_iff.mp ob
  obtain ⟨as, ha⟩ := Rp.reads I sm ra rx oa'.1
  obtain ⟨bs, hb⟩ := Rp.reads I sm rb ry ob'.1
  exact ne_dataH ha hb oa'.2 ob'.2 hu ⟨.bl _, H, I, rfl, q⟩
end
section
variable {X : Cx} {L : Kl} {ρ : List Sl} {e a b c o tg : Expr} {es rs : List Expr} {d da db : D} {ds : List D} {pos p pos' : Pos} {E : En} {rest body els : List Stmt} {t u : Bool}
theorem op2Q {K : PySem.W.Frag} {neg : Bool} (ha : okq da = true) (hb : okq db = true) : Op2 K L (rQ K L neg) da db (.bl (if neg then !eqD da db else eqD da db)) := fun G H v u s r1 r2 Q k => ⟨G, da, db, s, r1, r2, ha, hb, k _ G H (.refl s) (.bl _)⟩
theorem ev_eq {k : Nat} (hr : Room k X.A) (ha : EV X L ρ a da) (hb : EV X L ρ b db) (oa : okq da = true := by rfl) (ob : okq db = true := by rfl) : EV X L ρ (.Compare a [.Eq] [b] pos) (.bl (eqD da db)) := ev_cmp (op_eqD hr.units) (op2Q (neg := false) oa ob) ha hb (nomark _)
theorem ev_ne {k : Nat} (hr : Room k X.A) (ha : EV X L ρ a da) (hb : EV X L ρ b db) (oa : okq da = true := by rfl) (ob : okq db = true := by rfl) : EV X L ρ (.Compare a [.NotEq] [b] pos) (.bl (!eqD da db)) := ev_cmp (op_neD hr.units) (op2Q (neg := true) oa ob) ha hb (nomark _)
theorem tv_eq {k : Nat} (hr : Room k X.A) (ha : EV X L ρ a da) (hb : EV X L ρ b db) (oa : okq da = true := by rfl) (ob : okq db = true := by rfl) : TV X L ρ (.Compare a [.Eq] [b] pos) (eqD da db) := tv_cmp (op_eqD hr.units) (op2Q (neg := false) oa ob) ha hb (nomark _)
theorem tv_ne {k : Nat} (hr : Room k X.A) (ha : EV X L ρ a da) (hb : EV X L ρ b db) (oa : okq da = true := by rfl) (ob : okq db = true := by rfl) : TV X L ρ (.Compare a [.NotEq] [b] pos) (!eqD da db) := tv_cmp (op_neD hr.units) (op2Q (neg := true) oa ob) ha hb (nomark _)

/-! ### isinstance -/
/-- an own class, as isinstance looks at its instances -/
structure ClsI (K : PySem.W.Frag) (C : Addr) : Prop where
  cl : Cls K C
  ha : PySem.W.findIn K (.ref C) "__class__" = some (some (.builtin "object.__class__"))
  hn : PySem.W.specialIn K (.builtin "object.__class__") "__get__" = some (some (.builtin "getset_descriptor.__get__"))
  htk : PySem.W.takesIn K (.builtin "object.__class__") = some true
  hm : PySem.W.mroIn K C (.type "object") = some true
inductive TyD (K : PySem.W.Frag) (L : Kl) : D → Value → Prop where
  | non : TyD K L .non (.type "NoneType")
  | bl (x : Bool) : TyD K L (.bl x) (.type "bool")
  | int (i : Int) : TyD K L (.int i) (.type "int")
  | str (x : Str) : TyD K L (.str x) (.type "str")
  | tup (ds : List D) : TyD K L (.tup ds) (.type "tuple")
  | lst (ds : List D) : TyD K L (.lst ds) (.type "list")
  | obj {c : Nat} (ds : List D) (h : ClsI K (L.cls c)) : TyD K L (.obj c ds) (.ref (L.cls c))
theorem isinst {pins : List (Addr × Obj)} {σ : L2.St} {G H : Hp} {s : Shared} {Q : Value → Shared → Prop} {A : Around} {E : Value → Shared → Prop} {x : V} {u t cv : Value} {k : Bool} (I : Inv X pins σ H s) (sm : Same G H) (rx : RelV x u) (r : Rp X.K L G x d) (ty : TyD X.K L d t)
    (e : PySem.W.kitOne X.K t cv = some k) (h : ∀ tk, Q (.bool k) { s with toks := tk }) : wpAny (model X.prog X.w) A (call (.builtin "isinstance") [u, cv]) Q E s := by
  cases ty with
  | non => cases r; cases rx; exact PySem.W.kia_one PySem.W.kitx_none I.kIn True.intro e (fun z => nomatch z) h
  | bl y => cases r; cases rx; exact PySem.W.kia_one PySem.W.kitx_bool I.kIn True.intro e (fun z => nomatch z) h
  | int i => cases r; obtain ⟨t, rfl⟩ := rx; exact PySem.W.kia_one PySem.W.kitx_int I.kIn True.intro e (fun z => nomatch z) h
  | str y => cases r; obtain ⟨t, rfl⟩ := rx; exact PySem.W.kia_one PySem.W.kitx_str I.kIn True.intro e (fun z => nomatch z) h
  | tup ds =>
    cases r with
    | tup hq hr =>
      cases rx
      obtain ⟨its, rv, ⟨o, h1, h2, n, h3⟩, _⟩ := I.tuple (seqT sm hq)
      exact PySem.W.kia_one PySem.W.kitx_tuple I.kIn ⟨o, h1, h2⟩ e (fun z => nomatch z) h
  | lst ds =>
    cases r with
    | lst hq hr =>
      cases rx
      obtain ⟨its, o, n, rv, h1, h2, h3, _⟩ := rd_list I (Same.seq sm hq)
      exact PySem.W.kia_one PySem.W.kitx_list I.kIn ⟨_, h1, h2⟩ e (fun z => nomatch z) h
  | obj ds ci =>
    cases r with
    | obj hq hl hr =>
      cases rx
      exact isinst_ok (x := .ref _) I rfl (.ins (sm _ _ hq) ci.cl ci.ha ci.hn ci.htk ci.hm) e h
def rIsi (K : PySem.W.Frag) (L : Kl) : List V → Hp → VK → Prop := fun xs H Q => ∃ G x d t cv c k, xs = [x, c] ∧ Same G H ∧ Rp K L G x d ∧ TyD K L d t ∧ (∀ u, RelV c u → u = cv) ∧ PySem.W.kitOne K t cv = some k ∧ Q (.bl k) H
theorem call_isi : CallR X (.builtin "isinstance") (rIsi X.K L) := by
  intro pins s σ H xs us Q I r ⟨G, x, d, t, cv, c, k, e, sm, rp, ty, rc, hk, q⟩
  subst e
  obtain ⟨u, w', rfl, r1, r2⟩ := vals2 r
  have ec : w' = cv := rc _ r2
  subst ec
  exact isinst I sm r1 rp ty hk fun tk => ⟨.bl k, H, I.tok tk, rfl, q⟩
theorem ev_isiT {x y : Str} {t : Value} {k : Bool} {n : String} {py : Pos} (ha : EV X L ρ a d) (ty : TyD X.K L d t) (hk : PySem.W.kitOne X.K t (.type n) = some k) (hm : X.mg x = none) (hmy : X.mg y = none) (hx : x = "isinstance" := by rfl) (hy : bootBuiltins y = some (.type n) := by decide +kernel) (hg : Gl X x := by rfl) (hgy : Gl X y := by rfl)
    (hn : y ≠ "__name__" := by decide) (hd : (y == ("__debug__" : Str)) = false := by decide)
    (he : starEach [a, .Name y py] X.env = (false, eval a X.env) :: starEach [.Name y py] X.env := by rfl) : EV X L ρ (.Call (.Name x p) [a, .Name y py] [] pos) (.bl k) := by
  subst hx
  refine ev_callB (call_isi (L := L)) (fun G H vs s r Q kk => ?_) hm (by decide +kernel) (evs_cons ha (evs_cons (ev_bltn (d := .ty n) (v := .ty n) hmy hy rfl (fun _ => .ty n) hgy hn hd) evs_nil) he) hg (he := he)
  obtain ⟨v, u, rfl, h1, h2⟩ := RpA.two r
  cases h2
  exact ⟨G, v, d, t, _, _, k, rfl, s, h1, ty, fun _ z => z, hk, kk _ G H (.refl s) (.bl k)⟩
theorem ev_isiC {x y : Str} {t : Value} {k : Bool} {c : Nat} {py : Pos} (ha : EV X L ρ a d) (ty : TyD X.K L d t) (hk : PySem.W.kitOne X.K t (.ref (L.cls c)) = some k) (hm : X.mg x = none) (hmy : X.mg y = some (.ref (L.cls c))) (hx : x = "isinstance" := by rfl) (hg : Gl X x := by rfl) (hgy : Gl X y := by rfl)
    (hd : (y == ("__debug__" : Str)) = false := by decide)
    (he : starEach [a, .Name y py] X.env = (false, eval a X.env) :: starEach [.Name y py] X.env := by rfl) : EV X L ρ (.Call (.Name x p) [a, .Name y py] [] pos) (.bl k) := by
  subst hx
  refine ev_callB (call_isi (L := L)) (fun G H vs s r Q kk => ?_) hm (by decide +kernel) (evs_cons ha (evs_cons (ev_glob (d := .cls c) (v := .ref (L.cls c)) hmy rfl (fun _ => .cls c) hgy hd) evs_nil) he) hg (he := he)
  obtain ⟨v, u, rfl, h1, h2⟩ := RpA.two r
  cases h2
  exact ⟨G, v, d, t, _, _, k, rfl, s, h1, ty, fun _ z => z, hk, kk _ G H (.refl s) (.bl k)⟩

/-! ### max -/
theorem call_max3 (hc : X.calm = true) : CallR X (.builtin "max") (fun xs H Q => ∃ i j k, xs = [.int i, .int j, .int k] ∧ Q (.int (max i (max j k))) H) := by
  intro pins s σ H xs us Q I r ⟨i, j, k, e, q⟩
  subst e
  cases r with
  | cons r1 r =>
    cases r with
    | cons r2 r =>
      cases r with
      | cons r3 r =>
        cases r
        obtain ⟨t1, rfl⟩ := r1
        obtain ⟨t2, rfl⟩ := r2
        obtain ⟨t3, rfl⟩ := r3
        refine max_three_ints (I.ok.hd hc) fun h' tk kp => ⟨_, H, I.kept kp, ?_, q⟩
        have e : ∀ m : Int, m = max i (max j k) → ∃ t, (if j > i then (if k > j then Value.int k t3 else Value.int j t2) else (if k > i then Value.int k t3 else Value.int i t1)) = Value.int m t := fun m hm => by
          split
          · split
            · exact ⟨t3, by rw [hm, show max i (max j k) = k by omega]⟩
            · exact ⟨t2, by rw [hm, show max i (max j k) = j by omega]⟩
          · split
            · exact ⟨t3, by rw [hm, show max i (max j k) = k by omega]⟩
            · exact ⟨t1, by rw [hm, show max i (max j k) = i by omega]⟩
        exact e _ rfl
theorem ev_max3 {i j k : Int} {x : Str} (ha : EV X L ρ a (.int i)) (hb : EV X L ρ b (.int j)) (hcc : EV X L ρ c (.int k)) (hm : X.mg x = none) (hx : x = "max" := by rfl) (hg : Gl X x := by rfl) (hc : X.calm = true := by rfl)
    (he : starEach [a, b, c] X.env = (false, eval a X.env) :: starEach [b, c] X.env := by rfl) (he2 : starEach [b, c] X.env = (false, eval b X.env) :: starEach [c] X.env := by rfl) (he3 : starEach [c] X.env = (false, eval c X.env) :: starEach [] X.env := by rfl) (hpl : (backTo pos (starEach [b, c] X.env)).any (·.1) = false := by rfl) : EV X L ρ (.Call (.Name x p) [a, b, c] [] pos) (.int (max i (max j k))) := by
  subst hx
  refine ev_callB (call_max3 hc) (fun G H vs s r Q kk => ?_) hm boot_max (evs_cons ha (evs_cons hb (evs_cons hcc evs_nil he3) he2) he) hg (he := he) (hpl := hpl)
  cases r with
  | cons h1 r =>
    obtain ⟨v, u, rfl, h2, h3⟩ := RpA.two r
    cases h1; cases h2; cases h3
    exact ⟨i, j, k, rfl, kk _ G H (.refl s) (.int _)⟩
/-- the greatest of a list -/
def maxL : List Int → Int
  | [] => 0
  | [x] => x
  | x :: y :: r => max x (maxL (y :: r))
theorem maxL_mem : ∀ {l : List Int}, l ≠ [] → maxL l ∈ l
  | [], h => absurd rfl h
  | [x], _ => by simp [maxL]
  | x :: y :: r, _ => by
    have ih := maxL_mem (l := y :: r) (by simp)
    show max x (maxL (y :: r)) ∈ x :: y :: r
    by_cases h : maxL (y :: r) ≤ x
    · rw [show max x (maxL (y :: r)) = x by omega]; simp
    · rw [show max x (maxL (y :: r)) = maxL (y :: r) by omega]; exact List.mem_cons_of_mem _ ih
theorem le_maxL : ∀ {l : List Int} {a : Int}, a ∈ l → a ≤ maxL l
  | [], _, h => by cases h
  | [x], a, h => by simp at h; subst h; simp [maxL]
  | x :: y :: r, a, h => by
    show a ≤ max x (maxL (y :: r))
    rcases List.mem_cons.mp h with rfl | h
    · omega
    · have := le_maxL (l := y :: r) h
      omega
theorem call_maxL (hc : X.calm = true) : CallR X (.builtin "max") (fun xs H Q => ∃ p ns, xs = [.ref p] ∧ SqL X.K H p (ns.map V.int) ∧ ns ≠ [] ∧ Q (.int (maxL ns)) H) := by
  intro pins s σ H xs us Q I r ⟨q, ns, e, hq, hne, k⟩
  subst e
  obtain ⟨u, rfl, rx⟩ := vals1 r
  cases rx
  obtain ⟨its, rv, pl, hz⟩ := I.list hq
  have hi := intsAre_of rv
  obtain ⟨ys, e⟩ := hi.allInts.items
  have hns : ns = ys.toList.map (·.1) := by rw [← hi.numsOf, ← nums_intItems, ← e]
  have hpos : 0 < ns.length := by cases ns with | nil => exact absurd rfl hne | cons _ _ => simp
  have hsz : 0 < ys.size := by have h3 := hpos; rw [hns, List.length_map, Array.length_toList] at h3; exact h3
  have hl := pl.isList
  rw [e] at hl
  refine max_intList (I.ok.hd hc) hl hsz fun v h' tk hv kp => ?_
  obtain ⟨tk', rfl⟩ := intItems_at hv
  obtain ⟨h1, h2⟩ := argBest_gt (numAt ys) (ys.size - 1)
  refine ⟨.int (maxL ns), H, I.kept kp, ⟨tk', ?_⟩, k⟩
  have m1 : numAt ys (argBest (fun i j => decide (numAt ys i > numAt ys j)) (ys.size - 1)) ∈ ns := by
    rw [hns, numAt_eq]; exact getD_mem (by rw [List.length_map, Array.length_toList]; omega)
  have m2 : ∀ a, a ∈ ns → a ≤ numAt ys (argBest (fun i j => decide (numAt ys i > numAt ys j)) (ys.size - 1)) := fun a ha => by
    rw [hns] at ha
    obtain ⟨jj, hjj, rfl⟩ := mem_getD ha
    rw [List.length_map, Array.length_toList] at hjj
    rw [← numAt_eq]; exact h2 jj (by omega)
  have e1 := le_maxL m1
  have e2 := m2 _ (maxL_mem hne)
  rw [show numAt ys (argBest (fun i j => decide (numAt ys i > numAt ys j)) (ys.size - 1)) = maxL ns by omega]
theorem ev_maxL {ns : List Int} {x : Str} (ha : EV X L ρ a (.lst (ns.map D.int))) (hne : ns ≠ []) (hm : X.mg x = none) (hx : x = "max" := by rfl) (hg : Gl X x := by rfl) (hc : X.calm = true := by rfl) (he : starEach [a] X.env = (false, eval a X.env) :: starEach [] X.env := by rfl) : EV X L ρ (.Call (.Name x p) [a] [] pos) (.int (maxL ns)) := by
  subst hx
  refine ev_callB (call_maxL hc) (fun G H vs s r Q kk => ?_) hm boot_max (evs_cons ha evs_nil he) hg (he := he)
  obtain ⟨v, rfl, h⟩ := RpA.one r
  cases h with
  | lst hq hr =>
    have e := hr.of_ints
    subst e
    exact ⟨_, ns, rfl, Same.seq s hq, hne, kk _ G H (.refl s) (.int _)⟩
end
end Z

namespace Z
open PySem PySem.Spec PyProof.Rows L2

/-! ### for i, x in enumerate(xs) -/
section
variable {X : Cx} {pins : List (Addr × Obj)} {σ : L2.St} {H : Hp} {s : Shared} {h' : Heap}
/-- records of ours have turned, and a new object is laid and tracked -/
theorem turnedNew {t' : Nat} {ch : List Addr} {N : Addr} {o : HO} (I : Inv X pins σ H s) (k : ∀ b u, b ∉ ch → s.heap.get? b = some u → h'.get? b = some u) (hf : ∀ b ∈ ch, FpOk X pins H b) (hN : s.heap.objs.size ≤ N)
    (new : ObjOk X.prog X.w (upd H N o) h' N o) : Inv X pins σ (upd H N o) { s with heap := h', toks := t' } := by
  have hn : H N = none := I.hok.fresh hN
  have old : ∀ b u, s.heap.get? b = some u → b ≠ N := fun b u e z => by
    subst z
    exact absurd (Nat.lt_of_lt_of_le (Heap.lt_size e) hN) (Nat.lt_irrefl _)
  have nch : ∀ b u, H b = some u → b ∉ ch := fun b u e z => by
    rw [(hf b z).1] at e
    cases e
  refine I.step (g' := s.gens) (d' := s.drawn) (ch := ch) (fun b hb => ?_) (fun b o _ _ hc e _ => k b o hc e) (fun b o _ _ hc e _ => ⟨o.slots, k b o hc e⟩) (fun b o _ e n => by rw [upd_ne (old b o e)]; exact n)
    (fun b o hc e => ⟨o, k b o hc e⟩) (fun b xs e => same_new hn _ _ _ e) (fun b o u e => same_new hn _ _ _ e) (fun b ps e => ⟨#[], by rw [same_new hn _ _ _ e]; simp⟩) (fun m hm => ?_) (fun b u e => ?_) I.bare
  · obtain ⟨f0, f1, f2, f3, f4, f5⟩ := hf b hb
    exact ⟨f3, f1, f4, f5⟩
  · obtain ⟨o, es, ep, ho, r⟩ := hm
    exact ⟨o, es, ep, k _ o (fun z => (hf _ z).2.1 rfl) ho, r⟩
  · by_cases hb : b = N
    · subst hb
      rw [upd_same] at e
      cases e
      exact new
    · rw [upd_ne hb] at e
      refine (I.hok b u e).stay (fun c v hc q => k c v ?_ q) (fun c q => same_new hn _ _ _ q) fun c xs q => same_new hn _ _ _ q
      rcases hc with z | z
      · rw [z]; exact nch b u e
      · exact nch c _ z
theorem turnedL {t' : Nat} {ch : List Addr} (I : Inv X pins σ H s) (k : ∀ b u, b ∉ ch → s.heap.get? b = some u → h'.get? b = some u) (hf : ∀ b ∈ ch, FpOk X pins H b) : Inv X pins σ H { s with heap := h', toks := t' } := by
  have nch : ∀ b u, H b = some u → b ∉ ch := fun b u e z => by
    rw [(hf b z).1] at e
    cases e
  refine I.step (g' := s.gens) (d' := s.drawn) (ch := ch) (fun b hb => ?_) (fun b o _ _ hc e _ => k b o hc e) (fun b o _ _ hc e _ => ⟨o.slots, k b o hc e⟩) (fun b o _ e n => n)
    (fun b o hc e => ⟨o, k b o hc e⟩) (fun b xs e => e) (fun b o u e => e) (fun b ps e => ⟨#[], by rw [e]; simp⟩) (fun m hm => ?_) (fun b u e => ?_) I.bare
  · obtain ⟨f0, f1, f2, f3, f4, f5⟩ := hf b hb
    exact ⟨f3, f1, f4, f5⟩
  · obtain ⟨o, es, ep, ho, r⟩ := hm
    exact ⟨o, es, ep, k _ o (fun z => (hf _ z).2.1 rfl) ho, r⟩
  · refine (I.hok b u e).stay (fun c v hc q => k c v ?_ q) (fun c q => q) fun c xs q => q
    rcases hc with z | z
    · rw [z]; exact nch b u e
    · exact nch c _ z
end
def Ite (K : PySem.W.Frag) (a : Addr) : It :=
  ⟨fun i H => ∃ xs x, SqL K H a xs ∧ xs[i]? = some x, fun i H x H' => ∃ p y, x = .ref p ∧ H p = none ∧ H' = upd H p (.tup [.int i, y]) ∧ ∀ xs, SqL K H a xs → xs[i]? = some y, fun i H => ∃ xs, SqL K H a xs ∧ xs.length ≤ i⟩
theorem turn_enum {P : Program} {w : World} {K : PySem.W.Frag} {elts : List Expr} {x1 : Nat} {pos : Pos} (a e it : Addr) (hne : e ≠ it) :
    Turn P w K (.Tuple elts x1 pos) (Ite K a) [e, it] e (fun i h => (∃ old, IsEnum h e it (i : Nat) old) ∧ h.IsListIter it a i) where
  mem := by simp
  obj := fun i h st b hb => by
    obtain ⟨⟨old, h1⟩, o, h2, h3, h4⟩ := st
    rcases List.mem_cons.mp hb with rfl | hb
    · exact ⟨_, h1, fun v z => by cases z⟩
    · have e : b = it := by simpa using hb
      subst e
      exact ⟨o, h2, fun v z => by rw [h4] at z; cases z⟩
  keep := fun i h h' ⟨⟨old, h1⟩, h2⟩ k => ⟨⟨old, k e (by simp) _ h1⟩, h2.at fun o q => k it (by simp) o q⟩
  item := by
    intro X hP hw hK hc i pins s σ H E I hf st hg
    subst hP hw hK
    obtain ⟨xs, x, hq, hx⟩ := hg
    obtain ⟨⟨old, h1⟩, h2⟩ := st
    obtain ⟨its, ol, n, rv, hl, hlc, hld, hz⟩ := rd_list I hq
    obtain ⟨u, hu, ru⟩ := rv.get hx
    refine wpAny_pyNext_enum_item (items := its.toArray) (x := u) h1 h2 ⟨_, hl, hlc, n, hld⟩ (by simpa using hu) hne fun h' ho hi ht hsz kp => ⟨_, rfl, wpAny_letOwnedTupleGo_enum ho fun h'' he hs => ?_⟩
    have hel : e < s.heap.objs.size := Heap.lt_size h1
    have hnew : h''.get? s.heap.objs.size = some { cls := .type "tuple", data := .seq #[.int i s.toks, u] } := hs.extBut _ _ (Nat.ne_of_gt hel) ht
    refine ⟨.ref s.heap.objs.size, upd H s.heap.objs.size (.tup [.int i, x]), turnedNew (s := s) (t' := s.toks + 1) (ch := [e, it]) I (fun b v hb q => ?_) hf (Nat.le_refl _) ?_, rfl, ⟨_, x, rfl, I.hok.fresh (Nat.le_refl _), rfl, fun ys hy => by rw [I.list_inj hy hq]; exact hx⟩, ⟨⟨u, ?_⟩, ?_⟩, fun b hb => ?_⟩
    · have hb1 : b ≠ e := fun z => hb (by simp [z])
      have hb2 : b ≠ it := fun z => hb (by simp [z])
      exact hs.extBut b v hb1 (kp b v hb1 hb2 q)
    · exact ⟨by show 2 ≤ sizeLine; decide, [.int i s.toks, u], .cons ⟨_, rfl⟩ (.cons ru .nil), _, hnew, rfl, _, rfl⟩
    · have hh : ((i + 1 : Nat) : Int) = (i : Int) + 1 := by push_cast; rfl
      rw [hh]
      exact he
    · exact hi.extBut hs.extBut (Ne.symm hne)
    · rw [upd_ne (fun z => ?_)]
      · exact (hf b hb).1
      · have hlt : b < s.heap.objs.size := by
          obtain ⟨o, q, _⟩ := id h2
          rcases List.mem_cons.mp hb with rfl | hb
          · exact hel
          · have e' : b = it := by simpa using hb
            subst e'
            exact Heap.lt_size q
        exact absurd z (Nat.ne_of_lt hlt)
  done := by
    intro X hP hw hK hc i pins s σ H E I hf st hg
    subst hP hw hK
    obtain ⟨xs, hq, hx⟩ := hg
    obtain ⟨⟨old, h1⟩, h2⟩ := st
    obtain ⟨its, ol, n, rv, hl, hlc, hld, hz⟩ := rd_list I hq
    have hlen := rv.length
    exact wpAny_pyNext_enum_end (items := its.toArray) (I.ok.hd hc) h1 h2 ⟨_, hl, hlc, n, hld⟩ (by simp; omega) fun h' eb => ⟨rfl, turnedL (t' := s.toks) (ch := [e, it]) I (fun b o hb q => eb b o (fun z => hb (by simp [z])) q) hf⟩
  self := fun _ _ _ _ _ st h => wpAny_pyIter_enum st.1.choose_spec h

section
variable {X : Cx} {L : Kl} {ρ : List Sl} {e a b c o tg : Expr} {es rs : List Expr} {d da db : D} {ds : List D} {pos p pos' : Pos} {E : En} {rest body els : List Stmt} {t u : Bool}
theorem boot_enum : bootBuiltins "enumerate" = some (.type "enumerate") := by decide +kernel
def iEnum (K : PySem.W.Frag) (tl : TE) : TI := fun σ H R => tl σ H fun x H1 => ∃ a, x = .ref a ∧ (∃ xs, SqL K H1 a xs) ∧ R (Ite K a) H1
theorem pi_enum {elts : List Expr} {x1 : Nat} {pt p2 : Pos} {tl : TE} (hl : PE X a tl) (hg : Gl X "enumerate") (hm : X.mg "enumerate" = none) (hs : starEach [a] X.env = [(false, eval a X.env)] := by rfl) (hpl : (backTo p2 (starEach [] X.env)).any (·.1) = false := by rfl) :
    PI X (.Tuple elts x1 pt) (.Call (.Name "enumerate" p) [a] [] p2) (iEnum X.K tl) := by
  intro pins s σ H R I h
  refine wpAny_Call_Name_kw (ld_blt I hg hm boot_enum ?_ (by decide) (by decide))
  refine PyProof.Rows.callWith_type1 (thn (pa_cons hl pa_nil hs p2 pins s σ H (fun vs H1 => match vs with | [x] => (∃ a, x = .ref a ∧ (∃ xs, SqL X.K H1 a xs) ∧ R (Ite X.K a) H1) | _ => False) I h) fun us s1 ⟨vs, H1, I1, r1, q1⟩ => ?_) hs hpl
  match vs, q1 with
  | [x], q1 =>
    obtain ⟨q, rfl, ⟨xs, hq⟩, k⟩ := q1
    obtain ⟨u, rfl, rx⟩ := vals1 r1
    cases rx
    obtain ⟨its, ol, n, rv, hl, hlc, hld, hz⟩ := rd_list I1 hq
    refine call_enumerate_list (items := its.toArray) ⟨_, hl, hlc, n, hld⟩ fun h' he hi hsz kp => ?_
    refine wpAny_pyIter_enum he ?_
    refine ⟨s1.heap.objs.size + 1, [s1.heap.objs.size + 1, s1.heap.objs.size], _, _, H1, rfl, I1.kept (t' := s1.toks) kp, turn_enum q _ _ (Nat.succ_ne_self _), ⟨⟨_, he⟩, hi⟩, fun b hb => ?_, k⟩
    rcases List.mem_cons.mp hb with rfl | hb
    · exact I1.fpOk (Nat.le_succ _) (I1.hok.fresh (Nat.le_succ _))
    · have e' : b = s1.heap.objs.size := by simpa using hb
      subst e'
      exact I1.fpOk (Nat.le_refl _) (I1.hok.fresh (Nat.le_refl _))
theorem for_enum {K : PySem.W.Frag} {a : Addr} {xs : List V} {g : TG} {tb : TS} {D : Ends} {σ : L2.St} {H : Hp} (Pv : Nat → L2.St → Hp → Prop) (h0 : Pv 0 σ H) (hl : ∀ i σ H, i ≤ xs.length → Pv i σ H → SqL K H a xs)
    (hs : ∀ i x σ H p, xs[i]? = some x → Pv i σ H → H p = none → g (.ref p) σ (upd H p (.tup [.int (i : Nat), x])) fun σ2 H2 => tb { D with nx := Pv (i + 1), ct := Pv (i + 1), bk := D.nx } σ2 H2) (hd : ∀ σ H, Pv xs.length σ H → D.nx σ H) :
    ∃ W : Nat → Nat → L2.St → Hp → Prop, (∃ m, W 0 m σ H) ∧ ∀ i m σ H, W i m σ H →
      ((Ite K a).stop i H ∧ D.nx σ H) ∨ ((Ite K a).go i H ∧ ∃ N : L2.St → Hp → Prop, (∀ σ' H', N σ' H' → ∃ m', m' < m ∧ W (i + 1) m' σ' H') ∧ ∀ x H', (Ite K a).yld i H x H' → g x σ H' fun σ2 H2 => tb { D with nx := N, ct := N, bk := D.nx } σ2 H2) := by
  refine ⟨fun i m σ H => m = xs.length - i ∧ i ≤ xs.length ∧ Pv i σ H, ⟨xs.length, by simp, Nat.zero_le _, h0⟩, ?_⟩
  rintro i m σ H ⟨rfl, hi, p⟩
  have q := hl i σ H hi p
  by_cases hlt : i < xs.length
  · refine .inr ⟨⟨xs, xs[i], q, by simp [hlt]⟩, Pv (i + 1), fun σ' H' p' => ⟨xs.length - (i + 1), by omega, rfl, hlt, p'⟩, fun x H' y => ?_⟩
    obtain ⟨p', z, rfl, hp', rfl, hz⟩ := y
    exact hs i z σ H p' (hz xs q) p hp'
  · have e : i = xs.length := by omega
    subst e
    exact .inl ⟨⟨xs, q, Nat.le_refl _⟩, hd σ H p⟩
/-- for x, y in enumerate(a) -/
theorem sv_for_enum {x : Str} {elts : List Expr} {x1 : Nat} {pt p2 : Pos} {f : D → List Sl → List Sl} {ok : D → Prop} (Iv : Nat → List Sl → Prop) (ha : EV X L ρ a (.lst ds)) (hm : X.mg x = none) (hx : x = "enumerate") (hg : GV X L (.Tuple elts x1 pt) f ok) (hok : ∀ (i : Nat) (d : D), d ∈ ds → ok (.tup [.int i, d])) (h0 : Iv 0 ρ)
    (hs : ∀ (i : Nat) (d : D) (ρ' : List Sl), ds[i]? = some d → Iv i ρ' → SV X L (f (.tup [.int i, d]) ρ') body { nx := Iv (i + 1), ct := Iv (i + 1), bk := fun ρ'' => SV X L ρ'' rest E, rt := E.rt, rl := E.rl })
    (hd : ∀ ρ', Iv ds.length ρ' → SV X L ρ' rest E) (hgl : Gl X "enumerate" := by rfl) (hst : starEach [a] X.env = [(false, eval a X.env)] := by rfl) (hpl : (backTo p2 (starEach [] X.env)).any (·.1) = false := by rfl) (hp : PassesOwn (model X.prog X.w) X.A X.env X.xe := by exact PassesOwn.never) (hc : X.calm = true := by rfl)
    (hfs : ∀ x, foldedSetIterable (.Call (.Name "enumerate" p) [a] [] p2) X.env x = pure x := by intro _; rfl) : SV X L ρ (.For (.Tuple elts x1 pt) (.Call (.Name x p) [a] [] p2) body [] pos :: rest) E := .mk fun σ G0 H0 G H st => by
  subst hx
  obtain ⟨g, pg, qg⟩ := hg
  refine wSs_cons (wS_of (ps_for hp hc (pi_enum pe_w hgl hm hst hpl) pg pss_w hfs) (ha.run σ G0 H0 G H st _ fun v G1 H1 e1 r1 => ?_))
  have st1 := st.step e1
  cases r1 with
  | @lst q vs _ hq hr =>
    refine ⟨q, rfl, ⟨vs, Same.seq e1.gh hq⟩, for_enum (K := X.K) (a := q) (xs := vs) (fun i σ' H' => ∃ ρ' G', StOk X.K L G1 H0 ρ' σ' G' H' ∧ Iv i ρ') ⟨ρ, G1, st1.rebase, h0⟩ (fun i σ' H' _ ⟨ρ', G', s', _⟩ => Same.seq (s'.ext.gg.trans s'.ext.gh) hq) ?_ ?_⟩
    · rintro i x σ' H' p' hx ⟨ρ', G', s', iv⟩ hp'
      obtain ⟨d, hd1, hd2⟩ := hr.get' hx
      have ex : Ext G' H' (upd G' p' (.tup [.int (i : Nat), x])) (upd H' p' (.tup [.int (i : Nat), x])) := .alloc s'.same hp' _
      have s'' := s'.step ex
      refine qg (.tup [.int i, d]) ρ' σ' G1 H0 _ _ (.ref p') (hok i d (List.mem_of_getElem? hd1)) s'' (.tup (SqT.of upd_same) (.cons (.int _) (.cons ((hd2.mono s'.ext.gg).mono ex.gg) .nil))) _ fun σ2 s2 => ?_
      have hh := (hs i d ρ' hd1 iv).run σ2 G1 H0 _ _ s2
      refine wSs_mono ?_ hh
      refine ⟨fun _ _ q => q, ?_, ?_, fun _ _ q => q⟩
      · rintro v' H'' q
        exact retPre st1.ext q
      · rintro σ3 H3 ⟨ρ3, G3, s3, q3⟩
        exact q3.run σ3 G0 H0 G3 H3 (s3.unbase st1.ext)
    · rintro σ' H' ⟨ρ', G', s', iv⟩
      rw [hr.length] at iv
      exact (hd ρ' iv).run σ' G0 H0 G' H' (s'.unbase st1.ext)
end
end Z

namespace Z
open PySem PySem.Spec PyProof.Rows L2

/-! ### [elt for x in iter if c] -/
/-- the context of a comprehension's block -/
def compCx (X : Cx) (N : List Str) (scope : Scope) (cl : List (Str × Addr)) (C : Addr) (s : Shared) (H : Hp) (fp : List Addr) : Cx :=
  { X with N := N, s₀ := s, H₀ := H, env := compEnvC scope cl C X.env, outer := X.stack, ex := fp, fn := fun _ => false, xe := fun _ _ => False }

section
variable {X : Cx} {pins : List (Addr × Obj)} {σ : L2.St} {H : Hp} {s : Shared} {N : List Str} {scope : Scope} {cl : List (Str × Addr)} {C : Addr} {fp : List Addr}
theorem compOk (I : Inv X pins σ H s) (hf : ∀ b ∈ fp, FpOk X pins H b) (hlt : ∀ b ∈ fp, b < s.heap.objs.size) (hC : s.heap.objs.size ≤ C) (hk : scope.kind = .function) (hcl : ∀ x c, cl.lookup x = some c → X.env.cells.lookup x = some c)
    (hhas : ∀ x, ((relabel scope X.env).names.lookup x = some .cell ∨ (relabel scope X.env).names.lookup x = some .free) → ∃ c, cl.lookup x = some c) : (compCx X N scope cl C s H fp).Ok where
  mod := I.ok.mod
  kind := hk
  glob := I.ok.glob
  blt := I.ok.blt
  above := hC
  inj := fun x y c h1 h2 => I.ok.inj x y c (hcl _ _ h1) (hcl _ _ h2)
  has := hhas
  cab := fun x c h => by cases h
  hd := I.ok.hd
  frames := I.ok.frames
  stk := .inl rfl
  exf := fun b hb => ⟨Nat.ne_of_lt (Nat.lt_of_lt_of_le (hlt b hb) hC), fun x c h => (hf b hb).2.2.2.2.1 x c (hcl _ _ h)⟩
  bs := I.bs
  bsz := Nat.le_trans I.ok.bsz I.sz
  noex := fun b o e hb => by
    rcases (hf b hb).2.2.2.1 with z | z
    · exact I.ok.noex b o e z
    · exact absurd (Nat.lt_of_lt_of_le (Heap.lt_size e) (Nat.le_trans I.ok.bsz z)) (Nat.lt_irrefl _)
  exfs := fun b hb hm => by
    rcases List.mem_cons.mp (I.stkSub b hm) with z | z
    · exact (hf b hb).2.1 z
    · exact (hf b hb).2.2.1 z
  funs := I.stack
  frf := I.stkFree
/-- back in the def -/
theorem comp_back {σ' : L2.St} {H' : Hp} {s' : Shared} {h'' : Heap} (I : Inv X pins σ H s) (K : Inv (compCx X N scope cl C s H fp) pins σ' H' s') (hC : s.heap.objs.size ≤ C) (hf : ∀ b ∈ fp, FpOk X pins H b) (sb : Heap.SameBut C s'.heap h'') : Inv X pins σ H' { s' with heap := h'' } := by
  have ub : Un (frs X.stack) fp H H' s.heap s'.heap := K.base
  have old : ∀ b o, s.heap.get? b = some o → b ≠ C := fun b o e => Nat.ne_of_lt (Nat.lt_of_lt_of_le (Heap.lt_size e) hC)
  have hCn : H' C = none := K.free
  refine I.call' (s' := { s' with heap := h'' }) (ch := fp) K.os ⟨fun b o e n h1 h2 => sb.extBut b o (old b o e) (ub.keep b o e n h1 h2), fun b o e n h1 h2 => ?_, ub.free, fun b o e h1 => ?_, ub.tups, ub.frzs, ub.tbls⟩ (fun b u e => ?_) K.bare (fun b hb => ?_)
  · obtain ⟨sl, q⟩ := ub.slot b o e n h1 h2
    exact ⟨sl, sb.extBut b _ (old b o e) q⟩
  · obtain ⟨o', q⟩ := ub.there b o e h1
    exact ⟨o', sb.extBut b _ (old b o e) q⟩
  · refine (K.hok b u e).stay (fun c v hc q => sb.extBut c v ?_ q) (fun c q => q) fun c xs q => q
    rcases hc with z | z
    · rw [z]; exact ne_of_none e hCn
    · exact ne_of_none z hCn
  · obtain ⟨f0, f1, f2, f3, f4, f5⟩ := hf b hb
    exact ⟨f3, f1, f4, f5⟩
end

theorem StOk.poke {K : PySem.W.Frag} {L : Kl} {G0 H0 G H : Hp} {ρ : List Sl} {σ : L2.St} {q : Addr} {o : HO} (st : StOk K L G0 H0 ρ σ G H) (hG : G q = none) (hH : H0 q = none) (hno : ∀ (i : Nat) r, ρ[i]? = some r → ¬ isOwn r) : StOk K L G0 H0 ρ σ G (upd H q o) where
  ext := ⟨st.ext.gg, fun b u z => by rw [upd_ne (ne_of_none z hG)]; exact st.ext.gh _ _ z, fun b u z => by rw [upd_ne (ne_of_none z hH)]; exact st.ext.hh _ _ z, st.ext.nw⟩
  sl := fun i r hr => (st.sl i r hr).stay (.refl _) fun p u ho _ _ => absurd ho (hno i r hr)
  len := st.len
  dist := fun i j p r1 r2 h1 h2 o1 => absurd o1 (hno i r1 h1)

section
variable {pr : Program} {wd : World} {B : Around} {Z0 : Result → Shared → Prop} {u0 : Shared}
/-- an error that leaves a comprehension's block -/
def outOf (pr : Program) (wd : World) (B : Around) (env : Env) (Z0 : Result → Shared → Prop) : Value → Shared → Prop := notedBy (model pr wd) B env fun x u => Z0 (.error x) u
/-- the tests in a row -/
def passing (ifs : List Expr) (env : Env) : Sem Bool :=
  forIn ifs true fun t k => if k = true then do
    let good ← isTrue t env (eval t env)
    pure (ForInStep.yield good) else pure (ForInStep.yield k)
/-- the loop of a comprehension by a word that falls; the target may be any -/
theorem compLoop_own {body tgt src : Expr} {ifs : List Expr} {scope : Scope} {pos : Pos} {itr ls : Value} {env : Env} (J : Nat → Shared → Prop)
    (one : ∀ m u, J m u → wpAny (model pr wd) B (pyNext itr) (fun y u1 => match y with
      | none => Z0 (.ok .next) u1
      | some z => wpAny (model pr wd) B (letOwnedTupleGo tgt itr z) (fun _ u2 => wpAny (model pr wd) B (assign tgt env z) (fun _ u3 => wpAny (model pr wd) B (passing ifs env) (fun good u4 =>
          if good = true then wpAny (model pr wd) B (eval body env) (fun y' u5 => wpAny (model pr wd) B (call (.builtin "list.append") [ls, y']) (fun _ u6 => ∃ m', m' < m ∧ J m' u6) (outOf pr wd B env Z0) u5) (outOf pr wd B env Z0) u4
          else ∃ m', m' < m ∧ J m' u4) (outOf pr wd B env Z0) u3) (outOf pr wd B env Z0) u2) (outOf pr wd B env Z0) u1) (outOf pr wd B env Z0) u)
    (m : Nat) (h0 : J m u0) : codeAny (model pr wd) B (.compLoop (.ListComp body [⟨tgt, src, ifs, 0⟩] scope pos) 0 itr ls env) Z0 u0 := by
  refine codeAny_loop rfl J (fun m u hJ => ?_) m h0
  show wpAny _ B ((compTurn (.ListComp body [⟨tgt, src, ifs, 0⟩] scope pos) 0 itr ls env).onRaise (fun x => do noteFrame x env; theTreesLotGoes x)) _ _ u
  refine wpAny_noted ?_
  rw [compTurn_list]
  refine wpAny_bind (wpAny_standAt (wpAny_bind (wpAny_mono (one m u hJ) (fun y u1 q1 => ?_) fun _ _ q => q)))
  cases y with
  | none => exact wpAny_pure q1
  | some z =>
    refine wpAny_bind (wpAny_mono q1 (fun _ u2 q2 => ?_) fun _ _ q => q)
    refine wpAny_bind (wpAny_mono q2 (fun _ u3 q3 => wpAny_bind (wpAny_mono q3 (fun good u4 q4 => ?_) fun _ _ q => q)) fun _ _ q => q)
    cases good with
    | false => exact wpAny_pure (And.intro rfl q4)
    | true => exact wpAny_bind (wpAny_bind (wpAny_mono q4 (fun y' u5 q5 => wpAny_bind (wpAny_mono q5 (fun _ u6 q6 => wpAny_pure (wpAny_pure (And.intro rfl q6))) fun _ _ q => q)) fun _ _ q => q))
end

/-- the tests of a comprehension -/
structure Tests (X : Cx) (L : Kl) (ρ : List Sl) (ifs : List Expr) (b : Bool) : Prop where
  run : ∀ (σ : L2.St) (G0 H0 G H : Hp), StOk X.K L G0 H0 ρ σ G H → ∀ Q : Bool → Hp → Prop, (∀ G' H', Ext G H G' H' → Q b H') → ∀ (pins : List (Addr × Obj)) (s : Shared), Inv X pins σ H s → wpAny (model X.prog X.w) X.A (passing ifs X.env) (TP X pins σ Q) X.xe s
theorem tests_nil {X : Cx} {L : Kl} {ρ : List Sl} : Tests X L ρ [] true := .mk fun σ G0 H0 G H st Q k pins s I => wpAny_tests_nil ⟨H, I, k G H (.refl st.same)⟩
theorem tests_one {X : Cx} {L : Kl} {ρ : List Sl} {c : Expr} {b : Bool} (h : TV X L ρ c b) : Tests X L ρ [c] b := .mk fun σ G0 H0 G H st Q k pins s I => wpAny_tests_one (h.run σ G0 H0 G H st Q k pins s I)

section
variable {X : Cx} {L : Kl} {ρ : List Sl} {e a b c o tg : Expr} {es rs : List Expr} {d da db : D} {ds : List D} {pos p pos' : Pos}
/-- the expression makes a new list of these data, and nothing else happens -/
structure EL (X : Cx) (L : Kl) (ρ : List Sl) (e : Expr) (ds : List D) : Prop where
  run : ∀ (σ : L2.St) (G0 H0 G H : Hp), StOk X.K L G0 H0 ρ σ G H → ∀ Q : VK, (∀ p vs G' H', Ext G H G' H' → H p = none → G' p = none → H' p = some (.lst vs) → RpA X.K L G' vs ds → Q (.ref p) H') → wE X e σ H Q
theorem EL.ev (h : EL X L ρ e ds) : EV X L ρ e (.lst ds) := .mk fun σ G0 H0 G H st Q k => h.run σ G0 H0 G H st Q fun p vs G' H' x hp hg hh hr => by
  refine k _ (upd G' p (.lst vs)) H' ⟨x.gg.trans (same_new hg _), fun b u q => ?_, x.hh, fun b hb => ?_⟩ (.lst (SqL.of upd_same) (hr.mono (same_new hg _)))
  · by_cases z : b = p
    · subst z
      rw [upd_same] at q
      rw [hh]
      exact q
    · rw [upd_ne z] at q
      exact x.gh _ _ q
  · by_cases z : b = p
    · subst z
      exact .inr hp
    · rw [upd_ne z] at hb
      exact x.nw b hb
/-- the slots of a comprehension's block, ahead of a turn -/
abbrev rhoC (ρ : List Sl) (ts : List Str) (js : List Nat) : List Sl := (ts.map fun _ => Sl.no) ++ js.map fun j => ρ.getD j .no
/-- what an iterable yields, turn by turn -/
abbrev SrcP (X : Cx) (L : Kl) (G H : Hp) (ds : List D) : It → Hp → Prop := fun J H1 => ∃ G1, Ext G H G1 H1 ∧ (∀ H' i, Same G1 H' → i < ds.length → J.go i H') ∧
  (∀ G' H' H'' i y, i < ds.length → Same G1 G' → Same G' H' → J.yld i H' y H'' → ∃ G'' d, Ext G' H' G'' H'' ∧ ds[i]? = some d ∧ Rp X.K L G'' y d) ∧ (∀ H' i, Same G1 H' → ds.length ≤ i → J.stop i H')
structure Src (X : Cx) (L : Kl) (ρ : List Sl) (tg iter : Expr) (ds : List D) : Prop where
  run : ∀ (σ : L2.St) (G0 H0 G H : Hp), StOk X.K L G0 H0 ρ σ G H → ∀ (pins : List (Addr × Obj)) (s : Shared), Inv X pins σ H s →
    wpAny (model X.prog X.w) X.A (eval iter X.env) (fun v s1 => wpAny (model X.prog X.w) X.A (pyIter v) (PIE X pins σ tg (SrcP X L G H ds)) X.xe s1) X.xe s
theorem src_seq {iter : Expr} (hit : EV X L ρ iter da) (hsq : sq da = some ds) : Src X L ρ tg iter ds := .mk fun σ G0 H0 G H st pins s I => by
  cases da with
  | tup es =>
    cases hsq
    refine pi_tup (pe_w (e := iter)) pins s σ H _ I (hit.run σ G0 H0 G H st _ fun v G1 H1 e1 r1 => ?_)
    cases r1 with
    | @tup q vs _ hq hr =>
      refine ⟨q, rfl, ⟨vs, seqT e1.gh hq⟩, G1, e1, fun H' i sm hi => ⟨vs, vs[i]'(by rw [hr.length]; exact hi), seqT sm hq, by simp⟩, fun G' H' H'' i y _ sm sm' hy => ?_, fun H' i sm hi => ⟨vs, seqT sm hq, by rw [hr.length]; exact hi⟩⟩
      obtain ⟨d, h1, h2⟩ := hr.get' (hy.2 vs (seqT sm' (seqT sm hq)))
      rw [hy.1]
      exact ⟨G', d, .refl sm', h1, h2.mono sm⟩
  | lst es =>
    cases hsq
    refine pi_list (pe_w (e := iter)) pins s σ H _ I (hit.run σ G0 H0 G H st _ fun v G1 H1 e1 r1 => ?_)
    cases r1 with
    | @lst q vs _ hq hr =>
      refine ⟨q, rfl, ⟨vs, Same.seq e1.gh hq⟩, G1, e1, fun H' i sm hi => ⟨vs, vs[i]'(by rw [hr.length]; exact hi), Same.seq sm hq, by simp⟩, fun G' H' H'' i y _ sm sm' hy => ?_, fun H' i sm hi => ⟨vs, Same.seq sm hq, by rw [hr.length]; exact hi⟩⟩
      obtain ⟨d, h1, h2⟩ := hr.get' (hy.2 vs (Same.seq sm' (Same.seq sm hq)))
      rw [hy.1]
      exact ⟨G', d, .refl sm', h1, h2.mono sm⟩
  | _ => cases hsq
theorem comp_core {iter elt : Expr} {ifs : List Expr} {scope : Scope} {cl : List (Str × Addr)} {ts ys : List Str} {js : List Nat} {fs : D → List Sl → List Sl} {ok : D → Prop} (f : D → D) (pz : D → Bool) (src : Src X L ρ tg iter ds) (hlen : ds.length < sizeLine) (hok : ∀ d ∈ ds, ok d)
    (hb : ∀ (C : Addr) (s : Shared) (H : Hp) (fp : List Addr), GV (compCx X (ts ++ ys) scope cl C s H fp) L tg fs ok ∧ ∀ d : D, d ∈ ds → Tests (compCx X (ts ++ ys) scope cl C s H fp) L (fs d (rhoC ρ ts js)) ifs (pz d) ∧
      (pz d = true → EV (compCx X (ts ++ ys) scope cl C s H fp) L (fs d (rhoC ρ ts js)) elt (f d)))
    (hfg : ∀ d ∈ ds, (fs d (rhoC ρ ts js)).length = (rhoC ρ ts js).length ∧ (∀ (i : Nat) (r : Sl), (rhoC ρ ts js)[i]? = some r → r = .no ∨ (fs d (rhoC ρ ts js))[i]? = some r) ∧ ∀ (i : Nat) r, (fs d (rhoC ρ ts js))[i]? = some r → ¬ isOwn r)
    (hclos : closureFor scope X.env = pure cl) (hcell : ∀ y ∈ scope.names, y.2 ≠ .cell) (hkind : scope.kind = .function) (hnames : ∀ y ∈ scope.names, y.2 = .local → scope.names.lookup y.1 = some .local)
    (hcl : ∀ x c, cl.lookup x = some c → X.env.cells.lookup x = some c) (hhas : ∀ x, ((relabel scope X.env).names.lookup x = some .cell ∨ (relabel scope X.env).names.lookup x = some .free) → ∃ c, cl.lookup x = some c)
    (hjs : js.length = ys.length) (hown : ∀ j ∈ js, ∀ r, ρ[j]? = some r → ¬ isOwn r)
    (hcap : ∀ (m j : Nat) (y : Str), js[m]? = some j → ys[m]? = some y → X.N[j]? = some y ∧ Vis X.env.scope y ∧ (X.env.kindOf y ≠ some .local) ∧ ((relabel scope X.env).names.lookup y = some .cell ∨ (relabel scope X.env).names.lookup y = some .free))
    (hcalm : X.calm = true := by rfl) (hs : ∀ x, foldedSetIterable iter X.env x = pure x := by intro _; rfl)
    {use : Option (Value → Sem Unit)} {QQ : Value → Shared → Prop} {pI : Pos} {σ : L2.St} {G0 H0 G H : Hp} {pins : List (Addr × Obj)} {s : Shared} (st : StOk X.K L G0 H0 ρ σ G H) (I : Inv X pins σ H s)
    (fin : ∀ (s3 : Shared) (H' G' : Hp) (p C : Addr) (ws : List V), (∃ m, s3.heap.Ns C m) → (∀ h'', Heap.SameBut C s3.heap h'' → Inv X pins σ H' { s3 with heap := h'' }) → FpOk X pins H' C → Ext G H G' H' → H p = none → G' p = none → H' p = some (.lst ws) → RpA X.K L G' ws ((ds.filter pz).map f) →
      compPost (model X.prog X.w) X.A X.xe use QQ (.ref p) C (.ok .next) s3) :
    wpAny (model X.prog X.w) X.A (comprehension (.ListComp elt [⟨tg, iter, ifs, 0⟩] scope pos) scope X.env pI (newList []) false (eval iter X.env) use) QQ X.xe s := by
  refine wpAny_comprehension_free rfl hs hclos hkind hnames ?_
  have hPI := src.run σ G0 H0 G H st pins s I
  refine thn hPI fun v s1 h1 => thn h1 fun itv s2 h2 => ?_
  obtain ⟨it, fp, tn, J, H2, e2, I2, T, tn0, hf, G1, ext1, hgo, hyl, hst⟩ := h2
  subst e2
  have st1 := st.step ext1
  have hlt : ∀ b ∈ fp, b < s2.heap.objs.size := fun b hb => by
    obtain ⟨o, q, _⟩ := T.obj 0 _ tn0 b hb
    exact Heap.lt_size q
  refine wpAny_newObj_type (wpAny_newFunctionEnv hcell (fun y hy => by simp at hy) (fun h₁ hns₁ hsb₁ => ?_) hkind)
  dsimp only at hns₁ hsb₁ ⊢
  generalize hH2 : s2.heap.push { cls := .type "list", dict := none, data := .seq ([] : List Value).toArray } = Hq at hns₁ hsb₁ ⊢
  have hCs : Hq.objs.size = s2.heap.objs.size + 1 := by rw [← hH2, Heap.size_push]
  have old0 : ∀ b o, s2.heap.get? b = some o → Hq.get? b = some o := fun b o e => by rw [← hH2]; exact Heap.get?_push_of_some _ e
  have hacc0 : Hq.get? s2.heap.objs.size = some { cls := .type "list", dict := none, data := .seq ([] : List Value).toArray } := by rw [← hH2]; exact Heap.get?_push_size _ rfl
  clear hH2
  have hC : s2.heap.objs.size ≤ Hq.objs.size := by rw [hCs]; exact Nat.le_succ _
  have hDC : s2.heap.objs.size ≠ Hq.objs.size := by rw [hCs]; exact Nat.ne_of_lt (Nat.lt_succ_self _)
  have below : ∀ b, b < s2.heap.objs.size → b ≠ Hq.objs.size := fun b hb => Nat.ne_of_lt (Nat.lt_of_lt_of_le hb hC)
  have old : ∀ b o, s2.heap.get? b = some o → h₁.get? b = some o := fun b o e => hsb₁.extBut b o (below b (Heap.lt_size e)) (Heap.get?_push_of_some _ (old0 b o e))
  have hacc : h₁.get? s2.heap.objs.size = some { cls := .type "list", dict := none, data := .seq ([] : List Value).toArray } := hsb₁.extBut _ _ hDC (Heap.get?_push_of_some _ hacc0)
  have hfreshD : H2 s2.heap.objs.size = none := I2.hok.fresh (Nat.le_refl _)
  have hfreshC : H2 Hq.objs.size = none := I2.hok.fresh hC
  obtain ⟨hGV, hel⟩ := hb Hq.objs.size s2 H2 fp
  have hOk : (compCx X (ts ++ ys) scope cl Hq.objs.size s2 H2 fp).Ok := compOk I2 hf hlt hC hkind hcl hhas
  -- the block's start
  have I4 : Inv (compCx X (ts ++ ys) scope cl Hq.objs.size s2 H2 fp) pins ((ts.map fun _ => none) ++ js.map fun j => (σ[j]?).join) (upd H2 s2.heap.objs.size (.lst [])) { s2 with heap := h₁, toks := s2.toks + ([] : List (Str × Value)).length } := by
    refine ⟨hOk, rfl, I2.bare, Un.laid old (Nat.le_refl _) hfreshD, ⟨_, hns₁, fun i z v h1 h2 h3 => ?_⟩, fun z c h1 => ?_, ?_, fun z c h1 => ?_, fun q hq => ?_, ?_, ?_⟩
    · by_cases hi : i < ts.length
      · rw [List.getElem?_append_left (by rw [List.length_map]; exact hi), List.getElem?_map] at h2
        cases q : ts[i]? with
        | none => rw [q] at h2; cases h2
        | some _ => rw [q] at h2; cases h2
      · have hge : ts.length ≤ i := Nat.le_of_not_lt hi
        have h1' : ys[i - ts.length]? = some z := by
          have := h1
          change (ts ++ ys)[i]? = some z at this
          rw [List.getElem?_append_right hge] at this
          exact this
        rw [List.getElem?_append_right (by rw [List.length_map]; exact hge), List.length_map, List.getElem?_map] at h2
        cases hj : js[i - ts.length]? with
        | none => rw [hj] at h2; cases h2
        | some j =>
          rw [hj] at h2
          have h4 := join_some (Option.some.inj h2)
          obtain ⟨c1, c2, c3, c4⟩ := hcap _ j z hj h1'
          obtain ⟨m0, hm0, hl0⟩ := I2.loc
          obtain ⟨u, ru, lk⟩ := hl0 j z v c1 h4 c2
          refine ⟨u, ru, .inr ⟨c4, ?_⟩⟩
          rcases lk with ⟨l1, _⟩ | ⟨_, c, l2, l3⟩
          · exact absurd l1 c3
          · obtain ⟨c', q'⟩ := hhas z c4
            have q2 := hcl z c' q'
            rw [l2] at q2
            cases q2
            obtain ⟨oc, ho, hd⟩ := l3
            exact ⟨c, q', oc, old _ _ ho, hd⟩
    · obtain ⟨v, oc, ho, hd⟩ := I2.cell z c (hcl z c h1)
      exact ⟨v, oc, old _ _ ho, hd⟩
    · show upd H2 s2.heap.objs.size (.lst []) Hq.objs.size = none
      rw [upd_ne hDC.symm]
      exact hfreshC
    · show upd H2 s2.heap.objs.size (.lst []) c = none
      obtain ⟨v, oc, ho, hd⟩ := I2.cell z c (hcl z c h1)
      rw [upd_ne (Nat.ne_of_lt (Heap.lt_size ho))]
      exact I2.freeC z c (hcl z c h1)
    · obtain ⟨p1, p2, p3, p4, p5⟩ := I2.pin q hq
      refine ⟨old _ _ p1, ?_, below _ (Heap.lt_size p1), fun hm => ?_, p5⟩
      · rw [upd_ne (Nat.ne_of_lt (Heap.lt_size p1))]
        exact p2
      · rcases List.mem_cons.mp (I2.stkSub _ hm) with z | z
        · exact p3 z
        · exact p4 z
    · exact I2.hok.laid old (Nat.le_refl _) ⟨Nat.zero_le _, [], 0, .nil, hacc⟩
    · show (List.map (fun _ => none) ts ++ List.map (fun j => (σ[j]?).join) js).length = (ts ++ ys).length
      rw [List.length_append, List.length_append, List.length_map, List.length_map, hjs]
  have st4 : StOk X.K L G1 H2 (rhoC ρ ts js) ((ts.map fun _ => none) ++ js.map fun j => (σ[j]?).join) G1 H2 := by
    have sub : ∀ (i : Nat) (r : Sl), (rhoC ρ ts js)[i]? = some r → r = .no ∨ ∃ j ∈ js, ρ[j]? = some r ∧ ((ts.map fun _ => (none : Option V)) ++ js.map fun j => (σ[j]?).join)[i]?.join = (σ[j]?).join := fun i r hr => by
      by_cases hi : i < ts.length
      · rw [List.getElem?_append_left (by rw [List.length_map]; exact hi), List.getElem?_map] at hr
        cases q : ts[i]? with
        | none => rw [q] at hr; cases hr
        | some _ => rw [q] at hr; cases hr; exact .inl rfl
      · have hge : ts.length ≤ i := Nat.le_of_not_lt hi
        rw [List.getElem?_append_right (by rw [List.length_map]; exact hge), List.length_map, List.getElem?_map] at hr ⊢
        cases hj : js[i - ts.length]? with
        | none => rw [hj] at hr; cases hr
        | some j =>
          rw [hj] at hr
          have hr' : ρ.getD j .no = r := Option.some.inj hr
          rw [List.getD_eq_getElem?_getD] at hr'
          cases q : ρ[j]? with
          | none => rw [q] at hr'; exact .inl hr'.symm
          | some r' =>
            rw [q] at hr'
            have hr'' : r' = r := hr'
            subst hr''
            exact .inr ⟨j, List.mem_of_getElem? hj, q, rfl⟩
    refine ⟨.refl ext1.gh, fun i r hr => ?_, ?_, fun i j p r1 r2 h1 h2 o1 => ?_⟩
    · rcases sub i r hr with rfl | ⟨j, hj, h5, h6⟩
      · trivial
      · rw [h6]
        exact (st1.sl j r h5).any (hown j hj r h5)
    · rw [List.length_append, List.length_append, List.length_map, List.length_map, List.length_map, List.length_map]
    · rcases sub i r1 h1 with rfl | ⟨j', hj', h5, _⟩
      · exact o1.elim
      · exact absurd o1 (hown j' hj' r1 h5)
  have noown : ∀ (i : Nat) r, (rhoC ρ ts js)[i]? = some r → ¬ isOwn r := fun i r h1 o1 => by
    have hm := List.mem_of_getElem? h1
    rcases List.mem_append.mp hm with z | z
    · obtain ⟨_, _, q⟩ := List.mem_map.mp z
      rw [← q] at o1
      exact o1
    · obtain ⟨j', hj', q⟩ := List.mem_map.mp z
      rw [List.getD_eq_getElem?_getD] at q
      cases q' : ρ[j']? with
      | none =>
        rw [q'] at q
        rw [← q] at o1
        exact o1
      | some r' =>
        rw [q'] at q
        have q2 : r' = r := q
        subst q2
        exact hown j' hj' r' q' o1
  have hG1 : G1 s2.heap.objs.size = none := ext1.gh.free hfreshD
  have st5 := st4.poke (o := .lst []) hG1 hfreshD noown
  have fpo : ∀ {H' : Hp}, (∀ b ∈ fp, H' b = none) → ∀ b ∈ fp, FpOk (compCx X (ts ++ ys) scope cl Hq.objs.size s2 H2 fp) pins H' b := fun {H'} hn b hb =>
    ⟨hn b hb, (hOk.exf b hb).1, hOk.exfs b hb, .inl hb, (hOk.exf b hb).2, (hf b hb).2.2.2.2.2⟩
  have tn4 : tn 0 h₁ := T.keep 0 _ _ tn0 fun b hb o q => old b o q
  have loop : ∀ s₃ : Shared, s₃ = { s2 with heap := h₁, toks := s2.toks + ([] : List (Str × Value)).length } →
      codeAny (model X.prog X.w) X.A (.compLoop (.ListComp elt [⟨tg, iter, ifs, 0⟩] scope pos) 0 (.ref it) (.ref s2.heap.objs.size) (compEnvC scope cl Hq.objs.size X.env))
        (compPost (model X.prog X.w) X.A X.xe use QQ (.ref s2.heap.objs.size) Hq.objs.size) s₃ := by
    rintro s₃ rfl
    refine compLoop_own (fun n s' => ∃ i σ1 G' H' ws, n = ds.length + 1 - i ∧ i ≤ ds.length ∧ Inv (compCx X (ts ++ ys) scope cl Hq.objs.size s2 H2 fp) pins σ1 H' s' ∧ tn i s'.heap ∧ (∀ b ∈ fp, H' b = none) ∧
      StOk X.K L G1 H2 (rhoC ρ ts js) σ1 G' H' ∧ G' s2.heap.objs.size = none ∧ H' s2.heap.objs.size = some (.lst ws) ∧ RpA X.K L G' ws (((ds.take i).filter pz).map f) ∧ ws.length ≤ i) ?_ (ds.length + 1)
      ⟨0, _, G1, _, [], rfl, Nat.zero_le _, I4, tn4, fun b hb => by rw [upd_ne (Nat.ne_of_lt (hlt b hb))]; exact (hf b hb).1, st5, hG1, upd_same, .nil, Nat.le_refl _⟩
    rintro n s' ⟨i, σ1, G', H', ws, rfl, hi, I', tn', fr', st', hGa, hHa, hw, hwl⟩
    by_cases hlt' : i < ds.length
    · refine thn (T.item (compCx X (ts ++ ys) scope cl Hq.objs.size s2 H2 fp) rfl rfl rfl hcalm i pins s' σ1 H' _ I' (fpo fr') tn' (hgo H' i (st'.ext.gg.trans st'.ext.gh) hlt')) fun r s3 ⟨u, er, h3⟩ => ?_
      subst er
      refine thn h3 fun _ s4 ⟨y, H4, I4', ry, hy, tn4', fr4⟩ => ?_
      obtain ⟨G4, d, ex4, hd1, hd2⟩ := hyl G' H' H4 i y hlt' st'.ext.gg st'.ext.gh hy
      have hGa4 : G4 s2.heap.objs.size = none := ex4.unknown hHa hGa
      have hHa4 : H4 s2.heap.objs.size = some (.lst ws) := ex4.hh _ _ hHa
      have st4' := st'.step ex4
      have hdm : d ∈ ds := List.mem_of_getElem? hd1
      obtain ⟨g, pg, qg⟩ := hGV
      have I5 := I4'.pinned (fpo fr4) (T.obj _ _ tn4')
      refine wpAny_mono (pg _ s4 σ1 H4 y u _ I5 ry (qg d _ σ1 G1 H2 G4 H4 y (hok d hdm) st4' hd2 (fun σ2 H5 => StOk X.K L G1 H2 (fs d (rhoC ρ ts js)) σ2 G4 H5 ∧ H5 = H4) fun σ2 s2' => ⟨s2', rfl⟩)) (fun _ s5 ⟨σ2, H5, I6, st6, e5⟩ => ?_) fun _ _ z => z.elim
      subst e5
      obtain ⟨t1, t2⟩ := hel d hdm
      obtain ⟨f1, f2, f3⟩ := hfg d hdm
      refine wpAny_mono (t1.run σ2 G1 H2 G4 H5 st6 (fun b H6 => b = pz d ∧ ∃ G6, Ext G4 H5 G6 H6) (fun G6 H6 e6 => ⟨rfl, G6, e6⟩) _ s5 I6) (fun okb s6 ⟨H6, I7, eb, G6, e6⟩ => ?_) fun _ _ z => z.elim
      subst eb
      have st7 := st6.step e6
      have hGa6 : G6 s2.heap.objs.size = none := by
        cases q : G6 s2.heap.objs.size with
        | none => rfl
        | some _ =>
          rcases e6.nw _ (by rw [q]; exact Option.some_ne_none _) with z | z
          · exact absurd hGa4 z
          · rw [hHa4] at z; cases z
      have tnOf : ∀ {σ8 : L2.St} {H8 : Hp} {s8 : Shared}, Inv (compCx X (ts ++ ys) scope cl Hq.objs.size s2 H2 fp) (pins ++ pinsAt fp s4.heap) σ8 H8 s8 → tn (i + 1) s8.heap ∧ ∀ b ∈ fp, H8 b = none := fun {σ8 H8 s8} I8 =>
        ⟨T.keep _ _ _ tn4' fun b hb o q => (I8.pin (b, o) (List.mem_append_right _ (List.mem_append_right _ (mem_pinsAt hb q)))).1, fun b hb => by
          obtain ⟨o, q, _⟩ := T.obj _ _ tn4' b hb
          exact (I8.pin (b, o) (List.mem_append_right _ (List.mem_append_right _ (mem_pinsAt hb q)))).2.1⟩
      have tk : (ds.take (i + 1)).filter pz = (ds.take i).filter pz ++ (if pz d then [d] else []) := take_succ_filter pz ds i d hd1
      cases hp : pz d with
      | true =>
        rw [if_pos rfl]
        refine wpAny_mono ((t2 hp).run σ2 G1 H2 G6 H6 st7 (fun v H7 => ∃ G7, Ext G6 H6 G7 H7 ∧ Rp X.K L G7 v (f d)) (fun v G7 H7 e7 r7 => ⟨G7, e7, r7⟩) _ s6 I7) (fun v7 s7 ⟨y7, H7, I8, rv7, G7, e7, r7⟩ => ?_) fun _ _ z => z.elim
        have st8 := st7.step e7
        have hGa7 : G7 s2.heap.objs.size = none := by
          cases q : G7 s2.heap.objs.size with
          | none => rfl
          | some _ =>
            rcases e7.nw _ (by rw [q]; exact Option.some_ne_none _) with z | z
            · exact absurd hGa6 z
            · rw [e6.hh _ _ hHa4] at z; cases z
        have hHa7 : H7 s2.heap.objs.size = some (.lst ws) := e7.hh _ _ (e6.hh _ _ hHa4)
        refine wpAny_mono (mt_append (X := compCx X (ts ++ ys) scope cl Hq.objs.size s2 H2 fp) _ s7 σ2 H7 (.ref s2.heap.objs.size) [y7] (.ref s2.heap.objs.size) [v7] (fun _ H8 => H8 = upd H7 s2.heap.objs.size (.lst (ws ++ [y7]))) I8 rfl (.cons rv7 .nil) ⟨_, ws, y7, rfl, rfl, hHa7, by omega, rfl⟩) (fun _ s8 ⟨_, H8, I9, _, e8⟩ => ?_) fun _ _ z => z.elim
        subst e8
        obtain ⟨tn9, fr9⟩ := tnOf I9
        refine ⟨ds.length + 1 - (i + 1), by omega, i + 1, σ2, G7, _, ws ++ [y7], rfl, hlt', I9.unpinned, tn9, fr9, (st8.poke hGa7 hfreshD f3).forget f1.symm f2, hGa7, upd_same, ?_, ?_⟩
        · rw [tk, hp, if_pos rfl, List.map_append]
          exact (((hw.mono ex4.gg).mono e6.gg).mono e7.gg).append (.cons r7 .nil)
        · rw [List.length_append]
          exact Nat.succ_le_succ hwl
      | false =>
        rw [if_neg (by decide)]
        obtain ⟨tn9, fr9⟩ := tnOf I7
        refine ⟨ds.length + 1 - (i + 1), by omega, i + 1, σ2, G6, H6, ws, rfl, hlt', I7.unpinned, tn9, fr9, st7.forget f1.symm f2, hGa6, e6.hh _ _ hHa4, ?_, Nat.le_succ_of_le hwl⟩
        rw [tk, hp, if_neg (by decide), List.append_nil]
        exact (hw.mono ex4.gg).mono e6.gg
    · have ei : i = ds.length := Nat.le_antisymm hi (Nat.le_of_not_lt hlt')
      refine thn (T.done (compCx X (ts ++ ys) scope cl Hq.objs.size s2 H2 fp) rfl rfl rfl hcalm i pins s' σ1 H' _ I' (fpo fr') tn' (hst H' i (st'.ext.gg.trans st'.ext.gh) (Nat.le_of_not_lt hlt'))) fun r s3 ⟨er, I3⟩ => ?_
      subst er
      obtain ⟨m, hm, _⟩ := I3.loc
      have hds : ds.take i = ds := by rw [ei]; exact List.take_length
      rw [hds] at hw
      exact fin s3 H' G' _ Hq.objs.size ws ⟨m, hm⟩ (fun h'' sb => comp_back I2 I3 hC hf sb) (I2.fpOk hC I3.free) (ext1.trans st'.ext) (ext1.hh.free hfreshD) hGa hHa hw
  exact codeAny_compStart_list (loop _ rfl) (T.self _ 0 _ _ _ tn4 (loop _ rfl))
theorem el_compS {iter elt : Expr} {ifs : List Expr} {scope : Scope} {cl : List (Str × Addr)} {ts ys : List Str} {js : List Nat} {fs : D → List Sl → List Sl} {ok : D → Prop} (f : D → D) (pz : D → Bool) (src : Src X L ρ tg iter ds) (hlen : ds.length < sizeLine) (hok : ∀ d ∈ ds, ok d)
    (hb : ∀ (C : Addr) (s : Shared) (H : Hp) (fp : List Addr), GV (compCx X (ts ++ ys) scope cl C s H fp) L tg fs ok ∧ ∀ d : D, d ∈ ds → Tests (compCx X (ts ++ ys) scope cl C s H fp) L (fs d (rhoC ρ ts js)) ifs (pz d) ∧
      (pz d = true → EV (compCx X (ts ++ ys) scope cl C s H fp) L (fs d (rhoC ρ ts js)) elt (f d)))
    (hfg : ∀ d ∈ ds, (fs d (rhoC ρ ts js)).length = (rhoC ρ ts js).length ∧ (∀ (i : Nat) (r : Sl), (rhoC ρ ts js)[i]? = some r → r = .no ∨ (fs d (rhoC ρ ts js))[i]? = some r) ∧ ∀ (i : Nat) r, (fs d (rhoC ρ ts js))[i]? = some r → ¬ isOwn r)
    (hclos : closureFor scope X.env = pure cl) (hcell : ∀ y ∈ scope.names, y.2 ≠ .cell) (hkind : scope.kind = .function) (hnames : ∀ y ∈ scope.names, y.2 = .local → scope.names.lookup y.1 = some .local)
    (hcl : ∀ x c, cl.lookup x = some c → X.env.cells.lookup x = some c) (hhas : ∀ x, ((relabel scope X.env).names.lookup x = some .cell ∨ (relabel scope X.env).names.lookup x = some .free) → ∃ c, cl.lookup x = some c)
    (hjs : js.length = ys.length) (hown : ∀ j ∈ js, ∀ r, ρ[j]? = some r → ¬ isOwn r)
    (hcap : ∀ (m j : Nat) (y : Str), js[m]? = some j → ys[m]? = some y → X.N[j]? = some y ∧ Vis X.env.scope y ∧ (X.env.kindOf y ≠ some .local) ∧ ((relabel scope X.env).names.lookup y = some .cell ∨ (relabel scope X.env).names.lookup y = some .free))
    (hcalm : X.calm = true := by rfl) (hs : ∀ x, foldedSetIterable iter X.env x = pure x := by intro _; rfl) :
    EL X L ρ (.ListComp elt [⟨tg, iter, ifs, 0⟩] scope pos) ((ds.filter pz).map f) := by
  refine .mk fun σ G0 H0 G H st Q k pins s I => ?_
  rw [eval_ListComp]
  refine comp_core f pz src hlen hok hb hfg hclos hcell hkind hnames hcl hhas hjs hown hcap hcalm hs st I fun s3 H' G' p C ws ns inv _ e1 h1 h2 h3 h4 => ?_
  obtain ⟨m, hm⟩ := ns
  exact ⟨m, hm, fun h'' sb => ⟨.ref p, H', inv h'' sb, rfl, k p ws G' H' e1 h1 h2 h3 h4⟩⟩
/-- the new list is the def's own -/
theorem own_st {K : PySem.W.Frag} {L : Kl} {ρ : List Sl} {σ : L2.St} {G0 H0 G H G1 H1 : Hp} {p : Addr} {vs : List V} {ds : List D} (st : StOk K L G0 H0 ρ σ G H) (i : Nat) (e1 : Ext G H G1 H1) (hp : H p = none) (hg : G1 p = none) (hh : H1 p = some (.lst vs)) (hr : RpA K L G1 vs ds) :
    StOk K L G0 H0 (ρ.set i (.own ds)) (σ.set i (some (.ref p))) G1 H1 := by
  have e2 : Ext G H G1 (fun b => if b = p then none else H1 b) := ⟨e1.gg, fun b u q => by
      have z : b ≠ p := ne_of_none q hg
      show (if b = p then none else H1 b) = some u
      rw [if_neg z]
      exact e1.gh _ _ q, fun b u q => by
      have z : b ≠ p := ne_of_none q hp
      show (if b = p then none else H1 b) = some u
      rw [if_neg z]
      exact e1.hh _ _ q, e1.nw⟩
  have eq : upd (fun b => if b = p then none else H1 b) p (.lst vs) = H1 := by
    funext b
    by_cases z : b = p
    · subst z
      rw [upd_same, hh]
    · rw [upd_ne z, if_neg z]
  have st2 := (st.step e2).newOwn (i := i) (p := p) (by show (if p = p then none else H1 p) = none; rw [if_pos rfl]) hr
  rw [eq] at st2
  exact st2
/-- x = [..]: the store comes ahead of the letting go -/
theorem sv_compS (i : Nat) {x : Str} {px : Pos} {pS : Pos} {E : En} {rest : List Stmt} {iter elt : Expr} {ifs : List Expr} {scope : Scope} {cl : List (Str × Addr)} {ts ys : List Str} {js : List Nat} {fs : D → List Sl → List Sl} {ok : D → Prop} (f : D → D) (pz : D → Bool) (src : Src X L ρ tg iter ds) (hlen : ds.length < sizeLine) (hok : ∀ d ∈ ds, ok d)
    (hb : ∀ (C : Addr) (s : Shared) (H : Hp) (fp : List Addr), GV (compCx X (ts ++ ys) scope cl C s H fp) L tg fs ok ∧ ∀ d : D, d ∈ ds → Tests (compCx X (ts ++ ys) scope cl C s H fp) L (fs d (rhoC ρ ts js)) ifs (pz d) ∧
      (pz d = true → EV (compCx X (ts ++ ys) scope cl C s H fp) L (fs d (rhoC ρ ts js)) elt (f d)))
    (hfg : ∀ d ∈ ds, (fs d (rhoC ρ ts js)).length = (rhoC ρ ts js).length ∧ (∀ (i : Nat) (r : Sl), (rhoC ρ ts js)[i]? = some r → r = .no ∨ (fs d (rhoC ρ ts js))[i]? = some r) ∧ ∀ (i : Nat) r, (fs d (rhoC ρ ts js))[i]? = some r → ¬ isOwn r)
    (hclos : closureFor scope X.env = pure cl) (hcell : ∀ y ∈ scope.names, y.2 ≠ .cell) (hkind : scope.kind = .function) (hnames : ∀ y ∈ scope.names, y.2 = .local → scope.names.lookup y.1 = some .local)
    (hcl : ∀ x c, cl.lookup x = some c → X.env.cells.lookup x = some c) (hhas : ∀ x, ((relabel scope X.env).names.lookup x = some .cell ∨ (relabel scope X.env).names.lookup x = some .free) → ∃ c, cl.lookup x = some c)
    (hjs : js.length = ys.length) (hown : ∀ j ∈ js, ∀ r, ρ[j]? = some r → ¬ isOwn r)
    (hcap : ∀ (m j : Nat) (y : Str), js[m]? = some j → ys[m]? = some y → X.N[j]? = some y ∧ Vis X.env.scope y ∧ (X.env.kindOf y ≠ some .local) ∧ ((relabel scope X.env).names.lookup y = some .cell ∨ (relabel scope X.env).names.lookup y = some .free))
    (hcalm : X.calm = true := by rfl) (hs : ∀ x, foldedSetIterable iter X.env x = pure x := by intro _; rfl)
    (h : SV X L (ρ.set i (.own ((ds.filter pz).map f))) rest E) (hN : X.N.Nodup) (hi : X.N[i]? = some x) (hx : Loc X.env.scope x) (hf : X.fn x = true ∨ X.env.scope.names.lookup x = some .local)
    (hsw : swapsWith (.ListComp elt [⟨tg, iter, ifs, 0⟩] scope pos) (some (.Name x px)) pS.line X.env = pure true) : SV X L ρ (.Assign [.Name x px] (.ListComp elt [⟨tg, iter, ifs, 0⟩] scope pos) pS :: rest) E := .mk fun σ G0 H0 G H st => by
  refine wSs_cons fun pins s I => ?_
  rw [exec_Assign_Name_used _ _ _ _ hsw]
  refine wpAny_bind (wpAny_standAt (wpAny_bind ?_))
  rw [arm_evalThenUse_ListComp]
  refine wpAny_bind (comp_core f pz src hlen hok hb hfg hclos hcell hkind hnames hcl hhas hjs hown hcap hcalm hs st I fun s3 H' G' p C ws ns inv fpo e1 h1 h2 h3 h4 => ?_)
  obtain ⟨m, oC, es, ep, g1, g2, g3, g4⟩ := ns
  have I3 : Inv X pins σ H' s3 := inv s3.heap (Heap.SameBut.refl _ _)
  have IP : Inv X (pins ++ [(C, oC)]) σ H' s3 := I3.pins_of fun q hq => by
    rcases List.mem_append.mp hq with z | z
    · exact I3.pin q (List.mem_append_right _ z)
    · have e : q = (C, oC) := by simpa using z
      subst e
      exact ⟨g1, fpo.1, fpo.2.1, fpo.2.2.1, fun v z => by rw [g2] at z; cases z⟩
  refine thn (pg_name (pos := px) hN hi hx hf (pins ++ [(C, oC)]) s3 σ H' (.ref p) (.ref p) (fun σ2 H2 => σ2 = σ.set i (some (.ref p)) ∧ H2 = H') IP rfl ⟨rfl, rfl⟩) fun _ s4 ⟨σ2, H2, I4, e2, e3⟩ => ?_
  subst e2 e3
  have gC := (I4.pin (C, oC) (List.mem_append_right _ (List.mem_append_right _ (by simp)))).1
  refine ⟨m, ⟨oC, es, ep, gC, g2, g3, g4⟩, fun h'' sb => wpAny_pure (wpAny_pure ?_)⟩
  obtain ⟨f0, f1, f2, f3, f4, f5⟩ := fpo
  exact ⟨_, _, I4.unpinned.turned (t' := s4.toks) (fun b o hb e => sb.extBut b o hb e) f0 f1 f3 f4 f5, h.run _ G0 H0 G' _ (own_st st i e1 h1 h2 h3 h4)⟩
end
end Z

namespace Z
open PySem PySem.Spec PyProof.Rows L2

/-! ### the defs of a text -/
/-- a def (or method) as it stands behind the top; its defaults may be some -/
structure DefT (K : PySem.W.Frag) (x qual : Str) (st : Stmt) (ps : List Str) (f : Addr) (fd : FuncData) : Prop where
  ex : ∃ (oc : Value) (od : Option Addr) (dV kV doc pm : Value) (an : Option Addr) (cdv ct : Value) (osl : Array (Option Value)),
    fd = PySem.W.fnOf x qual (defArgs st) (defBody st) (defScope st) dV kV doc pm an cdv ct ∧ K.lookup f = some ⟨oc, od, .func fd, osl⟩ ∧ PySem.W.codeIn K cdv qual = true
  kp : PySem.W.keepIn K (.ref f) = true
  bd : Binds K fd ps []
/-- a def of the module -/
def GDef (K : PySem.W.Frag) (mg : Str → Option Value) (x : Str) (st : Stmt) (ps : List Str) : Prop := ∃ f fd, DefT K x x st ps f fd ∧ mg x = some (.ref f)
/-- .. whose last parameters have defaults us -/
def GDefD (K : PySem.W.Frag) (mg : Str → Option Value) (x : Str) (st : Stmt) (ps : List Str) (us : List Value) : Prop := ∃ f fd, DefT K x x st ps f fd ∧ mg x = some (.ref f) ∧ Binds K fd ps us
section
variable {P : Program} {w : World} {K : PySem.W.Frag} {mg : Str → Option Value} {base : Heap} {L : Kl}
theorem fn_okT {x qual : Str} {st : Stmt} {f : Addr} {fd : FuncData} {N ps : List Str} {k : Nat} {C : List D → D → Prop} (F : DefT K x qual st ps f fd) (S : FnScope N ps (defScope st)) (len : ∀ ds r, C ds r → ds.length = ps.length)
    (hbody : ∀ (cdv : Value) (A : Around) (outer : List Env) (s : Shared) (H : Hp) (E : XK), Room k (A.deeper (envOfC qual (defScope st) s.heap.objs.size f cdv)) → ∀ ds r, C ds r →
      SV (cxOf CX0 P w K mg base N qual (defScope st) f cdv A outer s H E).nox L (rho0 N ds) (defBody st) { nx := fun _ => r = .non, rt := fun d => d = r }) : FnOk P w K mg base CX0 (k + 1) f fd ps (spC K L C) := by
  obtain ⟨oc, od, dV, kV, doc, pm, an, cdv, ct, osl, rfl, lk, hcd⟩ := F.ex
  refine fn_of lk hcd S (fun vs H Q E ⟨G, ds, r, _, hr, hc, _⟩ => hr.length.trans (len ds r hc)) fun A outer s H vs Q E hr ⟨G, ds, r, sm, rp, hc, k⟩ => ⟨_, PSs.nox pss_w, ?_⟩
  have hh := (hbody cdv A outer s H E hr ds r hc).run (L2.start N vs) G H G H (st0 sm rp)
  refine wSs_mono ?_ hh
  refine ⟨?_, ?_, ?_, ?_⟩
  · rintro σ' H' ⟨ρ', G', s', e⟩
    subst e
    exact k .non G' H' s'.ext .non
  · rintro v H' (⟨d, G', x1, r1, e⟩ | ⟨_, _, _, _, _, _, _, _, _, _, z⟩)
    · subst e
      exact k v G' H' x1 r1
    · exact z.elim
  · rintro σ' H' ⟨_, _, _, q⟩
    exact q.elim
  · rintro σ' H' ⟨_, _, _, q⟩
    exact q.elim
theorem fn_def {x : Str} {st : Stmt} {N ps : List Str} {k : Nat} {C : List D → D → Prop} (g : GDef K mg x st ps) (S : FnScope N ps (defScope st)) (len : ∀ ds r, C ds r → ds.length = ps.length)
    (hbody : ∀ (f : Addr) (cdv : Value) (A : Around) (outer : List Env) (s : Shared) (H : Hp) (E : XK), Room k (A.deeper (envOfC x (defScope st) s.heap.objs.size f cdv)) → ∀ ds r, C ds r →
      SV (cxOf CX0 P w K mg base N x (defScope st) f cdv A outer s H E).nox L (rho0 N ds) (defBody st) { nx := fun _ => r = .non, rt := fun d => d = r }) : Fn P w K mg base L x (k + 1) C := by
  obtain ⟨f, fd, F, hm⟩ := g
  exact .mk0 (fn_okT F S len (hbody f)) hm F.kp F.bd
/-- both ways to call a def whose last parameters have defaults -/
theorem fn_defD {x : Str} {st : Stmt} {N ps : List Str} {us : List Value} {dvs : List V} {dds : List D} {k : Nat} {C : List D → D → Prop} (g : GDefD K mg x st ps us) (hv : Vals dvs us) (hd : ∀ G, RpA K L G dvs dds) (S : FnScope N ps (defScope st)) (len : ∀ ds r, C ds r → ds.length = ps.length)
    (hbody : ∀ (f : Addr) (cdv : Value) (A : Around) (outer : List Env) (s : Shared) (H : Hp) (E : XK), Room k (A.deeper (envOfC x (defScope st) s.heap.objs.size f cdv)) → ∀ ds r, C ds r →
      SV (cxOf CX0 P w K mg base N x (defScope st) f cdv A outer s H E).nox L (rho0 N ds) (defBody st) { nx := fun _ => r = .non, rt := fun d => d = r }) : Fn P w K mg base L x (k + 1) C ∧ Fn P w K mg base L x (k + 1) (fun ds r => C (ds ++ dds) r) := by
  obtain ⟨f, fd, F, hm, hb⟩ := g
  have h := fn_okT F S len (hbody f)
  exact ⟨.mk0 h hm F.kp F.bd, ⟨f, fd, ps, C, dvs, us, dds, h, hm, F.kp, hb, hv, hd, fun _ _ h => h⟩⟩
theorem gdef_mk {h : Heap} {x : Str} {st : Stmt} {ps : List Str} {f : Addr} {oc : Value} {od an : Option Addr} {osl : Array (Option Value)} {kV doc pm cdv ct : Value} (X : K.In h) (G : h.Ns mainGlobals mg) (a : PySem.W.nsIn K mainGlobals x = some (some (.ref f)))
    (l : K.lookup f = some ⟨oc, od, .func (PySem.W.fnOf x x (defArgs st) (defBody st) (defScope st) .none kV doc pm an cdv ct), osl⟩) (c : PySem.W.codeIn K cdv x = true) (k : PySem.W.keepIn K (.ref f) = true)
    (hb : ∀ (kV doc pm : Value) (an : Option Addr) (cdv ct : Value) (us : List Value), us.length = ps.length → bindArgs (PySem.W.fnOf x x (defArgs st) (defBody st) (defScope st) .none kV doc pm an cdv ct) ⟨us, []⟩ = pure (ps.zip us)) : GDef K mg x st ps :=
  ⟨f, _, ⟨⟨oc, od, .none, kV, doc, pm, an, cdv, ct, osl, rfl, l, c⟩, k, .all (hb kV doc pm an cdv ct)⟩, PySem.W.mg_of X G a⟩
theorem gdefD_mk {h : Heap} {x : Str} {st : Stmt} {ps : List Str} {us : List Value} {f T : Addr} {oc : Value} {od an : Option Addr} {osl : Array (Option Value)} {kV doc pm cdv ct : Value} {oT : Obj} {n : Nat} (X : K.In h) (G : h.Ns mainGlobals mg) (a : PySem.W.nsIn K mainGlobals x = some (some (.ref f)))
    (l : K.lookup f = some ⟨oc, od, .func (PySem.W.fnOf x x (defArgs st) (defBody st) (defScope st) (.ref T) kV doc pm an cdv ct), osl⟩) (c : PySem.W.codeIn K cdv x = true) (k : PySem.W.keepIn K (.ref f) = true) (hT : K.lookup T = some oT) (hS : oT.data = .seq us.toArray n) (n0 : Nat) (hn0 : n0 + us.length = ps.length)
    (hb : ∀ (kV doc pm : Value) (an : Option Addr) (cdv ct : Value) (s : Shared) (vs : List Value), s.heap.get? T = some oT → vs.length = ps.length → BindsTo s (PySem.W.fnOf x x (defArgs st) (defBody st) (defScope st) (.ref T) kV doc pm an cdv ct) ⟨vs, []⟩ (ps.zip vs))
    (hb' : ∀ (kV doc pm : Value) (an : Option Addr) (cdv ct : Value) (s : Shared) (vs : List Value), s.heap.get? T = some oT → vs.length = n0 → BindsTo s (PySem.W.fnOf x x (defArgs st) (defBody st) (defScope st) (.ref T) kV doc pm an cdv ct) ⟨vs, []⟩ (ps.zip (vs ++ us))) : GDefD K mg x st ps us :=
  ⟨f, _, ⟨⟨oc, od, .ref T, kV, doc, pm, an, cdv, ct, osl, rfl, l, c⟩, k, fun s vs hi hl => by rw [List.append_nil] at hl ⊢; exact hb kV doc pm an cdv ct s vs (hi _ _ hT) hl⟩, PySem.W.mg_of X G a, fun s vs hi hl => hb' kV doc pm an cdv ct s vs (hi _ _ hT) (by rw [List.length_append] at hl; omega)⟩
/-- a tuple of the module -/
theorem const_tup {a : Addr} {o : Obj} {its : Array Value} {n : Nat} {vs : List V} {ds : List D} (hk : K.lookup a = some o) (hc : o.cls = .type "tuple") (hd : o.data = .seq its n) (hz : its.size ≤ sizeLine) (hv : Vals vs its.toList) (hr : ∀ G, RpA K L G vs ds) (G : Hp) : Rp K L G (.ref a) (.tup ds) :=
  .tup (.inr ⟨o, its, n, hk, hc, hd, hz, hv⟩) (hr G)
end
abbrev cell (a b : Int) : D := .tup [.int a, .int b]
end Z

namespace Z
open PySem PySem.Spec PyProof.Rows L2

/-- the names that a comprehension takes from the def: their slots there -/
inductive Caps (X : Cx) (scope : Scope) (ρ : List Sl) : List Nat → List Str → Prop where
  | nil : Caps X scope ρ [] []
  | cons {j : Nat} {y : Str} {js : List Nat} {ys : List Str} {d : D} (hρ : ρ[j]? = some (.v d)) (hN : X.N[j]? = some y) (hk : X.env.kindOf y = some .cell ∨ X.env.kindOf y = some .free) (hl : (relabel scope X.env).names.lookup y = some .cell ∨ (relabel scope X.env).names.lookup y = some .free)
      (r : Caps X scope ρ js ys) : Caps X scope ρ (j :: js) (y :: ys)
section
variable {X : Cx} {L : Kl} {ρ : List Sl} {scope : Scope} {js : List Nat} {ys : List Str}
theorem cap1 (j : Nat) {y : Str} {d : D} (r : Caps X scope ρ js ys) (hρ : ρ[j]? = some (.v d) := by rfl) (hN : X.N[j]? = some y := by rfl) (hk : X.env.kindOf y = some .cell ∨ X.env.kindOf y = some .free := by first | exact Or.inl rfl | exact Or.inr rfl)
    (hl : (relabel scope X.env).names.lookup y = some .cell ∨ (relabel scope X.env).names.lookup y = some .free := by first | exact Or.inl rfl | exact Or.inr rfl) : Caps X scope ρ (j :: js) (y :: ys) := .cons hρ hN hk hl r
theorem Caps.len : ∀ {js : List Nat} {ys : List Str}, Caps X scope ρ js ys → js.length = ys.length
  | _, _, .nil => rfl
  | _, _, .cons _ _ _ _ r => congrArg (· + 1) r.len
theorem Caps.own : ∀ {js : List Nat} {ys : List Str}, Caps X scope ρ js ys → ∀ j ∈ js, ∀ r, ρ[j]? = some r → ¬ isOwn r
  | _, _, .nil, _, h => by cases h
  | _, _, .cons hρ _ _ _ r, j, h => by
    rcases List.mem_cons.mp h with rfl | h
    · intro r e o
      rw [hρ] at e
      cases e
      exact o
    · exact r.own j h
theorem Caps.cap : ∀ {js : List Nat} {ys : List Str}, Caps X scope ρ js ys → ∀ (m j : Nat) (y : Str), js[m]? = some j → ys[m]? = some y → X.N[j]? = some y ∧ Vis X.env.scope y ∧ (X.env.kindOf y ≠ some .local) ∧ ((relabel scope X.env).names.lookup y = some .cell ∨ (relabel scope X.env).names.lookup y = some .free)
  | _, _, .nil, m, _, _, h, _ => by simp at h
  | _, _, .cons hρ hN hk hl r, 0, j, y, h1, h2 => by
    cases h1
    cases h2
    refine ⟨hN, .inr hk, fun e => ?_, hl⟩
    rcases hk with z | z <;> (rw [z] at e; cases e)
  | _, _, .cons _ _ _ _ r, m + 1, j, y, h1, h2 => r.cap m j y (by simpa using h1) (by simpa using h2)
theorem has_of {cl : List (Str × Addr)} {env : Env} (h : (scope.names.all fun q => !(q.2 == .free || q.2 == .cell) || (cl.lookup q.1).isSome) = true) : ∀ x, ((relabel scope env).names.lookup x = some .cell ∨ (relabel scope env).names.lookup x = some .free) → ∃ c, cl.lookup x = some c := by
  intro x hx
  have key : ∀ (ns : List (Str × NameKind)) (k : NameKind), (ns.map fun (n, k) => if (k == .free && env.scope.kind == .function && env.kindOf n == some .cell) then (n, NameKind.cell) else (n, k)).lookup x = some k → (k = .cell ∨ k = .free) → ∃ k0, (x, k0) ∈ ns ∧ (k0 = .cell ∨ k0 = .free) := by
    intro ns
    induction ns with
    | nil => intro k h; simp at h
    | cons q r ih =>
      intro k h hk
      obtain ⟨n, k1⟩ := q
      have e : (List.map (fun (x : Str × NameKind) => match x with | (n, k) => if (k == .free && env.scope.kind == .function && env.kindOf n == some .cell) = true then (n, NameKind.cell) else (n, k)) ((n, k1) :: r)).lookup x = some k := h
      rw [List.map_cons] at e
      by_cases hc : (k1 == .free && env.scope.kind == .function && env.kindOf n == some .cell) = true
      · simp only [hc, if_true, List.lookup_cons] at e
        cases hx : x == n with
        | true =>
          have : x = n := by simpa using hx
          subst this
          have h1 : k1 = .free := by
            have := (Bool.and_eq_true_iff.mp (Bool.and_eq_true_iff.mp hc).1).1
            simpa using this
          exact ⟨k1, List.mem_cons_self, .inr h1⟩
        | false =>
          rw [hx] at e
          obtain ⟨k0, h1, h2⟩ := ih k e hk
          exact ⟨k0, List.mem_cons_of_mem _ h1, h2⟩
      · simp only [hc, Bool.false_eq_true, if_false, List.lookup_cons] at e
        cases hx : x == n with
        | true =>
          have : x = n := by simpa using hx
          subst this
          rw [hx] at e
          simp at e
          subst e
          exact ⟨k1, List.mem_cons_self, hk⟩
        | false =>
          rw [hx] at e
          obtain ⟨k0, h1, h2⟩ := ih k (by simpa using e) hk
          exact ⟨k0, List.mem_cons_of_mem _ h1, h2⟩
  have fin : ∃ k0, (x, k0) ∈ scope.names ∧ (k0 = .cell ∨ k0 = .free) := by
    rcases hx with hx | hx
    · exact key _ _ hx (.inl rfl)
    · exact key _ _ hx (.inr rfl)
  obtain ⟨k0, h1, h2⟩ := fin
  have h3 := List.all_eq_true.mp h _ h1
  have h4 : (cl.lookup x).isSome = true := by
    rcases h2 with rfl | rfl <;> simpa using h3
  exact Option.isSome_iff_exists.mp h4
theorem getD_v {ρ : List Sl} {j : Nat} {d : D} (h : ρ[j]? = some (.v d)) : ρ.getD j .no = .v d := by
  rw [List.getD_eq_getElem?_getD, h]
  rfl
theorem Caps.noown : ∀ {js : List Nat} {ys : List Str}, Caps X scope ρ js ys → ∀ (i : Nat) (q : Sl), (js.map fun j => ρ.getD j .no)[i]? = some q → ¬ isOwn q
  | _, _, .nil, i, q => by simp
  | _, _, .cons hρ _ _ _ r, 0, q => fun h o => by
    have h' : ρ.getD _ .no = q := Option.some.inj h
    rw [getD_v hρ] at h'
    rw [← h'] at o
    exact o
  | _, _, .cons _ _ _ _ r, i + 1, q => fun h => r.noown i q h
/-- [elt for x in iter if ..], one name -/
theorem el_compNS {iter elt : Expr} {x : Str} {px pos : Pos} {ifs : List Expr} {cl : List (Str × Addr)} {ds : List D} (f : D → D) (pz : D → Bool) (cl' : cl = cl) (cp : Caps X scope ρ js ys) (src : Src X L ρ (.Name x px) iter ds) (hlen : ds.length < sizeLine)
    (hb : ∀ (C : Addr) (s : Shared) (H : Hp) (fp : List Addr) (d : D), d ∈ ds → Tests (compCx X (x :: ys) scope cl C s H fp) L (.v d :: js.map fun j => ρ.getD j .no) ifs (pz d) ∧
      (pz d = true → EV (compCx X (x :: ys) scope cl C s H fp) L (.v d :: js.map fun j => ρ.getD j .no) elt (f d)))
    (hnd : (x :: ys).Nodup := by decide +kernel) (hclos : closureFor scope X.env = pure cl := by rfl) (hcell : ∀ y ∈ scope.names, y.2 ≠ .cell := by decide +kernel) (hkind : scope.kind = .function := by rfl) (hnames : ∀ y ∈ scope.names, y.2 = .local → scope.names.lookup y.1 = some .local := by decide +kernel)
    (hx : scope.names.lookup x = some .local := by rfl) (hx2 : (relabel scope X.env).names.lookup x = some .local := by rfl)
    (hcl : ∀ x c, cl.lookup x = some c → X.env.cells.lookup x = some c := by exact fun _ _ h => h) (hhas : (scope.names.all fun q => !(q.2 == .free || q.2 == .cell) || (cl.lookup q.1).isSome) = true := by rfl)
    (hcalm : X.calm = true := by rfl) (hs : ∀ x, foldedSetIterable iter X.env x = pure x := by intro _; rfl) : EL X L ρ (.ListComp elt [⟨.Name x px, iter, ifs, 0⟩] scope pos) ((ds.filter pz).map f) :=
  el_compS (ts := [x]) (ys := ys) (js := js) (cl := cl) (fs := fun d ρ => ρ.set 0 (.v d)) (ok := fun _ => True) f pz src hlen (fun _ _ => trivial)
    (fun C s H fp => ⟨⟨_, pg_name (X := compCx X ([x] ++ ys) scope cl C s H fp) (i := 0) hnd rfl (.inl hx2) (.inr hx2), fun d ρ σ G0 H0 G H v _ st r Q k => k _ (st.set r)⟩, fun d hd => hb C s H fp d hd⟩)
    (fun d hd => ⟨by rw [List.length_set], fun i r hr => by
      cases i with
      | zero => exact .inl (Option.some.inj hr).symm
      | succ i => exact .inr hr, fun i q h o => by
      cases i with
      | zero =>
        rw [← Option.some.inj h] at o
        exact o
      | succ i => exact cp.noown i q h o⟩)
    hclos hcell hkind hnames hcl (has_of hhas) cp.len cp.own cp.cap hcalm hs
/-- z = [elt for x in iter if ..] -/
theorem sv_compNS (i : Nat) {z : Str} {pz' pS : Pos} {E : En} {rest : List Stmt} {iter elt : Expr} {x : Str} {px pos : Pos} {ifs : List Expr} {cl : List (Str × Addr)} {ds : List D} (f : D → D) (pz : D → Bool) (cl' : cl = cl) (cp : Caps X scope ρ js ys) (src : Src X L ρ (.Name x px) iter ds) (hlen : ds.length < sizeLine)
    (hb : ∀ (C : Addr) (s : Shared) (H : Hp) (fp : List Addr) (d : D), d ∈ ds → Tests (compCx X (x :: ys) scope cl C s H fp) L (.v d :: js.map fun j => ρ.getD j .no) ifs (pz d) ∧
      (pz d = true → EV (compCx X (x :: ys) scope cl C s H fp) L (.v d :: js.map fun j => ρ.getD j .no) elt (f d)))
    (h : SV X L (ρ.set i (.own ((ds.filter pz).map f))) rest E) (hN : X.N.Nodup := by first | assumption | decide +kernel) (hi : X.N[i]? = some z := by rfl) (hz : Loc X.env.scope z := by first | exact Or.inl rfl | exact Or.inr rfl) (hfz : X.fn z = true ∨ X.env.scope.names.lookup z = some .local := by first | exact .inl rfl | exact .inr rfl)
    (hnd : (x :: ys).Nodup := by decide +kernel) (hclos : closureFor scope X.env = pure cl := by rfl) (hcell : ∀ y ∈ scope.names, y.2 ≠ .cell := by decide +kernel) (hkind : scope.kind = .function := by rfl) (hnames : ∀ y ∈ scope.names, y.2 = .local → scope.names.lookup y.1 = some .local := by decide +kernel)
    (hx : scope.names.lookup x = some .local := by rfl) (hx2 : (relabel scope X.env).names.lookup x = some .local := by rfl)
    (hcl : ∀ x c, cl.lookup x = some c → X.env.cells.lookup x = some c := by exact fun _ _ h => h) (hhas : (scope.names.all fun q => !(q.2 == .free || q.2 == .cell) || (cl.lookup q.1).isSome) = true := by rfl)
    (hcalm : X.calm = true := by rfl) (hs : ∀ x, foldedSetIterable iter X.env x = pure x := by intro _; rfl) (hsw : swapsWith (.ListComp elt [⟨.Name x px, iter, ifs, 0⟩] scope pos) (some (.Name z pz')) pS.line X.env = pure true := by rfl) : SV X L ρ (.Assign [.Name z pz'] (.ListComp elt [⟨.Name x px, iter, ifs, 0⟩] scope pos) pS :: rest) E :=
  sv_compS i (ts := [x]) (ys := ys) (js := js) (cl := cl) (fs := fun d ρ => ρ.set 0 (.v d)) (ok := fun _ => True) f pz src hlen (fun _ _ => trivial)
    (fun C s H fp => ⟨⟨_, pg_name (X := compCx X ([x] ++ ys) scope cl C s H fp) (i := 0) hnd rfl (.inl hx2) (.inr hx2), fun d ρ σ G0 H0 G H v _ st r Q k => k _ (st.set r)⟩, fun d hd => hb C s H fp d hd⟩)
    (fun d hd => ⟨by rw [List.length_set], fun i r hr => by
      cases i with
      | zero => exact .inl (Option.some.inj hr).symm
      | succ i => exact .inr hr, fun i q h o => by
      cases i with
      | zero =>
        rw [← Option.some.inj h] at o
        exact o
      | succ i => exact cp.noown i q h o⟩)
    hclos hcell hkind hnames hcl (has_of hhas) cp.len cp.own cp.cap hcalm hs h hN hi hz hfz hsw
end
end Z
namespace Z
open PySem PySem.Spec PyProof.Rows L2
/-! ### written numbers, pairs of them, lists of such pairs -/
inductive LitI : Expr → Int → Prop where
  | c {i : Int} {j p} : LitI (.Constant (.int i) j p) i
  | n {i : Int} {j p q} : LitI (.UnaryOp .USub (.Constant (.int i) j p) q) (-i)
inductive LitP : Expr → D → Prop where
  | mk {a b : Expr} {i j : Int} {x1 pos} : LitI a i → LitI b j → LitP (.Tuple [a, b] x1 pos) (cell i j)
inductive LitPs : List Expr → List D → Prop where
  | nil : LitPs [] []
  | cons {e : Expr} {d : D} {es : List Expr} {ds : List D} : LitP e d → LitPs es ds → LitPs (e :: es) (d :: ds)
section
variable {X : Cx} {L : Kl} {ρ : List Sl}
theorem LitI.ev {e : Expr} {i : Int} (h : LitI e i) : EV X L ρ e (.int i) := by
  cases h with
  | c => exact ev_int
  | n => exact ev_neg ev_int
theorem LitI.star {e : Expr} {i : Int} (h : LitI e i) (es : List Expr) : starEach (e :: es) X.env = (false, eval e X.env) :: starEach es X.env := by cases h <;> rfl
theorem LitP.ev {e : Expr} {d : D} (h : LitP e d) : EV X L ρ e d := by
  cases h with
  | mk h1 h2 => exact ev_tup (evs_cons h1.ev (evs_cons h2.ev evs_nil (h2.star _)) (h1.star _))
theorem LitP.star {e : Expr} {d : D} (h : LitP e d) (es : List Expr) : starEach (e :: es) X.env = (false, eval e X.env) :: starEach es X.env := by cases h; rfl
theorem LitPs.evs : ∀ {es : List Expr} {ds : List D}, LitPs es ds → EVs X L ρ es ds
  | _, _, .nil => evs_nil
  | _, _, .cons h hs => evs_cons h.ev hs.evs (h.star _)
end
end Z
namespace Z
open PySem
/-! ### the kinds of plain things, as isinstance tells them -/
theorem kii (K : PySem.W.Frag) : PySem.W.kitOne K (.type "int") (.type "int") = some true := by kernel_rfl
theorem kib (K : PySem.W.Frag) : PySem.W.kitOne K (.type "int") (.type "bool") = some false := by kernel_rfl
theorem kbb (K : PySem.W.Frag) : PySem.W.kitOne K (.type "bool") (.type "bool") = some true := by kernel_rfl
theorem ktt (K : PySem.W.Frag) : PySem.W.kitOne K (.type "tuple") (.type "tuple") = some true := by kernel_rfl
theorem kll (K : PySem.W.Frag) : PySem.W.kitOne K (.type "list") (.type "list") = some true := by kernel_rfl
end Z

namespace Z
open PySem PySem.Spec PyProof.Rows L2

/-! ### lists that are newly made -/
section
variable {X : Cx} {L : Kl} {ρ : List Sl} {e a b : Expr} {es : List Expr} {d : D} {ds ds' : List D} {pos p pos' : Pos} {E : En} {rest : List Stmt}
theorem el_lst (h : EVs X L ρ es ds) (hl : ds.length ≤ 1000 := by simp) : EL X L ρ (.List es pos) ds := .mk fun σ G0 H0 G H st Q k =>
  wE_of (pe_lst pa_w) (h.run σ G0 H0 G H st _ fun vs G1 H1 e1 r1 => ⟨by rw [r1.length]; exact Nat.le_of_lt (small1000 hl), fun p hp => k p vs G1 _ ⟨e1.gg, e1.gh.trans (same_new hp _), e1.hh.trans (same_new hp _), e1.nw⟩ (e1.hh.free hp) (e1.gh.free hp) upd_same r1⟩)
/-- x = a new list: the def's own -/
theorem sv_newE (i : Nat) {x : Str} (he : EL X L ρ e ds) (h : SV X L (ρ.set i (.own ds)) rest E) (hN : X.N.Nodup := by first | assumption | decide +kernel) (hi : X.N[i]? = some x := by rfl) (hx : Loc X.env.scope x := by first | exact Or.inl rfl | exact Or.inr rfl)
    (hs : swapsWith e (some (.Name x pos')) pos.line X.env = pure false := by rfl) (hf : X.fn x = true ∨ X.env.scope.names.lookup x = some .local := by first | exact .inl rfl | exact .inr rfl) : SV X L ρ (.Assign [.Name x pos'] e pos :: rest) E := .mk fun σ G0 H0 G H st =>
  wSs_cons (wS_of (ps_set (i := i) hN hi hx pe_w hs hf) (he.run σ G0 H0 G H st _ fun p vs G1 H1 e1 hp hg hh hr => by
    have st1 := st.step e1
    -- the list as it stood ahead: take it out of the heap, and lay it anew
    have e2 : Ext G H G1 (fun b => if b = p then none else H1 b) := ⟨e1.gg, fun b u q => by
        have z : b ≠ p := ne_of_none q hg
        show (if b = p then none else H1 b) = some u
        rw [if_neg z]
        exact e1.gh _ _ q, fun b u q => by
        have z : b ≠ p := ne_of_none q hp
        show (if b = p then none else H1 b) = some u
        rw [if_neg z]
        exact e1.hh _ _ q, e1.nw⟩
    have eq : upd (fun b => if b = p then none else H1 b) p (.lst vs) = H1 := by
      funext b
      by_cases z : b = p
      · subst z
        rw [upd_same, hh]
      · rw [upd_ne z, if_neg z]
    have st2 := (st.step e2).newOwn (i := i) (p := p) (by show (if p = p then none else H1 p) = none; rw [if_pos rfl]) hr
    rw [eq] at st2
    exact h.run _ G0 H0 G1 H1 st2))
/-! a list that is shared with no one, seen as a datum where nothing of it is kept -/
mutual
def noL : D → Bool
  | .non => true
  | .bl _ => true
  | .int _ => true
  | .str _ => true
  | .ty _ => true
  | .cls _ => true
  | .tup xs => noLA xs
  | .lst _ => false
  | .obj _ xs => noLA xs
  | .dct _ => true
def noLA : List D → Bool
  | [] => true
  | x :: xs => noL x && noLA xs
end
def del (G : Hp) (p : Addr) : Hp := fun b => if b = p then none else G b
theorem del_ne {G : Hp} {p b : Addr} (h : b ≠ p) : del G p b = G b := if_neg h
theorem del_same {G : Hp} {p : Addr} : del G p p = none := if_pos rfl
theorem KeyOk.without {K : PySem.W.Frag} {G : Hp} {p : Addr} {ws : List V} (hp : G p = some (.lst ws)) : ∀ {xs : List (List Int × Addr × Value)} {cs : List (Int × Int)}, KeyOk K G xs cs → KeyOk K (del G p) xs cs
  | [], [], _ => trivial
  | (_, _, _) :: _, (_, _) :: _, ⟨h1, h, h3⟩ => ⟨h1, by
    rcases h with (h | ⟨o, h⟩) | h
    · refine .inl (.inl ?_)
      rw [del_ne (ne_of h hp (by intro z; cases z))]
      exact h
    · refine .inl (.inr ⟨o, ?_⟩)
      rw [del_ne (ne_of h hp (by intro z; cases z))]
      exact h
    · exact .inr h, KeyOk.without hp h3⟩
  | [], _ :: _, h => h.elim
  | _ :: _, [], h => h.elim
mutual
theorem Rp.without {K : PySem.W.Frag} {G : Hp} {p : Addr} {ws : List V} (hp : G p = some (.lst ws)) : ∀ {v : V} {d : D}, Rp K L G v d → noL d = true → Rp K L (del G p) v d
  | _, _, .non, _ => .non
  | _, _, .bl b, _ => .bl b
  | _, _, .int i, _ => .int i
  | _, _, .str x, _ => .str x
  | _, _, .ty n, _ => .ty n
  | _, _, .cls c, _ => .cls c
  | _, _, .lst _ _, n => by cases n
  | _, _, .tup h hs, n => by
    refine .tup ?_ (RpA.without hp hs n)
    rcases h with (h | ⟨o, h⟩) | h
    · refine .inl (.inl ?_)
      rw [del_ne (ne_of h hp (by intro z; cases z))]
      exact h
    · refine .inl (.inr ⟨o, ?_⟩)
      rw [del_ne (ne_of h hp (by intro z; cases z))]
      exact h
    · exact .inr h
  | _, _, .obj h hl hs, n => by
    have hne := ne_of h hp (by intro z; cases z)
    exact .obj ((del_ne hne).trans h) hl (RpA.without hp hs n)
  | _, _, .dct h hk, _ => .dct ((del_ne (ne_of h hp (by intro z; cases z))).trans h) (hk.without hp)
theorem RpA.without {K : PySem.W.Frag} {G : Hp} {p : Addr} {ws : List V} (hp : G p = some (.lst ws)) : ∀ {vs : List V} {ds : List D}, RpA K L G vs ds → noLA ds = true → RpA K L (del G p) vs ds
  | _, _, .nil, _ => .nil
  | _, _, .cons h hs, n => .cons (Rp.without hp h (Bool.and_eq_true_iff.mp n).1) (RpA.without hp hs (Bool.and_eq_true_iff.mp n).2)
end
theorem ev_share (i : Nat) (h : EV X L (ρ.set i (.v (.lst ds))) e d) (hi : ρ[i]? = some (.own ds) := by rfl) (hn : noL d = true := by rfl) : EV X L ρ e d := .mk fun σ G0 H0 G H st Q k => by
  obtain ⟨p, vs, h1, h2, h3, h4, st1⟩ := st.freeze hi
  refine h.run σ G0 H0 _ H st1 Q fun v G' H' x r => ?_
  have hp : G' p = some (.lst vs) := x.gg _ _ upd_same
  refine k v (del G' p) H' ⟨fun b u q => ?_, fun b u q => ?_, x.hh, fun b hb => ?_⟩ (r.without hp hn)
  · have z : b ≠ p := ne_of_none q h3
    rw [del_ne z]
    exact x.gg _ _ (by rw [upd_ne z]; exact q)
  · by_cases z : b = p
    · subst z
      rw [del_same] at q
      cases q
    · rw [del_ne z] at q
      exact x.gh _ _ q
  · by_cases z : b = p
    · subst z
      rw [del_same] at hb
      exact absurd rfl hb
    · rw [del_ne z] at hb
      rcases x.nw b hb with q | q
      · rw [upd_ne z] at q
        exact .inl q
      · exact .inr q

/-! ### list + list, list * int -/
end
end Z

namespace Z
open PySem PySem.Spec PyProof.Rows L2

/-! ### objects -/
section
variable {X : Cx} {L : Kl} {ρ : List Sl} {e a b o : Expr} {es : List Expr} {d : D} {ds rs : List D} {pos p pos' apos : Pos} {E : En} {rest : List Stmt} {c : Nat} {f m : Str}
theorem zip_look : ∀ {ns : List Str} {vs : List V} {j : Nat} {f : Str} {v : V}, ns.Nodup → ns[j]? = some f → vs[j]? = some v → (ns.zip vs).lookup f = some v
  | [], _, _, _, _, _, h, _ => by simp at h
  | n :: ns, [], j, f, v, _, _, h => by simp at h
  | n :: ns, u :: vs, 0, f, v, _, h1, h2 => by
    simp at h1 h2
    subst h1 h2
    simp [List.zip_cons_cons, List.lookup_cons]
  | n :: ns, u :: vs, j + 1, f, v, nd, h1, h2 => by
    have h1' : ns[j]? = some f := by simpa using h1
    have h2' : vs[j]? = some v := by simpa using h2
    have hne : f ≠ n := fun z => by
      subst z
      exact (List.nodup_cons.mp nd).1 (List.mem_of_getElem? h1')
    rw [List.zip_cons_cons, List.lookup_cons]
    have : (f == n) = false := by simpa using hne
    rw [this]
    exact zip_look (List.nodup_cons.mp nd).2 h1' h2'
theorem zip_none : ∀ {ns : List Str} {vs : List V} {f : Str}, f ∉ ns → (ns.zip vs).lookup f = none
  | [], _, _, _ => by simp
  | n :: ns, [], _, _ => by simp
  | n :: ns, u :: vs, f, h => by
    rw [List.zip_cons_cons, List.lookup_cons]
    have : (f == n) = false := by
      have : f ≠ n := fun z => h (by rw [z]; exact List.mem_cons_self)
      simpa using this
    rw [this]
    exact zip_none fun z => h (List.mem_cons_of_mem _ z)
theorem zip_snoc : ∀ {ns : List Str} {vs : List V} {f : Str} {v : V}, ns[vs.length]? = some f → ns.Nodup → putF f v (ns.zip vs) = ns.zip (vs ++ [v])
  | [], _, _, _, h, _ => by simp at h
  | n :: ns, [], f, v, h, _ => by
    simp at h
    subst h
    simp [putF]
  | n :: ns, u :: vs, f, v, h, nd => by
    have h' : ns[vs.length]? = some f := by simpa using h
    have hne : ¬ n = f := fun z => by
      subst z
      exact (List.nodup_cons.mp nd).1 (List.mem_of_getElem? h')
    rw [List.zip_cons_cons, List.cons_append, List.zip_cons_cons]
    show (if n = f then (n, v) :: _ else (n, u) :: putF f v (ns.zip vs)) = _
    rw [if_neg hne, zip_snoc h' (List.nodup_cons.mp nd).2]
/-- what the top must have of a class with these fields -/
structure KCls (K : PySem.W.Frag) (L : Kl) (c : Nat) : Prop where
  cl : Cls K (L.cls c)
  nd : (L.nm c).Nodup
  no : ∀ f ∈ L.nm c, NoAttr K (L.cls c) f
  few : (L.nm c).length < 1000
/-- o.f -/
theorem ev_fld (j : Nat) (T : KCls X.K L c) (ho : EV X L ρ o (.obj c ds)) (hf : (L.nm c)[j]? = some f) (hd : ds[j]? = some d) (hb : attributeBase o f X.env (eval o X.env) = eval o X.env := by rfl) : EV X L ρ (.Attribute o f pos) d := .mk fun σ G0 H0 G H st Q k =>
  wE_of (pe_fld pe_w hb) (ho.run σ G0 H0 G H st _ fun v G1 H1 e1 r1 => by
    cases r1 with
    | obj hq hl hr =>
      obtain ⟨u, h1, h2⟩ := hr.get hd
      exact ⟨_, _, _, _, u, rfl, e1.gh _ _ hq, T.cl, T.no f (List.mem_of_getElem? hf), zip_look T.nd hf h1, k u G1 H1 e1 h2⟩)
/-- a method of the class c: what it makes of the object and the data -/
structure Mt (P : Program) (w : World) (K : PySem.W.Frag) (mg : Str → Option Value) (base : Heap) (L : Kl) (c : Nat) (m : Str) (k : Nat) (C : List D → D → Prop) : Prop where
  ex : ∃ (f : Addr) (fd : FuncData) (ps : List Str), FnOk P w K mg base CX0 k f fd ps (spC K L C) ∧ Meth K (L.cls c) m f ∧ Binds K fd ps []
/-- o.m(..) -/
theorem ev_meth {k : Nat} {C : List D → D → Prop} (T : KCls X.K L c) (F : Mt X.prog X.w X.K X.mg X.base L c m k C) (hr : Room k X.A) (ho : EV X L ρ o (.obj c ds)) (ha : EVs X L ρ (e :: es) rs) (hc : C (.obj c ds :: rs) d) (hm : m ∉ L.nm c)
    (hst : starEach (e :: es) X.env = (false, eval e X.env) :: starEach es X.env := by rfl) (hpl : (backTo pos (starEach es X.env)).any (·.1) = false := by rfl) {pl : Sem Bool}
    (ht : eval (.Call (.Attribute o m apos) (e :: es) [] pos) X.env = (do
      let ov ← eval o X.env
      standAt apos.atName
      let (f, first) ← holding [ov] (getMethod ov m pl)
      callWith pos f first (backTo pos (starEach (e :: es) X.env)) (backToKw pos (keywordEach [] X.env))) := by rfl) : EV X L ρ (.Call (.Attribute o m apos) (e :: es) [] pos) d := .mk fun σ G0 H0 G H st Q q => by
  obtain ⟨f, fd, ps, F1, hm1, hb⟩ := F.ex
  refine wE_of (pe_meth pe_w T.cl hm1 F1 hr hb .nil pass0 pa_w hst hpl ht) (ho.run σ G0 H0 G H st _ fun v G1 H1 e1 r1 => ?_)
  cases r1 with
  | @obj x dx c' vs ds' hq hl hr1 =>
    refine ⟨x, dx, _, rfl, e1.gh _ _ hq, zip_none hm, ha.run σ G0 H0 G1 H1 (st.step e1) _ fun us G2 H2 e2 r2 => ?_⟩
    refine ⟨G2, .obj c ds :: rs, d, e2.gh, .cons (.obj (e2.gg _ _ hq) hl (hr1.mono e2.gg)) (by rw [List.append_nil]; exact r2), hc, fun z G3 H3 e3 r3 => q z G3 H3 ((e1.trans e2).trans e3) r3⟩
/-- o.m() -/
theorem ev_meth0 {k : Nat} {C : List D → D → Prop} (T : KCls X.K L c) (F : Mt X.prog X.w X.K X.mg X.base L c m k C) (hr : Room k X.A) (ho : EV X L ρ o (.obj c ds)) (hc : C [.obj c ds] d) (hm : m ∉ L.nm c) {pl : Sem Bool}
    (ht : eval (.Call (.Attribute o m apos) [] [] pos) X.env = (do
      let ov ← eval o X.env
      standAt apos.atName
      let (f, first) ← holding [ov] (getMethod ov m pl)
      callWith pos f first (backTo pos (starEach [] X.env)) (backToKw pos (keywordEach [] X.env))) := by rfl) : EV X L ρ (.Call (.Attribute o m apos) [] [] pos) d := .mk fun σ G0 H0 G H st Q q => by
  obtain ⟨f, fd, ps, F1, hm1, hb⟩ := F.ex
  refine wE_of (pe_meth0 pe_w T.cl hm1 F1 hr hb .nil pass0 ht) (ho.run σ G0 H0 G H st _ fun v G1 H1 e1 r1 => ?_)
  cases r1 with
  | @obj x dx c' vs ds' hq hl hr1 =>
    refine ⟨x, dx, _, rfl, e1.gh _ _ hq, zip_none hm, ?_⟩
    exact ⟨G1, [.obj c ds], d, e1.gh, .cons (.obj hq hl hr1) .nil, hc, fun z G3 H3 e3 r3 => q z G3 H3 (e1.trans e3) r3⟩

/-! ### __init__ -/
/-- what an __init__ makes of data: the fields of the new object -/
def spI (K : PySem.W.Frag) (L : Kl) (c : Nat) (C : List D → List D → Prop) : Sp := fun vs H Q _ => ∃ G ds rs x dx vs', vs = .ref x :: vs' ∧ H x = some (.ins (L.cls c) dx []) ∧ Same G H ∧ G x = none ∧ RpA K L G vs' ds ∧ C ds rs ∧
  ∀ G' H' us dx', Ext G (del H x) G' H' → G' x = none → H' x = some (.ins (L.cls c) dx' ((L.nm c).zip us)) → (L.nm c).length = us.length → RpA K L G' us rs → Q .non H'
/-- self.f = e, the next field of the object -/
theorem sv_fld (i : Nat) {x : Str} {px : Pos} {q : Addr} (T : KCls X.K L c) (hi : ρ[i]? = some (.ob q c ds)) (he : EV X L ρ e d) (hf : (L.nm c)[ds.length]? = some f) (h : SV X L (ρ.set i (.ob q c (ds ++ [d]))) rest E) (hN : X.N[i]? = some x := by rfl)
    (hv : Vis X.env.scope x := by first | exact Or.inl rfl | exact Or.inr (Or.inl rfl) | exact Or.inr (Or.inr rfl)) (hdb : (x == ("__debug__" : Str)) = false := by decide) (hcd : (x == ("__classdict__" : Str)) = false := by decide)
    (hs : swapsWith e (some (.Attribute (.Name x px) f pos')) pos.line X.env = pure false := by rfl) : SV X L ρ (.Assign [.Attribute (.Name x px) f pos'] e pos :: rest) E := .mk fun σ G0 H0 G H st => by
  refine wSs_cons (wS_of (ps_fld (pe_var hN hv hdb hcd) pe_w hs) (he.run σ G0 H0 G H st _ fun v G1 H1 e1 r1 => ?_))
  have st1 := st.step e1
  obtain ⟨vs, k1, ⟨dx, k2⟩, k3, k4, k5, k6⟩ := st1.sl i _ hi
  have hσ := join_some k1
  have hlen := k5.length
  have hf' : (L.nm c)[vs.length]? = some f := by rw [hlen]; exact hf
  refine ⟨_, hσ, q, _, dx, _, rfl, k2, T.cl, T.no f (List.mem_of_getElem? hf), ?_, ?_⟩
  · rw [List.length_zip]
    have := T.few
    omega
  · refine h.run σ G0 H0 G1 _ (st1.updO (r' := .ob q c (ds ++ [d])) hi trivial trivial hσ fun n1 n2 => ⟨vs ++ [v], rfl, ⟨dx, ?_⟩, n1, n2, k5.append (.cons r1 .nil), ?_⟩)
    · rw [upd_same, zip_snoc hf' T.nd]
    · have := (List.getElem?_eq_some_iff.mp hf).1
      rw [List.length_append]
      exact this
end
section
variable {P : Program} {w : World} {K : PySem.W.Frag} {mg : Str → Option Value} {base : Heap} {L : Kl} {c : Nat}
theorem stI {N : List Str} {x dx : Addr} {vs : List V} {ds : List D} {G H : Hp} (s : Same G H) (hx : H x = some (.ins (L.cls c) dx [])) (hg : G x = none) (r : RpA K L G vs ds) : StOk K L G (del H x) (.ob x c [] :: (ds.map Sl.v ++ List.replicate (N.length - (ds.length + 1)) Sl.no)) (L2.start N (.ref x :: vs)) G H where
  ext := ⟨.refl _, s, fun b u q => by
    by_cases z : b = x
    · subst z
      rw [del_same] at q
      cases q
    · rw [del_ne z] at q
      exact q, fun _ h => .inl h⟩
  sl := fun i y hy => by
    unfold L2.start
    cases i with
    | zero =>
      cases (Option.some.inj hy)
      exact ⟨[], rfl, ⟨dx, by rw [List.zip_nil_right]; exact hx⟩, hg, del_same, .nil, Nat.zero_le _⟩
    | succ i =>
      have hy' : (ds.map Sl.v ++ List.replicate (N.length - (ds.length + 1)) Sl.no)[i]? = some y := hy
      show SlOk K L _ G H ((vs.map some ++ List.replicate (N.length - (vs.length + 1)) none)[i]?.join) y
      by_cases h : i < ds.length
      · rw [List.getElem?_append_left (by rw [List.length_map]; exact h), List.getElem?_map] at hy'
        rw [List.getElem?_append_left (by rw [List.length_map, r.length]; exact h), List.getElem?_map]
        cases q : ds[i]? with
        | none => rw [q] at hy'; cases hy'
        | some d =>
          rw [q] at hy'
          cases hy'
          obtain ⟨v, h1, h2⟩ := r.get q
          rw [h1]
          exact ⟨v, rfl, h2⟩
      · rw [List.getElem?_append_right (by rw [List.length_map]; omega), List.getElem?_replicate] at hy'
        split at hy'
        · cases hy'; trivial
        · cases hy'
  len := by
    unfold L2.start
    simp only [List.length_cons, List.length_append, List.length_map, List.length_replicate, r.length]
    omega
  dist := fun i j p r1 r2 h1 h2 o1 o2 _ _ => by
    have only : ∀ (i : Nat) (r : Sl), (Sl.ob x c [] :: (ds.map Sl.v ++ List.replicate (N.length - (ds.length + 1)) Sl.no))[i]? = some r → isOwn r → i = 0 := fun i r h o => by
      cases i with
      | zero => rfl
      | succ i =>
        have hm := List.mem_of_getElem? (show (ds.map Sl.v ++ List.replicate (N.length - (ds.length + 1)) Sl.no)[i]? = some r from h)
        rcases List.mem_append.mp hm with z | z
        · obtain ⟨_, _, q⟩ := List.mem_map.mp z
          rw [← q] at o
          exact o.elim
        · rw [(List.mem_replicate.mp z).2] at o
          exact o.elim
    rw [only i r1 h1 o1, only j r2 h2 o2]
/-- THE RULE for an __init__ over data -/
theorem init_ok {x qual : Str} {st : Stmt} {f : Addr} {fd : FuncData} {N ps : List Str} {k : Nat} {C : List D → List D → Prop} (F : DefT K x qual st ps f fd) (S : FnScope N ps (defScope st)) (len : ∀ ds rs, C ds rs → ds.length + 1 = ps.length) (flen : ∀ ds rs, C ds rs → rs.length = (L.nm c).length)
    (hbody : ∀ (cdv : Value) (A : Around) (outer : List Env) (s : Shared) (H : Hp) (E : XK), Room k (A.deeper (envOfC qual (defScope st) s.heap.objs.size f cdv)) → ∀ (q : Addr) ds rs, C ds rs →
      SV (cxOf CX0 P w K mg base N qual (defScope st) f cdv A outer s H E).nox L (.ob q c [] :: (ds.map Sl.v ++ List.replicate (N.length - (ds.length + 1)) Sl.no)) (defBody st) { nx := fun ρ => ρ[0]? = some (.ob q c rs), rt := fun _ => False }) : FnOk P w K mg base CX0 (k + 1) f fd ps (spI K L c C) := by
  obtain ⟨oc, od, dV, kV, doc, pm, an, cdv, ct, osl, rfl, lk, hcd⟩ := F.ex
  refine fn_of lk hcd S (fun vs H Q E ⟨G, ds, rs, x, dx, vs', e, _, _, _, hr, hc, _⟩ => by rw [e, List.length_cons, hr.length]; exact len ds rs hc) fun A outer s H vs Q E hr ⟨G, ds, rs, x, dx, vs', e, hx, sm, hg, rp, hc, q⟩ => ⟨_, PSs.nox pss_w, ?_⟩
  subst e
  have hh := (hbody cdv A outer s H E hr x ds rs hc).run (L2.start N (.ref x :: vs')) G (del H x) G H (stI sm hx hg rp)
  refine wSs_mono ?_ hh
  refine ⟨?_, ?_, ?_, ?_⟩
  · rintro σ' H' ⟨ρ', G', s', e⟩
    obtain ⟨us, k1, ⟨dx', k2⟩, k3, k4, k5, k6⟩ := s'.sl 0 _ e
    exact q G' H' us dx' s'.ext k3 k2 (by rw [k5.length, flen ds rs hc]) k5
  · rintro v H' (⟨d, G', x1, r1, e⟩ | ⟨_, _, _, _, _, _, _, _, _, _, e⟩)
    · exact e.elim
    · exact e.elim
  · rintro σ' H' ⟨_, _, _, q⟩
    exact q.elim
  · rintro σ' H' ⟨_, _, _, q⟩
    exact q.elim
/-- a class of the module with its __init__: C(..) makes of data an object with these fields (defaults filled up) -/
structure Mkr (P : Program) (w : World) (K : PySem.W.Frag) (mg : Str → Option Value) (base : Heap) (L : Kl) (x : Str) (c : Nat) (k : Nat) (C : List D → List D → Prop) : Prop where
  ex : ∃ (f : Addr) (fd : FuncData) (ps : List Str) (C0 : List D → List D → Prop) (dvs : List V) (us : List Value) (dds : List D), FnOk P w K mg base CX0 k f fd ps (spI K L c C0) ∧ Mk K (L.cls c) f ∧ mg x = some (.ref (L.cls c)) ∧ Binds K fd ps us ∧ Vals dvs us ∧
    (∀ G, RpA K L G dvs dds) ∧ ∀ ds rs, C ds rs → C0 (ds ++ dds) rs
end
section
variable {X : Cx} {L : Kl} {ρ : List Sl} {e : Expr} {es : List Expr} {ds rs : List D} {pos p : Pos} {c : Nat}
theorem made_ext {G1 H1 G' H' : Hp} {x dx dx' : Addr} {us : List V} (s : Same G1 H1) (hx : H1 x = none) (hdx : H1 dx = none) (hne : dx ≠ x) (e : Ext G1 (del (upd (upd H1 dx (.own x)) x (.ins (L.cls c) dx [])) x) G' H') (hg : G' x = none) (hh : H' x = some (.ins (L.cls c) dx' ((L.nm c).zip us))) :
    Ext G1 H1 (upd G' x (.ins (L.cls c) dx' ((L.nm c).zip us))) H' := by
  have sub : Same H1 (del (upd (upd H1 dx (.own x)) x (.ins (L.cls c) dx [])) x) := fun b u q => by
    have z1 : b ≠ x := ne_of_none q hx
    rw [del_ne z1, upd_ne z1, upd_ne (ne_of_none q hdx)]
    exact q
  refine ⟨e.gg.trans (same_new hg _), fun b u q => ?_, sub.trans e.hh, fun b hb => ?_⟩
  · by_cases z : b = x
    · subst z
      rw [upd_same] at q
      rw [hh]
      exact q
    · rw [upd_ne z] at q
      exact e.gh _ _ q
  · by_cases z : b = x
    · subst z
      exact .inr hx
    · rw [upd_ne z] at hb
      rcases e.nw b hb with q | q
      · exact .inl q
      · exact .inr (sub.free q)
theorem ev_make {x : Str} {k : Nat} {C : List D → List D → Prop} (F : Mkr X.prog X.w X.K X.mg X.base L x c k C) (hr : Room (k + 1) X.A) (ha : EVs X L ρ (e :: es) ds) (hc : C ds rs) (hg : Gl X x := by rfl) (hdb : (x == ("__debug__" : Str)) = false := by decide)
    (he : starEach (e :: es) X.env = (false, eval e X.env) :: starEach es X.env := by rfl) (hpl : (backTo pos (starEach es X.env)).any (·.1) = false := by rfl) : EV X L ρ (.Call (.Name x p) (e :: es) [] pos) (.obj c rs) := .mk fun σ G0 H0 G H st Q k => by
  obtain ⟨f, fd, ps, C0, dvs, us, dds, F1, M, hm, hb, hv, hdd, hC⟩ := F.ex
  refine wE_of (pe_make M F1 hr hg hm hb hv pass0 pa_w hdb he hpl) (ha.run σ G0 H0 G H st _ fun vs G1 H1 e1 r1 => fun x' dx' nx ndx nex => ?_)
  refine ⟨G1, ds ++ dds, rs, x', dx', vs ++ dvs, rfl, upd_same, ?_, e1.gh.free nx, r1.append (hdd G1), hC ds rs hc, fun G' H' us' dx'' ex hgx hhx hlx hrx => ⟨rfl, ?_⟩⟩
  · exact (e1.gh.trans (same_new ndx _)).trans (same_new (by rw [upd_ne nex.symm]; exact nx) _)
  · have ex2 := made_ext (L := L) (c := c) e1.gh nx ndx nex ex hgx hhx
    exact k _ _ _ (e1.trans ex2) (.obj upd_same hlx (hrx.mono (same_new hgx _)))
end
end Z

namespace Z
open PySem PySem.Spec PyProof.Rows L2

/-! ### a class without an __init__ -/
structure Bare (K : PySem.W.Frag) (mg : Str → Option Value) (L : Kl) (x : Str) (c : Nat) : Prop where
  makes : PySem.W.makesIn K (L.cls c) = true
  init : PySem.W.findIn K (.ref (L.cls c)) "__init__" = some (some (.builtin "object.__init__"))
  kp : PySem.W.keepIn K (.ref (L.cls c)) = true
  at_ : mg x = some (.ref (L.cls c))
  none : L.nm c = []
section
variable {X : Cx} {L : Kl} {ρ : List Sl} {pos p : Pos} {c : Nat} {pins : List (Addr × Obj)} {σ : L2.St} {H : Hp} {s : Shared}
theorem run_bare {C : Addr} {Q : VK} (I : Inv X pins σ H s) (hm : PySem.W.makesIn X.K C = true) (hi : PySem.W.findIn X.K (.ref C) "__init__" = some (some (.builtin "object.__init__")))
    (q : ∀ x dx, H x = none → H dx = none → dx ≠ x → Q (.ref x) (upd (upd H dx (.own x)) x (.ins C dx []))) : wpAny (model X.prog X.w) X.A (call (.ref C) []) (EP X pins σ Q) X.xe s := by
  have hq := q (s.heap.objs.size + 1) s.heap.objs.size (I.hok.fresh (Nat.le_succ _)) (I.hok.fresh (Nat.le_refl _)) (Nat.ne_of_lt (Nat.lt_succ_self _))
  have I2 := Inv.made (C := C) I
  have Y := PySem.W.makes_of (M := model X.prog X.w) I.kIn hm
  have g2 : ((s.heap.push PySem.W.emptyDict).push (PySem.W.instObj C s.heap.objs.size)).get? (s.heap.objs.size + 1) = some (PySem.W.instObj C s.heap.objs.size) := by
    have h0 := Heap.get?_push_size (s.heap.push PySem.W.emptyDict) (o := PySem.W.instObj C s.heap.objs.size) rfl
    rw [Heap.size_push] at h0
    exact h0
  have l1 : PySem.W.Looks (model X.prog X.w) ((s.heap.push PySem.W.emptyDict).push (PySem.W.instObj C s.heap.objs.size)) (typeOf (.ref (s.heap.objs.size + 1))) (.ref C) := (PySem.W.Looks.ld g2).andThen .now
  have l2 : PySem.W.Looks (model X.prog X.w) ((s.heap.push PySem.W.emptyDict).push (PySem.W.instObj C s.heap.objs.size)) (isInstance (.ref (s.heap.objs.size + 1)) (.type "object")) true :=
    l1.andThen (Y.top.keeps fun b o z => Heap.get?_push_of_some _ (Heap.get?_push_of_some _ z))
  refine wpAny_call (make_map0 I.kIn hm hi (fun self => PySem.W.Looks.of_pure (PySem.W.oi_bind self)) ?_)
  refine codeAny_call_builtin PySem.W.oi_plain PySem.W.entry_oi (@PySem.W.check_slot (model X.prog X.w) _ _ _ "object.__init__" "object" "__init__" (.ref (s.heap.objs.size + 1)) [] [] _ PySem.W.oi_kind PySem.W.oi_split l2 (PySem.W.oi_args (.ref (s.heap.objs.size + 1))) ?_)
  rw [PySem.W.oi_run]
  exact wpAny_pure ⟨rfl, ⟨.ref (s.heap.objs.size + 1), _, I2, rfl, hq⟩⟩
/-- C() -/
theorem ev_bare {x : Str} (B : Bare X.K X.mg L x c) (hg : Gl X x := by rfl) (hdb : (x == ("__debug__" : Str)) = false := by decide) : EV X L ρ (.Call (.Name x p) [] [] pos) (.obj c []) := .mk fun σ G0 H0 G H st Q k => fun pins s I => by
  refine wpAny_Call_Name_kw (ld_glob I hg B.at_ ?_ hdb)
  refine PySem.W.callWith_K0 I.kIn B.kp (run_bare I B.makes B.init fun x' dx nx ndx nex => ?_)
  have hz : (L.nm c).zip ([] : List V) = [] := List.zip_nil_right
  refine k _ (upd G x' (.ins (L.cls c) dx [])) _ ⟨same_new (st.same.free nx) _, fun b u q => ?_, (same_new ndx _).trans (same_new (by rw [upd_ne nex.symm]; exact nx) _), fun b hb => ?_⟩ (.obj (dx := dx) (vs := []) (by rw [upd_same, hz]) (by rw [B.none]; rfl) .nil)
  · by_cases z : b = x'
    · subst z
      rw [upd_same] at q ⊢
      exact q
    · rw [upd_ne z] at q ⊢
      rw [upd_ne (ne_of_none (st.same _ _ q) ndx)]
      exact st.same _ _ q
  · by_cases z : b = x'
    · subst z
      exact .inr nx
    · rw [upd_ne z] at hb
      exact .inl hb
end
end Z

namespace Z
open PySem PySem.Spec PyProof.Rows L2

/-! ### list(range(lo, hi)), of numbers of any size -/
section
variable {pr : Program} {wd : World} {B : Around} {er : Value → Shared → Prop} {u : Shared}
theorem extendLong {R : Result → Shared → Prop} {q : Addr} {x y z : Int} {t1 t2 t3 : Tok} {n : Nat} (hb : B.handled = none) (hq : IsRange u.heap q x y z t1 t2 t3) (hbig : Builtin.Range.small x y z = false) (hsz : Builtin.Range.rangeSize x y z = n) (hfew : n ≤ 2 ^ 24)
    (T : Addr) (ans : Value) (k0 : Nat) (hT : u.heap.get? T = some { cls := .type "list", data := .seq #[] k0 })
    (fin : ∀ g tk its k, (∀ b o, b ≠ T → u.heap.get? b = some o → g.get? b = some o) → g.get? T = some { cls := .type "list", dict := none, data := .seq its k, slots := #[] } → ItemsOf (fun i v => ∃ t, v = .int (x + i * z) t) its n → R (.ok (.ret ans)) { u with heap := g, toks := tk }) :
    wpAny (model pr wd) B.in1 (Builtin.List.listExtendWith (.ref T) (.ref q) ans) (fun w u' => match w with | .done f => R (.ok f) u' | .again c => c.quiet = true ∧ codeAny (model pr wd) B c R u') (fun e u' => R (.error e) u') u := by
  have n1 : T ≠ q := fun e => by rw [e, hq] at hT; simp at hT
  have n2 : T ≠ u.heap.objs.size := Nat.ne_of_lt (Heap.lt_size hT)
  have W := (Walks.longrange (prog := pr) (w := wd) (A := B.in1) hb u.heap.objs.size x z n).toS
  have go : ∀ (g : Heap) (k1 tk : Nat), IsLongIter g u.heap.objs.size (x + ((0 : Nat) : Int) * z) ((n : Int) - ((0 : Nat) : Int)) z → (∀ b o, b ≠ T → u.heap.get? b = some o → g.get? b = some o) → g.get? T = some { cls := .type "list", data := .seq #[] k1 } →
      codeAny (model pr wd) B (.builtin "list.extend.loop" ⟨[.ref T, .ref u.heap.objs.size, ans], []⟩) R { u with heap := g, toks := tk } := by
    intro g k1 tk hi hk hT1
    refine codeAny_extend_loopS W (by rw [sizeLine_eq]; omega) T (fun hm => n2 (List.mem_singleton.mp hm)) ans n 0 _ #[] k1 rfl (Nat.zero_le _) hi hT1 (ItemsOf.nil _) fun u' its k' mv hT' hits => ?_
    rw [Moved.eq_with mv]
    refine fin u'.heap u'.toks its k' (fun b o hne e => mv.heap b o (fun hm => ?_) (hk b o hne e)) hT' hits
    rcases List.mem_cons.mp hm with e' | hm
    · exact hne e'
    · have := Heap.lt_size e
      rw [List.mem_singleton.mp hm] at this
      exact Nat.lt_irrefl _ this
  unfold Builtin.List.listExtendWith
  refine wpAny_bind (wpAny_typeOf (T := "range") ⟨_, hq, rfl⟩ ?_)
  have c1 : Builtin.List.listSameRef (.ref T) (.ref q) = false := by simp [Builtin.List.listSameRef, n1]
  simp only [c1, show (Value.type "range" == Value.type "list") = false by decide, show (Value.type "range" == Value.type "tuple") = false by decide, Bool.or_false, Bool.false_eq_true, if_false]
  refine wpAny_bind (wpAny_pyIter_longrange hq hbig ?_)
  refine wpAny_bind (wpAny_holding (wpAny_hint_range (n := n) (Heap.get?_push_of_some _ hq) hsz hfew ?_))
  have hi1 : IsLongIter (u.heap.push { cls := .type "longrange_iterator", data := .fields #[rawInt x, rawInt (Builtin.Range.rangeSize x y z), rawInt z] }) u.heap.objs.size (x + ((0 : Nat) : Int) * z) ((n : Int) - ((0 : Nat) : Int)) z := by
    show IsLongIter _ _ _ _ _
    rw [hsz]
    simpa using Heap.get?_push_size _ rfl
  have hT1 := Heap.get?_push_of_some { cls := .type "longrange_iterator", data := .fields #[rawInt x, rawInt (Builtin.Range.rangeSize x y z), rawInt z] } hT
  refine wpAny_ite_split (fun _ => ?_) (fun _ => wpAny_pure ⟨plainId_quiet F.plain_extend_loop _, go _ k0 _ hi1 (fun b o _ e => Heap.get?_push_of_some _ e) hT1⟩)
  refine wpAny_bind (wpAny_rule (wpAny_bind ?_))
  show wpAny _ _ (updateSeq T (·.push .none) >>= fun _ => updateSeq T (·.pop)) _ _ _
  refine wpAny_bind (wpAny_updateSeq hT1 rfl ?_)
  have hT2 := Heap.get?_update_self (Obj.mapSeq (·.push Value.none)) hT1 rfl
  refine wpAny_updateSeq (hz := by seq_fits) hT2 rfl ?_
  have hT3 := Heap.get?_update_self (Obj.mapSeq (·.pop)) hT2 rfl
  refine wpAny_pure ⟨plainId_quiet F.plain_extend_loop _, go _ _ _ ?_ (fun b o hne e => ?_) hT3⟩
  · exact (Heap.get?_update_other _ _ n2).trans ((Heap.get?_update_other _ _ n2).trans hi1)
  · exact (Heap.get?_update_other _ _ hne.symm).trans ((Heap.get?_update_other _ _ hne.symm).trans (Heap.get?_push_of_some _ e))
theorem initLong {R : Result → Shared → Prop} {q : Addr} {x y z : Int} {t1 t2 t3 : Tok} {n : Nat} (hb : B.handled = none) (hq : IsRange u.heap q x y z t1 t2 t3) (hbig : Builtin.Range.small x y z = false) (hsz : Builtin.Range.rangeSize x y z = n) (hfew : n ≤ 2 ^ 24)
    (T : Addr) (hT : u.heap.get? T = some { cls := .type "list", data := .seq #[] })
    (fin : ∀ g tk its k, (∀ b o, b ≠ T → u.heap.get? b = some o → g.get? b = some o) → g.get? T = some { cls := .type "list", dict := none, data := .seq its k, slots := #[] } → ItemsOf (fun i v => ∃ t, v = .int (x + i * z) t) its n → R (.ok (.ret .none)) { u with heap := g, toks := tk }) :
    wpAny (model pr wd) B.in1 (Builtin.«list.__init__» ⟨[.ref T, .ref q], []⟩) (fun w u' => match w with | .done f => R (.ok f) u' | .again c => c.quiet = true ∧ codeAny (model pr wd) B c R u') (fun e u' => R (.error e) u') u := by
  have n1 : T ≠ q := fun e => by rw [e, hq] at hT; simp at hT
  show wpAny _ _ (do
    let was ← Builtin.List.listItems (.ref T)
    Builtin.List.listUpdate (.ref T) (fun _ => #[])
    letGo was.toList.reverse
    Builtin.List.listExtendWith (.ref T) (.ref q) .none) _ _ u
  refine wpAny_bind ?_
  unfold Builtin.List.listItems
  refine wpAny_bind (wpAny_seqItems hT rfl (wpAny_pure ?_))
  show wpAny _ _ (updateSeq T (fun _ => #[]) >>= fun _ => letGo (#[] : Array Value).toList.reverse >>= fun _ => Builtin.List.listExtendWith (.ref T) (.ref q) .none) _ _ u
  refine wpAny_bind (wpAny_updateSeq hT rfl ?_)
  have hT2 := Heap.get?_update_self (Obj.mapSeq (fun _ => (#[] : Array Value))) hT rfl
  have keep : ∀ b o, b ≠ T → u.heap.get? b = some o → (u.heap.update T (Obj.mapSeq (fun _ => (#[] : Array Value)))).get? b = some o := fun b o hne e => (Heap.get?_update_other _ _ hne.symm).trans e
  refine wpAny_bind (wpAny_letGo (extendLong hb (keep q _ n1.symm hq) hbig hsz hfew T .none _ hT2 fun g tk its k hk hT' hits => ?_))
  exact fin g tk its k (fun b o hne e => hk b o hne (keep b o hne e)) hT' hits
theorem listOfRange {Q : Value → Shared → Prop} {q : Addr} {x y z : Int} {t1 t2 t3 : Tok} {n : Nat} (hb : B.handled = none) (hq : IsRange u.heap q x y z t1 t2 t3) (hsz : Builtin.Range.rangeSize x y z = n) (hfew : n ≤ 2 ^ 24)
    (fin : ∀ g tk its k, (∀ b o, u.heap.get? b = some o → g.get? b = some o) → g.get? u.heap.objs.size = some { cls := .type "list", dict := none, data := .seq its k, slots := #[] } → ItemsOf (fun i v => ∃ t, v = .int (x + i * z) t) its n → Q (.ref u.heap.objs.size) { u with heap := g, toks := tk }) :
    wpAny (model pr wd) B (call (.type "list") [.ref q]) Q er u := by
  cases hs : Builtin.Range.small x y z with
  | true => exact call_list_range hb hq hs hsz hfew fin
  | false =>
    refine callType_codes (Q₁ := fun v u1 => v = .ref u.heap.objs.size ∧ u1 = { u with heap := u.heap.push { cls := .type "list", data := .seq #[] } }) F.called_list (F.typeCall_list_1 _) F.entry_list_init (code_list_new _ ⟨rfl, rfl⟩) fun v u1 h1 => ?_
    obtain ⟨rfl, rfl⟩ := h1
    have hT : (u.heap.push { cls := .type "list", data := .seq #[] }).get? u.heap.objs.size = some { cls := .type "list", data := .seq #[] } := Heap.get?_push_size _ rfl
    refine ⟨⟨_, hT, rfl⟩, F.args_list_init_2 _ _, initLong (B := B.in1) hb (Heap.get?_push_of_some _ hq) hs hsz hfew _ hT fun g tk its k hk hT' hits => ?_⟩
    exact ⟨rfl, fin g tk its k (fun b o e => hk b o (Nat.ne_of_lt (Heap.lt_size e)) (Heap.get?_push_of_some _ e)) hT' hits⟩
end

theorem vals_items {a : Int} {its : Array Value} {n : Nat} (h : ItemsOf (fun i v => ∃ t, v = .int (a + i * 1) t) its n) : Vals (((List.range n).map fun i : Nat => a + (i : Int)).map V.int) its.toList := by
  have key : ∀ (l : List Value) (k : Nat), (∀ j v, l[j]? = some v → ∃ t, v = Value.int (a + ((k + j : Nat) : Int)) t) → Vals (((List.range' k l.length).map fun i : Nat => a + (i : Int)).map V.int) l := by
    intro l
    induction l with
    | nil => intro k _; exact .nil
    | cons v r ih =>
      intro k h
      rw [List.length_cons, List.range'_succ, List.map_cons, List.map_cons]
      refine .cons ?_ (ih (k + 1) fun j w hj => ?_)
      · obtain ⟨t, e⟩ := h 0 v rfl
        exact ⟨t, e⟩
      · obtain ⟨t, e⟩ := h (j + 1) w (by simpa using hj)
        exact ⟨t, by rw [e, show k + (j + 1) = k + 1 + j by omega]⟩
  have h0 := key its.toList 0 (fun j v hj => by
    obtain ⟨t, e⟩ := h.2 j v (by simpa using hj)
    exact ⟨t, by rw [e, Int.mul_one, Nat.zero_add]⟩)
  have hl : its.toList.length = n := by rw [Array.length_toList]; exact h.1
  rw [hl, ← List.range_eq_range'] at h0
  exact h0
section
variable {X : Cx} {L : Kl} {ρ : List Sl} {e a b c o tg : Expr} {es rs : List Expr} {d da db : D} {ds : List D} {pos p pos' p2 p3 : Pos} {E : En} {rest body els : List Stmt} {t u : Bool}
abbrev intsFrom (lo : Int) (n : Nat) : List Int := (List.range n).map fun i : Nat => lo + (i : Int)
theorem call_rngO : CallR X (.type "range") (fun xs H Q => ∃ i j : Int, xs = [.int i, .int j] ∧ ∀ q, H q = none → Q (.ref q) (upd H q (.rng i j))) := by
  intro pins s σ H xs us Q I r ⟨i, j, e, q⟩
  subst e
  obtain ⟨v, w', rfl, r1, r2⟩ := vals2 r
  obtain ⟨t1, rfl⟩ := r1
  obtain ⟨t2, rfl⟩ := r2
  refine call_range_2 ⟨.ref s.heap.objs.size, _, I.laid (t' := s.toks + 1) (o := .rng i j) (fun b ob hb => Heap.get?_push_of_some _ hb) (Nat.le_refl _) ?_, rfl, q _ (I.hok.fresh (Nat.le_refl _))⟩
  exact ⟨_, _, _, Heap.get?_push_size _ rfl⟩
theorem call_listR (hc : X.calm = true) : CallR X (.type "list") (fun xs H Q => ∃ q i j, xs = [.ref q] ∧ H q = some (.rng i j) ∧ (j - i).toNat ≤ 2 ^ 24 ∧ ∀ l, H l = none → Q (.ref l) (upd H l (.lst ((intsFrom i (j - i).toNat).map V.int)))) := by
  intro pins s σ H xs us Q I r ⟨q, i, j, e, hq, hn, k⟩
  subst e
  obtain ⟨v, rfl, rx⟩ := vals1 r
  cases rx
  obtain ⟨t1, t2, t3, ho⟩ := I.hok q _ hq
  refine listOfRange (n := (j - i).toNat) (I.ok.hd hc) ho (by rw [rangeSize_one]; split <;> omega) hn fun g tk its k' kp e hits => ?_
  refine ⟨.ref s.heap.objs.size, _, I.laid (t' := tk) (o := .lst ((intsFrom i (j - i).toNat).map V.int)) kp (Nat.le_refl _) ?_, rfl, k _ (I.hok.fresh (Nat.le_refl _))⟩
  refine ⟨?_, its.toList, k', vals_items hits, by simpa using e⟩
  rw [List.length_map, List.length_map, List.length_range, sizeLine_eq]
  omega
theorem el_listRange {i j : Int} {x y : Str} (ha : EV X L ρ a (.int i)) (hb : EV X L ρ b (.int j)) (hn : (j - i).toNat ≤ 2 ^ 24) (hmx : X.mg x = none) (hmy : X.mg y = none) (hx : x = "list" := by rfl) (hy : y = "range" := by rfl) (hgx : Gl X x := by rfl) (hgy : Gl X y := by rfl) (hc : X.calm = true := by rfl)
    (he : starEach [a, b] X.env = (false, eval a X.env) :: starEach [b] X.env := by rfl) (he2 : starEach [b] X.env = (false, eval b X.env) :: starEach [] X.env := by rfl) (hpl : (backTo p3 (starEach [b] X.env)).any (·.1) = false := by rfl) :
    EL X L ρ (.Call (.Name x p) [.Call (.Name y p2) [a, b] [] p3] [] pos) ((intsFrom i (j - i).toNat).map .int) := .mk fun σ G0 H0 G H st Q k => by
  subst hx hy
  refine wE_of (pe_callTy (call_listR hc) hgx hmx (by decide +kernel) (pa_cons (pe_callTy call_rngO hgy hmy (by decide +kernel) (pa_cons pe_w (pa_cons pe_w pa_nil he2) he) (he := he) (hpl := hpl)) pa_nil rfl)) ?_
  refine ha.run σ G0 H0 G H st _ fun v G1 H1 e1 r1 => hb.run σ G0 H0 G1 H1 (st.step e1) _ fun w' G2 H2 e2 r2 => ?_
  cases r1
  cases r2
  refine ⟨i, j, rfl, fun q hq => ⟨q, i, j, rfl, upd_same, hn, fun l hl => ?_⟩⟩
  have hne : l ≠ q := fun z => by rw [z, upd_same] at hl; cases hl
  have hl2 : H2 l = none := by rw [upd_ne hne] at hl; exact hl
  have e3 := e1.trans e2
  have hG2 : G2 l = none := e3.gh.free hl2
  refine k l _ G2 _ ⟨e3.gg, (e3.gh.trans (same_new hq _)).trans (same_new hl _), (e3.hh.trans (same_new hq _)).trans (same_new hl _), e3.nw⟩ (e3.hh.free hl2) hG2 upd_same (RpA.ints _)
/-! ### for over range(lo, hi); range in a comprehension -/
theorem intsFrom_len (lo : Int) (n : Nat) : ((intsFrom lo n).map D.int).length = n := by rw [List.length_map, List.length_map, List.length_range]
theorem intsFrom_at {lo : Int} {n i : Nat} (h : i < n) : ((intsFrom lo n).map D.int)[i]? = some (.int (lo + i)) := by
  rw [List.getElem?_map, List.getElem?_map, List.getElem?_range h]
  rfl
theorem src_itr {lo : Int} {n : Nat} {G H G1 H1 : Hp} (e1 : Ext G H G1 H1) : SrcP X L G H ((intsFrom lo n).map .int) (Itr lo n) H1 := by
  refine ⟨G1, e1, fun H' i _ hi => ?_, fun G' H' H'' i y hi sm sm' hy => ?_, fun H' i _ hi => ?_⟩
  · rw [intsFrom_len] at hi
    exact hi
  · rw [intsFrom_len] at hi
    obtain ⟨rfl, rfl⟩ := hy
    exact ⟨G', _, .refl sm', intsFrom_at hi, .int _⟩
  · rw [intsFrom_len] at hi
    exact hi
theorem src_range {x : Str} {n : Int} (ha : EV X L ρ a (.int n)) (hn : -(2 ^ 62) ≤ n ∧ n < 2 ^ 62) (hm : X.mg x = none) (hx : x = "range" := by rfl) (hgl : Gl X "range" := by rfl) (hst : starEach [a] X.env = [(false, eval a X.env)] := by rfl) :
    Src X L ρ tg (.Call (.Name x p) [a] [] p2) ((intsFrom 0 n.toNat).map .int) := .mk fun σ G0 H0 G H st pins s I => by
  subst hx
  refine pi_range1 hgl hm (pa_cons pe_w pa_nil hst) hst pins s σ H _ I (ha.run σ G0 H0 G H st _ fun v G1 H1 e1 r1 => ?_)
  cases r1
  exact ⟨n, rfl, hn.1, hn.2, src_itr e1⟩
theorem src_range2 {x : Str} {m n : Int} (ha : EV X L ρ a (.int m)) (hb : EV X L ρ b (.int n)) (hm' : -(2 ^ 62) ≤ m ∧ m < 2 ^ 62) (hn : -(2 ^ 62) ≤ n ∧ n < 2 ^ 62) (hm : X.mg x = none) (hx : x = "range" := by rfl) (hgl : Gl X "range" := by rfl) (hst : starEach [a, b] X.env = [(false, eval a X.env), (false, eval b X.env)] := by rfl) (hst2 : starEach [b] X.env = [(false, eval b X.env)] := by rfl) :
    Src X L ρ tg (.Call (.Name x p) [a, b] [] p2) ((intsFrom m (n - m).toNat).map .int) := .mk fun σ G0 H0 G H st pins s I => by
  subst hx
  refine pi_range2 hgl hm (pa_cons pe_w (pa_cons pe_w pa_nil hst2) (by rw [hst, hst2])) hst hst2 pins s σ H _ I (ha.run σ G0 H0 G H st _ fun v G1 H1 e1 r1 => hb.run σ G0 H0 G1 H1 (st.step e1) _ fun w' G2 H2 e2 r2 => ?_)
  cases r1
  cases r2
  exact ⟨m, n, rfl, ⟨hm'.1, hm'.2, hn.1, hn.2⟩, src_itr (e1.trans e2)⟩
/-- for x in range(m, n) -/
theorem sv_for_range2 {f : D → List Sl → List Sl} {ok : D → Prop} {x : Str} {m n : Int} (Iv : Nat → List Sl → Prop) (ha : EV X L ρ a (.int m)) (hb : EV X L ρ b (.int n)) (hm' : -(2 ^ 62) ≤ m ∧ m < 2 ^ 62) (hn : -(2 ^ 62) ≤ n ∧ n < 2 ^ 62) (hm : X.mg x = none) (hx : x = "range") (hg : GV X L tg f ok) (hok : ∀ i : Int, ok (.int i)) (h0 : Iv 0 ρ)
    (hs : ∀ (i : Nat) (ρ' : List Sl), i < (n - m).toNat → Iv i ρ' → SV X L (f (.int (m + i)) ρ') body { nx := Iv (i + 1), ct := Iv (i + 1), bk := fun ρ'' => SV X L ρ'' rest E, rt := E.rt, rl := E.rl })
    (hd : ∀ ρ', Iv (n - m).toNat ρ' → SV X L ρ' rest E) (hgl : Gl X "range" := by rfl) (hst : starEach [a, b] X.env = [(false, eval a X.env), (false, eval b X.env)] := by rfl) (hst2 : starEach [b] X.env = [(false, eval b X.env)] := by rfl) (hp : PassesOwn (model X.prog X.w) X.A X.env X.xe := by exact PassesOwn.never) (hc : X.calm = true := by rfl)
    (hfs : ∀ x, foldedSetIterable (.Call (.Name "range" p) [a, b] [] p2) X.env x = pure x := by intro _; rfl) : SV X L ρ (.For tg (.Call (.Name x p) [a, b] [] p2) body [] pos :: rest) E := .mk fun σ G0 H0 G H st => by
  subst hx
  obtain ⟨g, pg, qg⟩ := hg
  refine wSs_cons (wS_of (ps_for hp hc (pi_range2 hgl hm (pa_cons pe_w (pa_cons pe_w pa_nil hst2) (by rw [hst, hst2])) hst hst2) pg pss_w hfs) (ha.run σ G0 H0 G H st _ fun v Ga Ha ea ra => hb.run σ G0 H0 Ga Ha (st.step ea) _ fun v' G1 H1 eb rb => ?_))
  cases ra
  cases rb
  have st1 := st.step (ea.trans eb)
  refine ⟨m, n, rfl, ⟨hm'.1, hm'.2, hn.1, hn.2⟩, for_range (lo := m) (n := (n - m).toNat) (fun i σ' H' => ∃ ρ' G', StOk X.K L G1 H0 ρ' σ' G' H' ∧ Iv i ρ') ⟨ρ, G1, st1.rebase, h0⟩ ?_ ?_⟩
  · rintro i σ' H' hi ⟨ρ', G', s', iv⟩
    refine qg (.int (m + i)) ρ' σ' G1 H0 G' H' _ (hok _) s' (.int _) _ fun σ2 s2 => ?_
    have hh := (hs i ρ' hi iv).run σ2 G1 H0 G' H' s2
    refine wSs_mono ?_ hh
    refine ⟨fun _ _ q => q, ?_, ?_, fun _ _ q => q⟩
    · rintro v' H'' q
      exact retPre st1.ext q
    · rintro σ3 H3 ⟨ρ3, G3, s3, q3⟩
      exact q3.run σ3 G0 H0 G3 H3 (s3.unbase st1.ext)
  · rintro σ' H' ⟨ρ', G', s', iv⟩
    exact (hd ρ' iv).run σ' G0 H0 G' H' (s'.unbase st1.ext)
/-! ### while -/
/-! ### // by a divisor of many figures -/
def CDivB (_ j : Int) : Prop := 0 < j ∧ j < 2 ^ 1024
theorem op_fdivB : OpR X (binaryOp .FloorDiv) (rI CDivB fun i j => .int (i / j)) := opI fun i j _ _ _ _ _ hc q => by
  have h1 : (0 : Int) < j := hc.1
  have h2 : j < 2 ^ 1024 := hc.2
  have h3 : j.natAbs.log2 < 9000 := by
    have h4 : j.natAbs < 2 ^ 1024 := by omega
    have : j.natAbs.log2 < 1024 := (Nat.log2_lt (by omega)).mpr h4
    omega
  exact floordiv_int (by omega) (by rw [Int.fdiv_eq_ediv_of_nonneg i (by omega)]; exact q) (.inl (PyProof.noPylong_of_log2 h3))
theorem ev_fdivB {i j : Int} (ha : EV X L ρ a (.int i)) (hb : EV X L ρ b (.int j)) (h1 : 0 < j) (h2 : j < 2 ^ 1024) : EV X L ρ (.BinOp a .FloorDiv b pos) (.int (i / j)) := ev_op op_fdivB (op2C (f := fun i j => i / j) ⟨h1, h2⟩) ha hb
/-- products of numbers of some hundred figures -/
theorem mulB {i j : Int} (h1 : -(2 ^ 1024) < i) (h2 : i < 2 ^ 1024) (h3 : -(2 ^ 1024) < j) (h4 : j < 2 ^ 1024) : IntMulOk i j := by
  have hb : ∀ k : Int, -(2 ^ 1024) < k → k < 2 ^ 1024 → Builtin.Int.intBits k ≤ 1024 := fun k a b => by
    unfold Builtin.Int.intBits
    split
    · exact Nat.zero_le _
    · have hn : k.natAbs < 2 ^ 1024 := by omega
      have : k.natAbs.log2 < 1024 := by
        rcases Nat.eq_zero_or_pos k.natAbs with h0 | hp
        · rw [h0]; decide
        · exact (Nat.log2_lt (Nat.ne_of_gt hp)).mpr hn
      omega
  exact PyProof.Rows.mulOk_of_bits (hb i h1 h2) (hb j h3 h4) (by decide)
/-! ### t < u of cells -/
/-! ### x.extend(a new list), x of the def's own -/
theorem sv_extend (i : Nat) {x : Str} {apos cpos px : Pos} {ds' : List D} (hi : ρ[i]? = some (.own ds)) (he : EL X L ρ e ds') (hl : ds.length + ds'.length ≤ sizeLine) (h : SV X L (ρ.set i (.own (ds ++ ds'))) rest E) (hN : X.N[i]? = some x := by rfl)
    (hv : Vis X.env.scope x := by first | exact Or.inl rfl | exact Or.inr (Or.inl rfl) | exact Or.inr (Or.inr rfl)) (hd : (x == ("__debug__" : Str)) = false := by decide) (hcd : (x == ("__classdict__" : Str)) = false := by decide)
    (hbase : attributeBase (.Name x px) "extend" X.env (eval (.Name x px) X.env) = eval (.Name x px) X.env := by rfl)
    (hfew : ((backTo cpos (starEach [e] X.env)).all (fun x => !x.1) && (backToKw cpos (keywordEach [] X.env)).all (fun x => x.1.isSome)
      && decide (([e] : List Expr).length + ([] : List Keyword).length + (if ([] : List Keyword).isEmpty then 0 else 1) < 30)) = true := by rfl)
    (hline : (apos.endLine == cpos.line) = true := by rfl) (hst : starEach [e] X.env = [(false, eval e X.env)] := by rfl) (hpl : (backTo cpos (starEach [] X.env)).any (·.1) = false := by rfl)
    (hsw : swapsWith (.Call (.Attribute (.Name x px) "extend" apos) [e] [] cpos) none pos.line X.env = pure false := by rfl) :
    SV X L ρ (.Expr (.Call (.Attribute (.Name x px) "extend" apos) [e] [] cpos) pos :: rest) E := .mk fun σ G0 H0 G H st => by
  obtain ⟨q, vs, h1, h2, h3, h4, h5⟩ := st.sl i _ hi
  have hσ := join_some h1
  refine wSs_cons (wS_of (ps_expr (pe_bm PySem.F.plainAttrs_list PySem.F.slot_list_extend PySem.F.type_list_extend mt_extend (pe_var hN hv hd hcd) (pa_cons pe_w pa_nil hst) hbase hfew hline hst hpl) hsw) ?_)
  refine ⟨_, hσ, .inl ⟨rfl, _, SqL.of h2⟩, he.run σ G0 H0 G H st _ fun l ws G1 H1 e1 l1 l2 l3 r1 => ?_⟩
  have st1 := st.step e1
  obtain ⟨q', vs', k1, k2, k3, k4, k5⟩ := st1.sl i _ hi
  have hσ' := join_some k1
  rw [hσ] at hσ'
  cases hσ'
  refine ⟨q, l, vs', ws, rfl, rfl, k2, l3, by rw [k5.length, r1.length]; exact hl, ?_⟩
  exact h.run σ G0 H0 G1 _ (st1.updO (r' := .own (ds ++ ds')) hi trivial trivial hσ fun n1 n2 => ⟨q, _, rfl, upd_same, n1, n2, k5.append r1⟩)
end
end Z

namespace M
/-- the two numbers of the six ways -/
def wx (k : Int) : Int := if k = 0 then 1 else if k = 1 then 0 else if k = 2 then -1 else if k = 3 then -1 else if k = 4 then 0 else 1
def wy (k : Int) : Int := if k = 0 then 0 else if k = 1 then 1 else if k = 2 then 1 else if k = 3 then 0 else if k = 4 then -1 else -1
def ab (i : Int) : Int := if i < 0 then -i else i
def mx (i j k : Int) : Int := max i (max j k)
/-- the distance of two cells whose difference is (g, h) -/
def dist (g h : Int) : Int := mx (ab g) (ab h) (ab (g + h))
theorem way_cases {k : Int} (h : 0 ≤ k ∧ k < 6) : k = 0 ∨ k = 1 ∨ k = 2 ∨ k = 3 ∨ k = 4 ∨ k = 5 := by omega
theorem dist_nonneg (g h : Int) : 0 ≤ dist g h := by
  unfold dist mx ab
  split <;> split <;> split <;> omega
/-- a number of a script -/
def num (c : Int) : Int := if c % 2 = 0 then c / 2 % 41 - 20 else c / 2 * 982451653 % (2 * 10 ^ 60 - 1) - 10 ^ 60 + 1
end M

namespace M
/-! ### the nearest whole numbers, the nearest cells -/
def nn (p w : Int) : List Int := if (2 * p - w) % (2 * w) = 0 then [(2 * p - w) / (2 * w), (2 * p - w) / (2 * w) + 1] else [(2 * p - w) / (2 * w) + 1]
/-- what nn is: two halves, or one -/
theorem nn_cases {p w : Int} (hw : 0 < w) : ∃ q : Int, (2 * p - w = 2 * (w * q) ∧ nn p w = [q, q + 1]) ∨ (∃ r, 0 < r ∧ r < 2 * w ∧ 2 * p - w = 2 * (w * q) + r ∧ nn p w = [q + 1]) := by
  refine ⟨(2 * p - w) / (2 * w), ?_⟩
  have h1 := Int.emod_add_mul_ediv (2 * p - w) (2 * w)
  have h2 := Int.emod_nonneg (2 * p - w) (b := 2 * w) (by omega)
  have h3 := Int.emod_lt_of_pos (2 * p - w) (b := 2 * w) (by omega)
  rw [Int.mul_assoc] at h1
  unfold nn
  by_cases h : (2 * p - w) % (2 * w) = 0
  · rw [if_pos h]
    exact .inl ⟨by omega, rfl⟩
  · rw [if_neg h]
    exact .inr ⟨_, by omega, h3, by omega, rfl⟩
theorem nn_two {p w q : Int} (hw : 0 < w) (h : 2 * p - w = 2 * (w * q)) : nn p w = [q, q + 1] := by
  have e : 2 * p - w = 2 * w * q := by rw [Int.mul_assoc]; exact h
  unfold nn
  rw [e, Int.mul_emod_right, if_pos rfl, Int.mul_ediv_cancel_left _ (by omega)]
theorem nn_one {p w q r : Int} (hw : 0 < w) (h0 : 0 < r) (h1 : r < 2 * w) (h : 2 * p - w = 2 * (w * q) + r) : nn p w = [q + 1] := by
  have e : 2 * p - w = r + 2 * w * q := by rw [Int.mul_assoc]; omega
  have e1 : (2 * p - w) % (2 * w) = r := by rw [e, Int.add_mul_emod_self_left, Int.emod_eq_of_lt (by omega) h1]
  have e2 : (2 * p - w) / (2 * w) = q := by rw [e, Int.add_mul_ediv_left _ _ (by omega), Int.ediv_eq_zero_of_lt (by omega) h1, Int.zero_add]
  unfold nn
  rw [e1, e2, if_neg (by omega)]
/-- as the program reckons -/
theorem nn_least {p w : Int} (hw : 0 < w) : nn p w = (List.range ((2 * p + w) / (2 * w) + 1 - -((w - 2 * p) / (2 * w))).toNat).map fun i : Nat => -((w - 2 * p) / (2 * w)) + (i : Int) := by
  obtain ⟨q, ⟨h, e⟩ | ⟨r, h0, h1, h, e⟩⟩ := nn_cases (p := p) hw
  · have e1 : (2 * p + w) / (2 * w) = q + 1 := by
      rw [show 2 * p + w = 2 * w * (q + 1) by rw [Int.mul_assoc, Int.mul_add]; omega, Int.mul_ediv_cancel_left _ (by omega)]
    have e2 : (w - 2 * p) / (2 * w) = -q := by
      rw [show w - 2 * p = 2 * w * (-q) by rw [Int.mul_assoc, Int.mul_neg]; omega, Int.mul_ediv_cancel_left _ (by omega)]
    rw [e, e1, e2, show (q + 1 + 1 - - -q).toNat = 2 by omega]
    simp [List.range_succ]
  · have e1 : (2 * p + w) / (2 * w) = q + 1 := by
      rw [show 2 * p + w = r + 2 * w * (q + 1) by rw [Int.mul_assoc, Int.mul_add]; omega, Int.add_mul_ediv_left _ _ (by omega), Int.ediv_eq_zero_of_lt (by omega) h1, Int.zero_add]
    have e2 : (w - 2 * p) / (2 * w) = -q - 1 := by
      rw [show w - 2 * p = (2 * w - r) + 2 * w * (-q - 1) by rw [Int.mul_assoc, Int.mul_sub, Int.mul_neg]; omega, Int.add_mul_ediv_left _ _ (by omega), Int.ediv_eq_zero_of_lt (by omega) (by omega), Int.zero_add]
    rw [e, e1, e2, show (q + 1 + 1 - -(-q - 1)).toNat = 1 by omega]
    simp [List.range_succ]
    omega
theorem nn_mem {p w x : Int} (hw : 0 < w) (hx : x ∈ nn p w) : -w ≤ 2 * (w * x - p) ∧ 2 * (w * x - p) ≤ w := by
  obtain ⟨q, ⟨h, e⟩ | ⟨r, h0, h1, h, e⟩⟩ := nn_cases (p := p) hw
  · rw [e] at hx
    simp at hx
    rcases hx with rfl | rfl
    · omega
    · rw [Int.mul_add]; omega
  · rw [e] at hx
    simp at hx
    subst hx
    rw [Int.mul_add]; omega
theorem nn_len {p w : Int} (hw : 0 < w) : (nn p w).length ≤ 2 := by
  obtain ⟨q, ⟨h, e⟩ | ⟨r, h0, h1, h, e⟩⟩ := nn_cases (p := p) hw <;> rw [e] <;> simp
theorem nn_shift {p w : Int} (hw : 0 < w) (m : Int) : nn (p + w * m) w = (nn p w).map (· + m) := by
  obtain ⟨q, ⟨h, e⟩ | ⟨r, h0, h1, h, e⟩⟩ := nn_cases (p := p) hw
  · rw [e, nn_two (q := q + m) hw (by rw [Int.mul_add w]; omega)]
    simp
    omega
  · rw [e, nn_one (q := q + m) hw h0 h1 (by rw [Int.mul_add w]; omega)]
    simp
    omega
/-- the nearest cells, told from the first cell, of a point (u, v) of w parts -/
def near (w u v : Int) : List (Int × Int) := (nn u w).flatMap fun x => ((nn v w).filter fun y => decide (2 * dist (w * x - u) (w * y - v) ≤ w)).map fun y => (x, y)
theorem ab_le {i w : Int} : 2 * ab i ≤ w ↔ -w ≤ 2 * i ∧ 2 * i ≤ w := by unfold ab; split <;> omega
theorem dist_le_iff {g h w : Int} : 2 * dist g h ≤ w ↔ (-w ≤ 2 * g ∧ 2 * g ≤ w) ∧ (-w ≤ 2 * h ∧ 2 * h ≤ w) ∧ (-w ≤ 2 * (g + h) ∧ 2 * (g + h) ≤ w) := by
  unfold dist mx
  rw [← ab_le, ← ab_le, ← ab_le]
  omega
theorem near_shift {w u v : Int} (hw : 0 < w) (m n : Int) : near w (u + w * m) (v + w * n) = (near w u v).map fun c => (c.1 + m, c.2 + n) := by
  unfold near
  rw [nn_shift hw, nn_shift hw, List.flatMap_map, List.map_flatMap]
  congr 1
  funext x
  rw [List.filter_map, List.map_map, List.map_map]
  congr 1
  refine List.filter_congr fun y _ => ?_
  simp only [Function.comp]
  rw [show w * (x + m) - (u + w * m) = w * x - u by rw [Int.mul_add]; omega, show w * (y + n) - (v + w * n) = w * y - v by rw [Int.mul_add]; omega]
theorem near_mem {w u v x y : Int} (hw : 0 < w) (h : (x, y) ∈ near w u v) : x ∈ nn u w ∧ y ∈ nn v w ∧ 2 * dist (w * x - u) (w * y - v) ≤ w := by
  unfold near at h
  rw [List.mem_flatMap] at h
  obtain ⟨x', h1, h2⟩ := h
  rw [List.mem_map] at h2
  obtain ⟨y', h3, e⟩ := h2
  cases e
  rw [List.mem_filter] at h3
  exact ⟨h1, h3.1, of_decide_eq_true h3.2⟩
end M

namespace Z
open PySem L2 M
/-! ### equality of data -/
mutual
theorem eqv_self : ∀ d : D, PyData.eqv (pd d) (pd d) = true
  | .non => rfl
  | .bl b => by simp [pd, PyData.eqv]
  | .int i => by simp [pd, PyData.eqv]
  | .str x => by simp [pd, PyData.eqv]
  | .ty _ => rfl
  | .cls _ => rfl
  | .obj _ _ => rfl
  | .dct _ => rfl
  | .tup xs => by simp only [pd, PyData.eqv]; exact eqvA_self xs
  | .lst xs => by simp only [pd, PyData.eqv]; exact eqvA_self xs
theorem eqvA_self : ∀ ds : List D, PyData.eqvAll (pdA ds) (pdA ds) = true
  | [] => rfl
  | d :: ds => by simp only [pdA, PyData.eqvAll]; rw [eqv_self d, eqvA_self ds]; rfl
end
theorem eqD_self (d : D) : eqD d d = true := eqv_self d
theorem eqD_int (i j : Int) : eqD (.int i) (.int j) = decide (i = j) := by
  show (i == j) = _
  rw [Bool.eq_iff_iff]
  simp
theorem eqD_cell (a b c d : Int) : eqD (cell a b) (cell c d) = (decide (a = c) && decide (b = d)) := by
  show ((a == c) && ((b == d) && true)) = _
  rw [Bool.and_true]
  congr 1 <;> (rw [Bool.eq_iff_iff]; simp)
abbrev cellP (c : Int × Int) : D := cell c.1 c.2
theorem ok_cells (l : List (Int × Int)) : okq (.lst (l.map cellP)) = true := by
  have h1 : ∀ l : List (Int × Int), okA (l.map cellP) = true := fun l => by induction l with
    | nil => rfl
    | cons x r ih => simp only [List.map_cons, okA, okd, ih]; rfl
  have h2 : ∀ l : List (Int × Int), PyData.canLayAll0 (pdA (l.map cellP)) = true := fun l => by induction l with
    | nil => rfl
    | cons x r ih => simp only [List.map_cons, pdA, pd, PyData.canLayAll0, PyData.canLay0, ih]; rfl
  have h3 : ∀ l : List (Int × Int), PyData.depthAll (pdA (l.map cellP)) ≤ 3 := fun l => by induction l with
    | nil => simp [pdA, PyData.depthAll]
    | cons x r ih => simp only [List.map_cons, pdA, pd, PyData.depthAll, PyData.depth]; omega
  unfold okq SeqAt.shaped
  simp only [okd, pd, h1, PyData.canLay0, h2, Bool.true_and, decide_eq_true_eq]
  have := h3 l
  simp only [PyData.depth]
  exact decide_eq_true (by omega)
/-! ### products -/
theorem mul_m1 (c : Int) : IntMulOk (-1) c := IntMulOk.of_left (by decide)
theorem mul_1 (c : Int) : IntMulOk 1 c := IntMulOk.of_left (by decide)
theorem mul_r {i j : Int} (h1 : -(2 ^ 64) < j) (h2 : j < 2 ^ 64) : IntMulOk i j := IntMulOk.of_right (intBits_le_64 h1 h2)
theorem mul_l {i j : Int} (h1 : -(2 ^ 64) < i) (h2 : i < 2 ^ 64) : IntMulOk i j := IntMulOk.of_left (intBits_le_64 h1 h2)
/-! ### lists -/
theorem take_snoc {α : Type} {l : List α} {i : Nat} {x : α} (h : l[i]? = some x) : l.take (i + 1) = l.take i ++ [x] := by rw [List.take_add_one, h]; rfl
theorem small63 {n : Nat} (h : n ≤ 1000) : n < sizeLine := small1000 h
theorem cut_ints (ns : List Int) (lo hi : Nat) : cutD (ns.map .int) (some lo) (some hi) = ((ns.drop lo).take (hi - lo)).map .int := by
  unfold cutD
  rw [HT.sIx_nat, HT.sIx_nat, List.length_map, ← List.map_drop, ← List.map_take]
  congr 1
  by_cases h : lo ≤ ns.length
  · rw [Nat.min_eq_left h]
    by_cases h2 : hi ≤ ns.length
    · rw [Nat.min_eq_left h2]
    · rw [Nat.min_eq_right (by omega), List.take_of_length_le (by rw [List.length_drop]; omega), List.take_of_length_le (by rw [List.length_drop]; omega)]
  · have e1 : min lo ns.length = ns.length := Nat.min_eq_right (by omega)
    rw [e1, List.drop_eq_nil_of_le (Nat.le_refl _), List.drop_eq_nil_of_le (by omega), List.take_nil, List.take_nil]
section
variable {X : Cx} {L : Kl} {ρ : List Sl}
theorem ev_sliceI {a l h : Expr} {p2 pos : Pos} {ns : List Int} (lo hi : Nat) (ha : EV X L ρ a (.lst (ns.map .int))) (hl : EV X L ρ l (.int lo)) (hh : EV X L ρ h (.int hi)) : EV X L ρ (.Subscript a (.Slice (some l) (some h) none p2) pos) (.lst (((ns.drop lo).take (hi - lo)).map .int)) := by
  have q := ev_slice (p2 := p2) (pos := pos) ha (pv_some hl) (pv_some hh)
  rw [cut_ints] at q
  exact q
end
/-! ### the greatest of the six -/
theorem rc_dist (a b : Int) : maxL [a, -a, b, -b, a + b, -a - b] = dist a b := by
  simp only [maxL, dist, mx, ab]
  split <;> split <;> split <;> omega
theorem dist_neg (a b : Int) : dist (-a) (-b) = dist a b := by
  simp only [dist, mx, ab]
  split <;> split <;> split <;> split <;> split <;> split <;> omega
end Z

namespace M
/-! ### rings, places -/
def lastP (s : Int) : Int := 3 * s * (s + 1)
def sx (s side al : Int) : Int := s * wx ((side + 5) % 6) + al * wx ((side + 1) % 6)
def sy (s side al : Int) : Int := s * wy ((side + 5) % 6) + al * wy ((side + 1) % 6)
theorem lastP_step (s : Int) : lastP s = lastP (s - 1) + 6 * s := by
  unfold lastP
  rw [show s - 1 + 1 = s by omega, Int.mul_assoc, Int.mul_assoc, Int.mul_add, Int.sub_mul]
  omega
theorem lastP_ge {s : Int} (h : 0 ≤ s) : s ≤ lastP s := by
  unfold lastP
  have : 3 * s * 1 ≤ 3 * s * (s + 1) := Int.mul_le_mul_of_nonneg_left (by omega) (by omega)
  omega
/-- the ring on which a place lies -/
structure SizeOf (p s : Int) : Prop where
  pos : 0 ≤ p
  nn : 0 ≤ s
  le : p ≤ lastP s
  gt : s = 0 ∨ lastP (s - 1) < p
/-- a place by ring, side and step; the cell there -/
structure At (p s side al : Int) : Prop where
  s1 : 1 ≤ s
  d0 : 0 ≤ side
  d1 : side < 6
  a1 : 1 ≤ al
  a2 : al ≤ s
  eq : p = lastP (s - 1) + side * s + al
theorem side_cases {d : Int} (h0 : 0 ≤ d) (h1 : d < 6) : d = 0 ∨ d = 1 ∨ d = 2 ∨ d = 3 ∨ d = 4 ∨ d = 5 := by omega
theorem At.of_size {p s : Int} (h : SizeOf p s) (hs : s ≠ 0) : ∃ side al, At p s side al := by
  have h0 := h.nn
  have h1 := h.le
  have h2 : lastP (s - 1) < p := by rcases h.gt with z | z; exact absurd z hs; exact z
  have h3 := lastP_step s
  have e := Int.emod_add_mul_ediv (p - lastP (s - 1) - 1) s
  have b1 := Int.emod_nonneg (p - lastP (s - 1) - 1) (b := s) hs
  have b2 := Int.emod_lt_of_pos (p - lastP (s - 1) - 1) (b := s) (by omega)
  generalize (p - lastP (s - 1) - 1) % s = m at *
  generalize (p - lastP (s - 1) - 1) / s = d at *
  refine ⟨d, m + 1, by omega, ?_, ?_, by omega, by omega, ?_⟩
  · rcases Int.lt_or_le d 0 with hd | hd
    · have : s * d ≤ s * (-1) := Int.mul_le_mul_of_nonneg_left (by omega) (by omega)
      omega
    · exact hd
  · rcases Int.lt_or_le d 6 with hd | hd
    · exact hd
    · have : s * 6 ≤ s * d := Int.mul_le_mul_of_nonneg_left (by omega) (by omega)
      omega
  · rw [Int.mul_comm d]
    omega
/-- the last cell of a side is the next side's corner -/
theorem corner {s side : Int} (h0 : 0 ≤ side) (h1 : side < 6) : sx s (side + 1) 0 = sx s side s ∧ sy s (side + 1) 0 = sy s side s := by
  rcases side_cases h0 h1 with rfl | rfl | rfl | rfl | rfl | rfl <;> simp [sx, sy, wx, wy] <;> omega
/-- as the program tells it -/
theorem At.told {p s side al : Int} (h : At p s side al) : sx s ((p - lastP (s - 1)) / s) ((p - lastP (s - 1)) % s) = sx s side al ∧ sy s ((p - lastP (s - 1)) / s) ((p - lastP (s - 1)) % s) = sy s side al := by
  obtain ⟨h1, h2, h3, h4, h5, h6⟩ := h
  have e : p - lastP (s - 1) = al + s * side := by rw [Int.mul_comm s]; omega
  rw [e, Int.add_mul_ediv_left _ _ (by omega), Int.add_mul_emod_self_left]
  by_cases hl : al < s
  · rw [Int.ediv_eq_zero_of_lt (by omega) hl, Int.emod_eq_of_lt (by omega) hl, Int.zero_add]
    exact ⟨rfl, rfl⟩
  · have ea : al = s := by omega
    subst ea
    rw [Int.ediv_self (by omega), Int.emod_self, Int.add_comm 1]
    exact corner h2 h3
theorem side_dist {s side al : Int} (h2 : 0 ≤ side) (h3 : side < 6) (h4 : 1 ≤ al) (h5 : al ≤ s) : dist (sx s side al) (sy s side al) = s := by
  rcases side_cases h2 h3 with rfl | rfl | rfl | rfl | rfl | rfl <;> simp [sx, sy, wx, wy] <;> (unfold dist mx ab; split <;> split <;> split <;> omega)
end M

namespace Z
open PySem L2 M
/-- each pair of the first list stands in the second -/
def Subs (cs : List (Str × Addr)) : List (Str × Addr) → Prop
  | [] => True
  | (x, c) :: r => cs.lookup x = some c ∧ Subs cs r
theorem subs_of {cs : List (Str × Addr)} : ∀ {cl : List (Str × Addr)}, Subs cs cl → ∀ x c, cl.lookup x = some c → cs.lookup x = some c
  | [], _, x, c, h => by simp at h
  | (y, d) :: r, ⟨h1, h2⟩, x, c, h => by
    rw [List.lookup_cons] at h
    cases e : x == y with
    | true =>
      rw [e] at h
      have e' : x = y := by simpa using e
      subst e'
      have h' : d = c := Option.some.inj h
      rw [← h']
      exact h1
    | false =>
      rw [e] at h
      exact subs_of h2 x c h
abbrev waysD : List D := [cell 1 0, cell 0 1, cell (-1) 1, cell (-1) 0, cell 0 (-1), cell 1 (-1)]
theorem ways_at {k : Int} (h : 0 ≤ k ∧ k < 6) : atI waysD k = some (cell (wx k) (wy k)) := by
  rcases way_cases h with rfl | rfl | rfl | rfl | rfl | rfl <;> rfl
theorem w_small (k : Int) : -(2 ^ 64) < wx k ∧ wx k < 2 ^ 64 ∧ -(2 ^ 64) < wy k ∧ wy k < 2 ^ 64 := by
  unfold wx wy
  split <;> (try split) <;> (try split) <;> (try split) <;> (try split) <;> omega
section
variable {X : Cx} {L : Kl} {ρ : List Sl} {a b c : Expr} {da db : D} {pos : Pos} {t u : Bool}
end
section
variable {X : Cx} {L : Kl} {ρ : List Sl} {scope : Scope} {js : List Nat} {ys : List Str}
/-- [elt for x in iter] -/
theorem el_mapN {iter elt : Expr} {x : Str} {px pos : Pos} {cl : List (Str × Addr)} {ds : List D} (f : D → D) (cp : Caps X scope ρ js ys) (src : Src X L ρ (.Name x px) iter ds) (hlen : ds.length < sizeLine)
    (hb : ∀ (C : Addr) (s : Shared) (H : Hp) (fp : List Addr) (d : D), d ∈ ds → EV (compCx X (x :: ys) scope cl C s H fp) L (.v d :: js.map fun j => ρ.getD j .no) elt (f d))
    (hnd : (x :: ys).Nodup := by decide +kernel) (hclos : closureFor scope X.env = pure cl := by rfl) (hcell : ∀ y ∈ scope.names, y.2 ≠ .cell := by decide +kernel) (hkind : scope.kind = .function := by rfl) (hnames : ∀ y ∈ scope.names, y.2 = .local → scope.names.lookup y.1 = some .local := by decide +kernel)
    (hx : scope.names.lookup x = some .local := by rfl) (hx2 : (relabel scope X.env).names.lookup x = some .local := by rfl)
    (hcl : ∀ x c, cl.lookup x = some c → X.env.cells.lookup x = some c := by exact fun _ _ h => h) (hhas : (scope.names.all fun q => !(q.2 == .free || q.2 == .cell) || (cl.lookup q.1).isSome) = true := by rfl)
    (hcalm : X.calm = true := by rfl) (hs : ∀ x, foldedSetIterable iter X.env x = pure x := by intro _; rfl) : EL X L ρ (.ListComp elt [⟨.Name x px, iter, [], 0⟩] scope pos) (ds.map f) := by
  have h := el_compNS (ifs := []) (px := px) (pos := pos) f (fun _ => true) rfl cp src hlen (fun C s H fp d hd => ⟨tests_nil, fun _ => hb C s H fp d hd⟩) hnd hclos hcell hkind hnames hx hx2 hcl hhas hcalm hs
  rw [List.filter_eq_self.mpr (fun _ _ => rfl)] at h
  exact h
end
section
variable {X : Cx} {L : Kl} {ρ : List Sl} {c : Expr} {pos : Pos} {E : En} {rest body els : List Stmt} {t : Bool}
/-- both ways of an if lead to the same -/
theorem sv_ifJ (ρ2 : List Sl) (hc : TV X L ρ c t) (h1 : t = true → SV X L ρ body { E with nx := fun ρ' => ρ' = ρ2 }) (h2 : t = false → SV X L ρ els { E with nx := fun ρ' => ρ' = ρ2 }) (h : SV X L ρ2 rest E) : SV X L ρ (.If c body els pos :: rest) E :=
  sv_if hc (fun e => (h1 e).imp (fun ρ' q => by subst q; exact h) (fun _ q => q) (fun _ q => q) (fun _ q => q)) (fun e => (h2 e).imp (fun ρ' q => by subst q; exact h) (fun _ q => q) (fun _ q => q) (fun _ q => q))
end
section
variable {X : Cx} {L : Kl} {ρ : List Sl} {scope : Scope} {js : List Nat} {ys : List Str}
/-- z = [elt for x in iter] -/
theorem sv_mapN (i : Nat) {z : Str} {pz' pS : Pos} {E : En} {rest : List Stmt} {iter elt : Expr} {x : Str} {px pos : Pos} {cl : List (Str × Addr)} {ds : List D} (f : D → D) (cp : Caps X scope ρ js ys) (src : Src X L ρ (.Name x px) iter ds) (hlen : ds.length < sizeLine)
    (hb : ∀ (C : Addr) (s : Shared) (H : Hp) (fp : List Addr) (d : D), d ∈ ds → EV (compCx X (x :: ys) scope cl C s H fp) L (.v d :: js.map fun j => ρ.getD j .no) elt (f d))
    (h : SV X L (ρ.set i (.own (ds.map f))) rest E) (hN : X.N.Nodup := by first | assumption | decide +kernel) (hi : X.N[i]? = some z := by rfl) (hz : Loc X.env.scope z := by first | exact Or.inl rfl | exact Or.inr rfl) (hfz : X.fn z = true ∨ X.env.scope.names.lookup z = some .local := by first | exact .inl rfl | exact .inr rfl)
    (hnd : (x :: ys).Nodup := by decide +kernel) (hclos : closureFor scope X.env = pure cl := by rfl) (hcell : ∀ y ∈ scope.names, y.2 ≠ .cell := by decide +kernel) (hkind : scope.kind = .function := by rfl) (hnames : ∀ y ∈ scope.names, y.2 = .local → scope.names.lookup y.1 = some .local := by decide +kernel)
    (hx : scope.names.lookup x = some .local := by rfl) (hx2 : (relabel scope X.env).names.lookup x = some .local := by rfl)
    (hcl : ∀ x c, cl.lookup x = some c → X.env.cells.lookup x = some c := by exact fun _ _ h => h) (hhas : (scope.names.all fun q => !(q.2 == .free || q.2 == .cell) || (cl.lookup q.1).isSome) = true := by rfl)
    (hcalm : X.calm = true := by rfl) (hs : ∀ x, foldedSetIterable iter X.env x = pure x := by intro _; rfl) (hsw : swapsWith (.ListComp elt [⟨.Name x px, iter, [], 0⟩] scope pos) (some (.Name z pz')) pS.line X.env = pure true := by rfl) : SV X L ρ (.Assign [.Name z pz'] (.ListComp elt [⟨.Name x px, iter, [], 0⟩] scope pos) pS :: rest) E := by
  refine sv_compNS i (ifs := []) (px := px) (pos := pos) f (fun _ => true) rfl cp src hlen (fun C s H fp d hd => ⟨tests_nil, fun _ => hb C s H fp d hd⟩) ?_ hN hi hz hfz hnd hclos hcell hkind hnames hx hx2 hcl hhas hcalm hs hsw
  rw [List.filter_eq_self.mpr (fun _ _ => rfl)]
  exact h
end
end Z

namespace Z
open PySem PySem.Spec PyProof.Rows L2
/-! ### list(reversed(xs)) -/
section
variable {pr : Program} {wd : World} {B : Around} {er : Value → Shared → Prop} {u : Shared}
end
section
variable {X : Cx} {L : Kl} {ρ : List Sl} {a : Expr} {ds : List D} {pos p p2 p3 : Pos}
end
end Z

namespace Z
open PySem PySem.Spec PyProof.Rows L2
/-! ### methods and makers of a text -/
section
variable {P : Program} {w : World} {K : PySem.W.Frag} {mg : Str → Option Value} {base : Heap} {L : Kl}
/-- a def in a class body, found by the classes of cs -/
def MDef (K : PySem.W.Frag) (L : Kl) (x qual : Str) (st : Stmt) (ps : List Str) (cs : List Nat) : Prop := ∃ f fd, DefT K x qual st ps f fd ∧ ∀ c ∈ cs, Meth K (L.cls c) x f
theorem mt_def {x qual : Str} {st : Stmt} {N ps : List Str} {cs : List Nat} {k : Nat} {C : List D → D → Prop} (g : MDef K L x qual st ps cs) (S : FnScope N ps (defScope st)) (len : ∀ ds r, C ds r → ds.length = ps.length)
    (hbody : ∀ (f : Addr) (cdv : Value) (A : Around) (outer : List Env) (s : Shared) (H : Hp) (E : XK), Room k (A.deeper (envOfC qual (defScope st) s.heap.objs.size f cdv)) → ∀ ds r, C ds r →
      SV (cxOf CX0 P w K mg base N qual (defScope st) f cdv A outer s H E).nox L (rho0 N ds) (defBody st) { nx := fun _ => r = .non, rt := fun d => d = r }) : ∀ c ∈ cs, Mt P w K mg base L c x (k + 1) C := by
  obtain ⟨f, fd, F, hm⟩ := g
  exact fun c hc => ⟨f, fd, ps, fn_okT F S len (hbody f), hm c hc, F.bd⟩
/-- an __init__ of the class c; its last parameters have defaults us -/
def IDef (K : PySem.W.Frag) (mg : Str → Option Value) (L : Kl) (x qual : Str) (c : Nat) (st : Stmt) (ps : List Str) (us : List Value) : Prop := ∃ f fd, DefT K "__init__" qual st ps f fd ∧ Mk K (L.cls c) f ∧ mg x = some (.ref (L.cls c)) ∧ Binds K fd ps us
theorem mkr_def {x qual : Str} {c : Nat} {st : Stmt} {N ps : List Str} {us : List Value} {dvs : List V} {dds : List D} {k : Nat} {C : List D → List D → Prop} (g : IDef K mg L x qual c st ps us) (hv : Vals dvs us) (hd : ∀ G, RpA K L G dvs dds) (S : FnScope N ps (defScope st))
    (len : ∀ ds rs, C ds rs → ds.length + 1 = ps.length) (flen : ∀ ds rs, C ds rs → rs.length = (L.nm c).length)
    (hbody : ∀ (f : Addr) (cdv : Value) (A : Around) (outer : List Env) (s : Shared) (H : Hp) (E : XK), Room k (A.deeper (envOfC qual (defScope st) s.heap.objs.size f cdv)) → ∀ (q : Addr) ds rs, C ds rs →
      SV (cxOf CX0 P w K mg base N qual (defScope st) f cdv A outer s H E).nox L (.ob q c [] :: (ds.map Sl.v ++ List.replicate (N.length - (ds.length + 1)) Sl.no)) (defBody st) { nx := fun ρ => ρ[0]? = some (.ob q c rs), rt := fun _ => False }) :
    Mkr P w K mg base L x c (k + 1) C ∧ Mkr P w K mg base L x c (k + 1) (fun ds rs => C (ds ++ dds) rs) := by
  obtain ⟨f, fd, F, hm, hx, hb⟩ := g
  have h := init_ok (P := P) (w := w) (mg := mg) (base := base) F S len flen (hbody f)
  exact ⟨⟨f, fd, ps, C, [], [], [], h, hm, hx, F.bd, .nil, fun _ => .nil, fun ds rs q => by rw [List.append_nil]; exact q⟩, ⟨f, fd, ps, C, dvs, us, dds, h, hm, hx, hb, hv, hd, fun _ _ q => q⟩⟩
theorem deft_mk {x qual : Str} {st : Stmt} {ps : List Str} {f : Addr} {oc : Value} {od an : Option Addr} {osl : Array (Option Value)} {kV doc pm cdv ct : Value}
    (l : K.lookup f = some ⟨oc, od, .func (PySem.W.fnOf x qual (defArgs st) (defBody st) (defScope st) .none kV doc pm an cdv ct), osl⟩) (c : PySem.W.codeIn K cdv qual = true) (k : PySem.W.keepIn K (.ref f) = true)
    (hb : ∀ (kV doc pm : Value) (an : Option Addr) (cdv ct : Value) (us : List Value), us.length = ps.length → bindArgs (PySem.W.fnOf x qual (defArgs st) (defBody st) (defScope st) .none kV doc pm an cdv ct) ⟨us, []⟩ = pure (ps.zip us)) :
    DefT K x qual st ps f (PySem.W.fnOf x qual (defArgs st) (defBody st) (defScope st) .none kV doc pm an cdv ct) :=
  ⟨⟨oc, od, .none, kV, doc, pm, an, cdv, ct, osl, rfl, l, c⟩, k, .all (hb kV doc pm an cdv ct)⟩
theorem deftD_mk {x qual : Str} {st : Stmt} {ps : List Str} {us : List Value} {f T : Addr} {oc : Value} {od an : Option Addr} {osl : Array (Option Value)} {kV doc pm cdv ct : Value} {oT : Obj} {n : Nat}
    (l : K.lookup f = some ⟨oc, od, .func (PySem.W.fnOf x qual (defArgs st) (defBody st) (defScope st) (.ref T) kV doc pm an cdv ct), osl⟩) (c : PySem.W.codeIn K cdv qual = true) (k : PySem.W.keepIn K (.ref f) = true) (hT : K.lookup T = some oT) (hS : oT.data = .seq us.toArray n) (n0 : Nat) (hn0 : n0 + us.length = ps.length)
    (hb : ∀ (kV doc pm : Value) (an : Option Addr) (cdv ct : Value) (s : Shared) (vs : List Value), s.heap.get? T = some oT → vs.length = ps.length → BindsTo s (PySem.W.fnOf x qual (defArgs st) (defBody st) (defScope st) (.ref T) kV doc pm an cdv ct) ⟨vs, []⟩ (ps.zip vs))
    (hb' : ∀ (kV doc pm : Value) (an : Option Addr) (cdv ct : Value) (s : Shared) (vs : List Value), s.heap.get? T = some oT → vs.length = n0 → BindsTo s (PySem.W.fnOf x qual (defArgs st) (defBody st) (defScope st) (.ref T) kV doc pm an cdv ct) ⟨vs, []⟩ (ps.zip (vs ++ us))) :
    DefT K x qual st ps f (PySem.W.fnOf x qual (defArgs st) (defBody st) (defScope st) (.ref T) kV doc pm an cdv ct) ∧ Binds K (PySem.W.fnOf x qual (defArgs st) (defBody st) (defScope st) (.ref T) kV doc pm an cdv ct) ps us :=
  ⟨⟨⟨oc, od, .ref T, kV, doc, pm, an, cdv, ct, osl, rfl, l, c⟩, k, fun s vs hi hl => by rw [List.append_nil] at hl ⊢; exact hb kV doc pm an cdv ct s vs (hi _ _ hT) hl⟩, fun s vs hi hl => hb' kV doc pm an cdv ct s vs (hi _ _ hT) (by rw [List.length_append] at hl; omega)⟩
/-- the law's promise does not hang on the classes -/
theorem law_imp {k : Nat} {f : Addr} {fd : FuncData} {ps : List Str} {C : List D → D → Prop} {L0 : Kl} (hC : ∀ ds r, C ds r → (∃ ns : List Int, ds = [.lst (ns.map .int)]) ∧ r = .bl true) (F : FnOk P w K mg base CX0 k f fd ps (spC K L C)) : FnOk P w K mg base CX0 k f fd ps (spC K L0 C) :=
  F.imp fun vs H Q E ⟨G, ds, r, sm, rp, hc, k⟩ => by
    obtain ⟨⟨ns, rfl⟩, rfl⟩ := hC ds r hc
    refine ⟨G, _, _, sm, ?_, hc, fun v G' H' e r => ?_⟩
    · cases rp with
      | cons h t =>
        cases t
        cases h with
        | lst hq hr =>
          have e := hr.of_ints
          subst e
          exact .cons (.lst hq (RpA.ints ns)) .nil
    · cases r
      exact k _ G' H' e (.bl true)
end
theorem kit_of {K : PySem.W.Frag} {C D : Addr} (h1 : PySem.W.isClsIn K D = true) (h2 : PySem.W.typeIn K (.ref D) = some (.type "type")) (h3 : PySem.W.mroIn K C (.ref D) = some true) : PySem.W.kitOne K (.ref C) (.ref D) = some true := by
  unfold PySem.W.kitOne
  split
  · rfl
  · unfold PySem.W.kitCls
    have e : ((PySem.W.clsIn K D).isSome && PySem.W.typeIn K (.ref D) == some (.type "type")) = true := by
      rw [show (PySem.W.clsIn K D).isSome = true from h1, h2]
      rfl
    dsimp only
    rw [if_pos e]
    exact h3
end Z

namespace Z
open PySem PySem.Spec PyProof.Rows L2

/-! ### a new list that is handed back: the caller's own -/
def spL (K : PySem.W.Frag) (L : Kl) (C : List D → List D → Prop) : Sp := fun vs H Q _ => ∃ G ds rs, Same G H ∧ RpA K L G vs ds ∧ C ds rs ∧ ∀ p ws G' H', Ext G H G' H' → H p = none → G' p = none → H' p = some (.lst ws) → RpA K L G' ws rs → Q (.ref p) H'
section
variable {P : Program} {w : World} {K : PySem.W.Frag} {mg : Str → Option Value} {base : Heap} {L : Kl}
theorem fnL_okT {x qual : Str} {st : Stmt} {f : Addr} {fd : FuncData} {N ps : List Str} {k : Nat} {C : List D → List D → Prop} (F : DefT K x qual st ps f fd) (S : FnScope N ps (defScope st)) (len : ∀ ds r, C ds r → ds.length = ps.length)
    (hbody : ∀ (cdv : Value) (A : Around) (outer : List Env) (s : Shared) (H : Hp) (E : XK), Room k (A.deeper (envOfC qual (defScope st) s.heap.objs.size f cdv)) → ∀ ds rs, C ds rs →
      SV (cxOf CX0 P w K mg base N qual (defScope st) f cdv A outer s H E).nox L (rho0 N ds) (defBody st) { nx := fun _ => False, rt := fun _ => False, rl := fun l => l = rs }) : FnOk P w K mg base CX0 (k + 1) f fd ps (spL K L C) := by
  obtain ⟨oc, od, dV, kV, doc, pm, an, cdv, ct, osl, rfl, lk, hcd⟩ := F.ex
  refine fn_of lk hcd S (fun vs H Q E ⟨G, ds, r, _, hr, hc, _⟩ => hr.length.trans (len ds r hc)) fun A outer s H vs Q E hr ⟨G, ds, r, sm, rp, hc, k⟩ => ⟨_, PSs.nox pss_w, ?_⟩
  have hh := (hbody cdv A outer s H E hr ds r hc).run (L2.start N vs) G H G H (st0 sm rp)
  refine wSs_mono ?_ hh
  refine ⟨?_, ?_, ?_, ?_⟩
  · rintro σ' H' ⟨ρ', G', s', e⟩
    exact e.elim
  · rintro v H' (⟨d, G', x1, r1, e⟩ | ⟨p, ws, ds', G', e, x1, h1, h2, h3, h4, h5⟩)
    · exact e.elim
    · subst e h5
      exact k p ws G' H' x1 h1 h2 h3 h4
  · rintro σ' H' ⟨_, _, _, q⟩
    exact q.elim
  · rintro σ' H' ⟨_, _, _, q⟩
    exact q.elim
structure FnL (P : Program) (w : World) (K : PySem.W.Frag) (mg : Str → Option Value) (base : Heap) (L : Kl) (x : Str) (k : Nat) (C : List D → List D → Prop) : Prop where
  ex : ∃ (f : Addr) (fd : FuncData) (ps : List Str), FnOk P w K mg base CX0 k f fd ps (spL K L C) ∧ mg x = some (.ref f) ∧ PySem.W.keepIn K (.ref f) = true ∧ Binds K fd ps []
theorem fnL_def {x : Str} {st : Stmt} {N ps : List Str} {k : Nat} {C : List D → List D → Prop} (g : GDef K mg x st ps) (S : FnScope N ps (defScope st)) (len : ∀ ds r, C ds r → ds.length = ps.length)
    (hbody : ∀ (f : Addr) (cdv : Value) (A : Around) (outer : List Env) (s : Shared) (H : Hp) (E : XK), Room k (A.deeper (envOfC x (defScope st) s.heap.objs.size f cdv)) → ∀ ds rs, C ds rs →
      SV (cxOf CX0 P w K mg base N x (defScope st) f cdv A outer s H E).nox L (rho0 N ds) (defBody st) { nx := fun _ => False, rt := fun _ => False, rl := fun l => l = rs }) : FnL P w K mg base L x (k + 1) C := by
  obtain ⟨f, fd, F, hm⟩ := g
  exact ⟨f, fd, ps, fnL_okT F S len (hbody f), hm, F.kp, F.bd⟩
/-- a method that hands back a new list -/
structure MtL (P : Program) (w : World) (K : PySem.W.Frag) (mg : Str → Option Value) (base : Heap) (L : Kl) (c : Nat) (m : Str) (k : Nat) (C : List D → List D → Prop) : Prop where
  ex : ∃ (f : Addr) (fd : FuncData) (ps : List Str), FnOk P w K mg base CX0 k f fd ps (spL K L C) ∧ Meth K (L.cls c) m f ∧ Binds K fd ps []
theorem mtL_def {x qual : Str} {st : Stmt} {N ps : List Str} {cs : List Nat} {k : Nat} {C : List D → List D → Prop} (g : MDef K L x qual st ps cs) (S : FnScope N ps (defScope st)) (len : ∀ ds r, C ds r → ds.length = ps.length)
    (hbody : ∀ (f : Addr) (cdv : Value) (A : Around) (outer : List Env) (s : Shared) (H : Hp) (E : XK), Room k (A.deeper (envOfC qual (defScope st) s.heap.objs.size f cdv)) → ∀ ds rs, C ds rs →
      SV (cxOf CX0 P w K mg base N qual (defScope st) f cdv A outer s H E).nox L (rho0 N ds) (defBody st) { nx := fun _ => False, rt := fun _ => False, rl := fun l => l = rs }) : ∀ c ∈ cs, MtL P w K mg base L c x (k + 1) C := by
  obtain ⟨f, fd, F, hm⟩ := g
  exact fun c hc => ⟨f, fd, ps, fnL_okT F S len (hbody f), hm c hc, F.bd⟩
end
section
variable {X : Cx} {L : Kl} {ρ : List Sl} {e a b c o tg : Expr} {es rest' : List Expr} {d da db : D} {ds rs : List D} {pos p pos' apos : Pos} {E : En} {rest body els : List Stmt} {t u : Bool}
theorem sv_retE (he : EL X L ρ e ds) (h : E.rl ds) : SV X L ρ (.Return (some e) pos :: rest) E := .mk fun σ G0 H0 G H st => by
  refine wSs_cons (wS_of (ps_ret pe_w) (he.run σ G0 H0 G H st _ fun p vs G1 H1 e1 hp hg hh hr => ?_))
  exact .inr ⟨p, vs, ds, G1, rfl, st.ext.trans e1, st.ext.hh.free hp, hg, hh, hr, h⟩
/-- return x, x a list of the def's own -/
theorem sv_retOwn (i : Nat) {x : Str} {px : Pos} (hi : ρ[i]? = some (.own ds)) (h : E.rl ds) (hN : X.N[i]? = some x := by rfl)
    (hv : Vis X.env.scope x := by first | exact Or.inl rfl | exact Or.inr (Or.inl rfl) | exact Or.inr (Or.inr rfl)) (hd : (x == ("__debug__" : Str)) = false := by decide) (hcd : (x == ("__classdict__" : Str)) = false := by decide) :
    SV X L ρ (.Return (some (.Name x px)) pos :: rest) E := .mk fun σ G0 H0 G H st => by
  obtain ⟨q, vs, h1, h2, h3, h4, h5⟩ := st.sl i _ hi
  refine wSs_cons (wS_of (ps_ret (pe_var hN hv hd hcd)) ⟨_, join_some h1, ?_⟩)
  exact .inr ⟨q, vs, ds, G, rfl, st.ext, h4, h3, h2, h5, h⟩
theorem el_call {x : Str} {k : Nat} {C : List D → List D → Prop} (F : FnL X.prog X.w X.K X.mg X.base L x k C) (hr : Room k X.A) (ha : EVs X L ρ (e :: es) ds) (hc : C ds rs) (hg : Gl X x := by rfl) (hdb : (x == ("__debug__" : Str)) = false := by decide)
    (he : starEach (e :: es) X.env = (false, eval e X.env) :: starEach es X.env := by rfl) (hpl : (backTo pos (starEach es X.env)).any (·.1) = false := by rfl) : EL X L ρ (.Call (.Name x p) (e :: es) [] pos) rs := .mk fun σ G0 H0 G H st Q k => by
  obtain ⟨f, fd, ps, F1, hm, hk, hb⟩ := F.ex
  refine wE_of (pe_call F1 hr hg hm hk hb .nil pass0 pa_w hdb he hpl) (ha.run σ G0 H0 G H st _ fun vs G1 H1 e1 r1 => ?_)
  exact ⟨G1, ds, rs, e1.gh, by rw [List.append_nil]; exact r1, hc, fun q ws G2 H2 e2 h1 h2 h3 h4 => k q ws G2 H2 (e1.trans e2) (e1.hh.free h1) h2 h3 h4⟩
theorem el_meth {m : Str} {c : Nat} {k : Nat} {os : List D} {C : List D → List D → Prop} (T : KCls X.K L c) (F : MtL X.prog X.w X.K X.mg X.base L c m k C) (hr : Room k X.A) (ho : EV X L ρ o (.obj c os)) (ha : EVs X L ρ (e :: es) ds) (hc : C (.obj c os :: ds) rs) (hm : m ∉ L.nm c)
    (hst : starEach (e :: es) X.env = (false, eval e X.env) :: starEach es X.env := by rfl) (hpl : (backTo pos (starEach es X.env)).any (·.1) = false := by rfl) {pl : Sem Bool}
    (ht : eval (.Call (.Attribute o m apos) (e :: es) [] pos) X.env = (do
      let ov ← eval o X.env
      standAt apos.atName
      let (f, first) ← holding [ov] (getMethod ov m pl)
      callWith pos f first (backTo pos (starEach (e :: es) X.env)) (backToKw pos (keywordEach [] X.env))) := by rfl) : EL X L ρ (.Call (.Attribute o m apos) (e :: es) [] pos) rs := .mk fun σ G0 H0 G H st Q q => by
  obtain ⟨f, fd, ps, F1, hm1, hb⟩ := F.ex
  refine wE_of (pe_meth pe_w T.cl hm1 F1 hr hb .nil pass0 pa_w hst hpl ht) (ho.run σ G0 H0 G H st _ fun v G1 H1 e1 r1 => ?_)
  cases r1 with
  | @obj x dx c' vs ds' hq hl hr1 =>
    refine ⟨x, dx, _, rfl, e1.gh _ _ hq, zip_none hm, ha.run σ G0 H0 G1 H1 (st.step e1) _ fun us G2 H2 e2 r2 => ?_⟩
    exact ⟨G2, .obj c os :: ds, rs, e2.gh, .cons (.obj (e2.gg _ _ hq) hl (hr1.mono e2.gg)) (by rw [List.append_nil]; exact r2), hc, fun z ws G3 H3 e3 h1 h2 h3 h4 => q z ws G3 H3 ((e1.trans e2).trans e3) ((e1.trans e2).hh.free h1) h2 h3 h4⟩
theorem el_meth0 {m : Str} {c : Nat} {k : Nat} {os : List D} {C : List D → List D → Prop} (T : KCls X.K L c) (F : MtL X.prog X.w X.K X.mg X.base L c m k C) (hr : Room k X.A) (ho : EV X L ρ o (.obj c os)) (hc : C [.obj c os] rs) (hm : m ∉ L.nm c) {pl : Sem Bool}
    (ht : eval (.Call (.Attribute o m apos) [] [] pos) X.env = (do
      let ov ← eval o X.env
      standAt apos.atName
      let (f, first) ← holding [ov] (getMethod ov m pl)
      callWith pos f first (backTo pos (starEach [] X.env)) (backToKw pos (keywordEach [] X.env))) := by rfl) : EL X L ρ (.Call (.Attribute o m apos) [] [] pos) rs := .mk fun σ G0 H0 G H st Q q => by
  obtain ⟨f, fd, ps, F1, hm1, hb⟩ := F.ex
  refine wE_of (pe_meth0 pe_w T.cl hm1 F1 hr hb .nil pass0 ht) (ho.run σ G0 H0 G H st _ fun v G1 H1 e1 r1 => ?_)
  cases r1 with
  | @obj x dx c' vs ds' hq hl hr1 =>
    refine ⟨x, dx, _, rfl, e1.gh _ _ hq, zip_none hm, ?_⟩
    exact ⟨G1, [.obj c os], rs, e1.gh, .cons (.obj hq hl hr1) .nil, hc, fun z ws G3 H3 e3 h1 h2 h3 h4 => q z ws G3 H3 (e1.trans e3) (e1.hh.free h1) h2 h3 h4⟩
/-- a test that reads an own list -/
theorem tv_share (i : Nat) (h : TV X L (ρ.set i (.v (.lst ds))) e t) (hi : ρ[i]? = some (.own ds) := by rfl) : TV X L ρ e t := .mk fun σ G0 H0 G H st Q k => by
  obtain ⟨p, vs, h1, h2, h3, h4, st1⟩ := st.freeze hi
  refine h.run σ G0 H0 _ H st1 Q fun G' H' x => ?_
  have hp : G' p = some (.lst vs) := x.gg _ _ upd_same
  refine k (del G' p) H' ⟨fun b u q => ?_, fun b u q => ?_, x.hh, fun b hb => ?_⟩
  · have z : b ≠ p := ne_of_none q h3
    rw [del_ne z]
    exact x.gg _ _ (by rw [upd_ne z]; exact q)
  · by_cases z : b = p
    · subst z
      rw [del_same] at q
      cases q
    · rw [del_ne z] at q
      exact x.gh _ _ q
  · by_cases z : b = p
    · subst z
      rw [del_same] at hb
      exact absurd rfl hb
    · rw [del_ne z] at hb
      rcases x.nw b hb with q | q
      · rw [upd_ne z] at q
        exact .inl q
      · exact .inr q
/-- for x in xs: if c: .., xs a list of the def's own, c false at each item -/
theorem sv_for_checkO (i j : Nat) {x z : Str} {px pz pf : Pos} {body : List Stmt} {c : Expr} (hi : ρ[i]? = some (.own ds)) (hij : i ≠ j) (hc : ∀ d ∈ ds, TV X L (ρ.set j (.v d)) c false) (h : SV X L (ρ.set j .no) rest E)
    (hNx : X.N[i]? = some x := by rfl) (hv : Vis X.env.scope x := by first | exact Or.inl rfl | exact Or.inr (Or.inl rfl) | exact Or.inr (Or.inr rfl)) (hd : (x == ("__debug__" : Str)) = false := by decide) (hcd : (x == ("__classdict__" : Str)) = false := by decide)
    (hN : X.N.Nodup := by first | assumption | decide +kernel) (hNz : X.N[j]? = some z := by rfl) (hz : Loc X.env.scope z := by first | exact Or.inl rfl | exact Or.inr rfl) (hf : X.fn z = true ∨ X.env.scope.names.lookup z = some .local := by first | exact .inl rfl | exact .inr rfl)
    (hp : PassesOwn (model X.prog X.w) X.A X.env X.xe := by exact PassesOwn.never) (hca : X.calm = true := by rfl) (hfs : ∀ y, foldedSetIterable (.Name x px) X.env y = pure y := by intro _; rfl) :
    SV X L ρ (.For (.Name z pz) (.Name x px) [.If c body [] pf] [] pos :: rest) E := .mk fun σ G0 H0 G H st => by
  obtain ⟨q, vs, h1, h2, h3, h4, h5⟩ := st.sl i _ hi
  have hσ := join_some h1
  refine wSs_cons (wS_of (ps_for hp hca (pi_list (pe_var hNx hv hd hcd)) (pg_name hN hNz hz hf) pss_w hfs) ⟨_, hσ, ?_⟩)
  refine ⟨q, rfl, ⟨vs, SqL.of h2⟩, for_list (K := X.K) (a := q) (xs := vs) (fun k σ' H' => ∃ G' o, σ' = σ.set j o ∧ StOk X.K L G0 H0 (ρ.set j .no) σ' G' H' ∧ Ext G H G' H') ⟨G, (σ[j]?).join, ?_, ?_, .refl st.same⟩ ?_ ?_ ?_⟩
  · refine List.ext_getElem? fun k => ?_
    by_cases z : k = j
    · subst z
      by_cases hl : k < σ.length
      · rw [List.getElem?_set_self hl, List.getElem?_eq_getElem hl]
        rfl
      · rw [List.getElem?_eq_none (by omega), List.getElem?_eq_none (by rw [List.length_set]; omega)]
    · rw [List.getElem?_set_ne (fun q => z q.symm)]
  · exact st.forget (by rw [List.length_set]) fun k r hr => by
      rcases get_set hr with ⟨_, e, _⟩ | ⟨_, e⟩
      · exact .inl e
      · exact .inr e
  · rintro k σ' H' _ ⟨G', o, rfl, s', x'⟩
    exact SqL.of (x'.hh _ _ h2)
  · rintro k y σ' H' hy ⟨G', o, rfl, s', x'⟩
    obtain ⟨d, hd1, hd2⟩ := h5.get' hy
    have s2 := s'.set (i := j) (hd2.mono x'.gg)
    rw [List.set_set, List.set_set] at s2
    show wSs X _ _ ((σ.set j o).set j (some y)) H'
    rw [List.set_set]
    refine wSs_cons (wS_of (ps_if pt_w pss_w pss_w) ((hc d (List.mem_of_getElem? hd1)).run _ G0 H0 G' H' s2 _ fun G1 H1 e1 => iteF (wSs_nil (wSs_nil ⟨G1, some y, rfl, ?_, x'.trans e1⟩))))
    exact (s2.step e1).forget (by rw [List.length_set, List.length_set]) fun k r hr => by
      rcases get_set hr with ⟨_, e, _⟩ | ⟨n, e⟩
      · exact .inl e
      · exact .inr (by rw [List.getElem?_set_ne (fun z => n z.symm)]; exact e)
  · rintro σ' H' ⟨G', o, rfl, s', x'⟩
    exact h.run _ G0 H0 G' H' s'
end
end Z

namespace Z
open PySem PySem.Spec PyProof.Rows PySem.W

/-! ### what the sort of fewer than 64 items hands back -/
section
variable {n : Nat} {r : Nat → Int} {J : Shared → Prop} {cmp : Nat → Nat → (Bool → Shared → Prop) → Shared → Prop} {p : Array Nat} {s : Shared}
/-- the comparison asked for goes by the ranks r -/
def Cmp (n : Nat) (r : Nat → Int) (J : Shared → Prop) (cmp : Nat → Nat → (Bool → Shared → Prop) → Shared → Prop) : Prop := ∀ i j C s, i < n → j < n → J s → (∀ s', J s' → C (decide (r i < r j)) s') → cmp i j C s
def Pm (n : Nat) (p : Array Nat) : Prop := p.toList.Perm (List.range n)
theorem Pm.size (h : Pm n p) : p.size = n := by
  have := List.Perm.length_eq h
  rw [List.length_range, Array.length_toList] at this
  exact this
theorem Pm.lt (h : Pm n p) {i : Nat} (hi : i < n) : p.getD i 0 < n := by
  have hs := h.size
  have : p.getD i 0 ∈ p.toList := by
    have h' : i < p.size := by omega
    have e : p.getD i 0 = p[i] := by simp [Array.getD, h']
    rw [e]
    simp
  exact List.mem_range.mp (h.mem_iff.mp this)
theorem Pm.rev (h : Pm n p) (i j : Nat) : Pm n (kas_rev p i j) := (Array.perm_iff_toList_perm.mp (mirror_perm p i j _)).trans h
theorem Pm.bub (h : Pm n p) (i j : Nat) : Pm n (bubble p i j) := (Array.perm_iff_toList_perm.mp (bubble_perm p i j)).trans h
def ky (r : Nat → Int) (p : Array Nat) (i : Nat) : Int := r (p.getD i 0)
theorem ky_eq {p q : Array Nat} {i j : Nat} (h : p[i]? = q[j]?) : ky r p i = ky r q j := by
  unfold ky
  have e : ∀ (p : Array Nat) i, p.getD i 0 = (p[i]?).getD 0 := fun p i => by simp
  rw [e, e, h]
theorem ky_rev {i j : Nat} (hj : j ≤ p.size) (k : Nat) : ky r (kas_rev p i j) k = if i ≤ k ∧ k < j then ky r p (i + j - 1 - k) else ky r p k := by
  have e := getElem?_mirror_all (i := i) hj k
  split
  · rename_i h
    rw [if_pos h] at e
    exact ky_eq e
  · rename_i h
    rw [if_neg h] at e
    exact ky_eq e
theorem ky_bub {src d : Nat} (hs : src < p.size) (hd : d ≤ src) (k : Nat) : ky r (bubble p src d) k = if k = src - d then ky r p src else if src - d < k ∧ k ≤ src then ky r p (k - 1) else ky r p k := by
  have e := getElem?_bubble hs d hd k
  split
  · rename_i h
    rw [if_pos h] at e
    exact ky_eq e
  · rename_i h
    rw [if_neg h] at e
    split
    · rename_i h
      rw [if_pos h] at e
      exact ky_eq e
    · rename_i h
      rw [if_neg h] at e
      exact ky_eq e
def Up (r : Nat → Int) (p : Array Nat) (k : Nat) : Prop := ∀ i j, i ≤ j → j < k → ky r p i ≤ ky r p j
def Dn (r : Nat → Int) (p : Array Nat) (k : Nat) : Prop := ∀ i j, i ≤ j → j < k → ky r p j ≤ ky r p i
theorem Up.succ {k : Nat} (h : Up r p k) (h1 : 1 ≤ k) (hk : ky r p (k - 1) ≤ ky r p k) : Up r p (k + 1) := fun i j hij hj => by
  by_cases e : j = k
  · subst e
    by_cases e : i = j
    · subst e
      exact Int.le_refl _
    · have := h i (j - 1) (by omega) (by omega)
      omega
  · exact h i j hij (by omega)
theorem Dn.succ {k : Nat} (h : Dn r p k) (h1 : 1 ≤ k) (hk : ky r p k ≤ ky r p (k - 1)) : Dn r p (k + 1) := fun i j hij hj => by
  by_cases e : j = k
  · subst e
    by_cases e : i = j
    · subst e
      exact Int.le_refl _
    · have := h i (j - 1) (by omega) (by omega)
      omega
  · exact h i j hij (by omega)
theorem wp_asc (O : Cmp n r J cmp) (hp : Pm n p) {Q : Nat → Shared → Prop} : ∀ (f a : Nat) (s : Shared), 1 ≤ a → a + f ≤ n → Up r p a → J s →
    (∀ m s', a ≤ m → m ≤ a + f → Up r p m → (m = a + f ∨ ky r p m < ky r p (m - 1)) → J s' → Q m s') → (kas_asc p f a).kasWp cmp Q s
  | 0, a, s, h1, h2, hu, hJ, k => k a s (Nat.le_refl _) (Nat.le_refl _) hu (.inl rfl) hJ
  | f + 1, a, s, h1, h2, hu, hJ, k => by
    show cmp _ _ _ s
    refine O _ _ _ _ (hp.lt (by omega)) (hp.lt (by omega)) hJ fun s' hJ' => ?_
    by_cases c : r (p.getD a 0) < r (p.getD (a - 1) 0)
    · rw [decide_eq_true c]
      exact k a s' (Nat.le_refl _) (Nat.le_add_right _ _) hu (.inr c) hJ'
    · rw [decide_eq_false c]
      refine wp_asc O hp f (a + 1) s' (by omega) (by omega) (hu.succ h1 (by show r _ ≤ r _; omega)) hJ' fun m s'' m1 m2 m3 m4 m5 => k m s'' (by omega) (by omega) m3 ?_ m5
      rcases m4 with m4 | m4
      · exact .inl (by omega)
      · exact .inr m4
/-- the last q + 1 of the first m are alike -/
def Eqs (r : Nat → Int) (p : Array Nat) (m q : Nat) : Prop := q + 1 ≤ m ∧ ∀ i, m - (q + 1) ≤ i → i < m → ky r p i = ky r p (m - 1)
theorem ky_revEq {m q : Nat} (h : Eqs r p m q) (hm : m ≤ p.size) (k : Nat) : ky r (kas_rev p (m - (q + 1)) m) k = ky r p k := by
  rw [ky_rev hm]
  split
  · rw [h.2 _ (by omega) (by omega), h.2 k (by omega) (by omega)]
  · rfl
theorem Dn.rev {m q k : Nat} (h : Dn r p k) (e : Eqs r p m q) (hm : m ≤ p.size) : Dn r (kas_rev p (m - (q + 1)) m) k := fun i j hij hj => by
  rw [ky_revEq e hm, ky_revEq e hm]
  exact h i j hij hj
theorem wp_desc (O : Cmp n r J cmp) {Q : Array Nat × Nat × Nat → Shared → Prop} : ∀ (f : Nat) (p : Array Nat) (a q : Nat) (s : Shared), Pm n p → 1 ≤ a → a + f ≤ n → Dn r p a → Eqs r p a q → J s →
    (∀ p' m q' s', Pm n p' → a ≤ m → m ≤ a + f → Dn r p' m → Eqs r p' m q' → J s' → Q (p', m, q') s') → (kas_desc f p a q).kasWp cmp Q s
  | 0, p, a, q, s, hp, h1, h2, hd, he, hJ, k => k p a q s hp (Nat.le_refl _) (Nat.le_refl _) hd he hJ
  | f + 1, p, a, q, s, hp, h1, h2, hd, he, hJ, k => by
    have hsz := hp.size
    show cmp _ _ _ s
    refine O _ _ _ _ (hp.lt (by omega)) (hp.lt (by omega)) hJ fun s' hJ' => ?_
    by_cases c : r (p.getD a 0) < r (p.getD (a - 1) 0)
    · rw [decide_eq_true c]
      have c' : ky r p a < ky r p (a - 1) := c
      by_cases hq : q > 0
      · dsimp only; rw [if_pos rfl, if_pos hq]
        have d1 := hd.rev he (by omega)
        refine wp_desc O f _ (a + 1) 0 s' (hp.rev _ _) (by omega) (by omega) (d1.succ h1 ?_) ⟨by omega, fun i i1 i2 => by rw [show i = a by omega]; rfl⟩ hJ' fun p' m q' s'' m1 m2 m3 => k p' m q' s'' m1 (by omega) (by omega)
        rw [ky_revEq he (by omega), ky_revEq he (by omega)]
        omega
      · dsimp only; rw [if_pos rfl, if_neg hq]
        exact wp_desc O f _ (a + 1) 0 s' hp (by omega) (by omega) (hd.succ h1 (by omega)) ⟨by omega, fun i i1 i2 => by rw [show i = a by omega]; rfl⟩ hJ' fun p' m q' s'' m1 m2 m3 => k p' m q' s'' m1 (by omega) (by omega)
    · rw [decide_eq_false c]; dsimp only; rw [if_neg Bool.false_ne_true]
      show cmp _ _ _ s'
      refine O _ _ _ _ (hp.lt (by omega)) (hp.lt (by omega)) hJ' fun s2 hJ2 => ?_
      by_cases c2 : r (p.getD (a - 1) 0) < r (p.getD a 0)
      · rw [decide_eq_true c2]
        exact k p a q s2 hp (Nat.le_refl _) (Nat.le_add_right _ _) hd he hJ2
      · rw [decide_eq_false c2]; dsimp only; rw [if_neg Bool.false_ne_true]
        have e : ky r p a = ky r p (a - 1) := by show r _ = r _; omega
        refine wp_desc O f _ (a + 1) (q + 1) s2 hp (by omega) (by omega) (hd.succ h1 (by omega)) ⟨by have := he.1; omega, fun i i1 i2 => ?_⟩ hJ2 fun p' m q' s'' m1 m2 m3 => k p' m q' s'' m1 (by omega) (by omega)
        rw [show a + 1 - 1 = a by omega]
        by_cases z : i = a
        · rw [z]
        · rw [he.2 i (by omega) (by omega), e]
theorem wp_tail3 (O : Cmp n r J cmp) {Q : Nat × Array Nat → Shared → Prop} {m : Nat} (hp : Pm n p) (h1 : 1 ≤ m) (h2 : m ≤ n) (hd : Dn r p m) (hJ : J s) (k : ∀ m p' s', Pm n p' → 1 ≤ m → m ≤ n → Up r p' m → J s' → Q (m, p') s') : (kas_tail3 m n p).kasWp cmp Q s := by
  have hsz := hp.size
  unfold kas_tail3
  rw [KasT.kasWp_bind]
  have hu : Up r (kas_rev p 0 m) m := fun i j hij hj => by
    rw [ky_rev (by omega), ky_rev (by omega), if_pos (by omega), if_pos (by omega)]
    exact hd _ _ (by omega) (by omega)
  exact wp_asc O (hp.rev _ _) (n - m) m s h1 (by omega) hu hJ fun m' s' m1 m2 m3 _ m5 => k m' _ s' (hp.rev _ _) (by omega) (by omega) m3 m5
theorem wp_descPart (O : Cmp n r J cmp) {Q : Nat × Array Nat → Shared → Prop} {m : Nat} (hp : Pm n p) (h2 : m + 1 ≤ n) (hd : Dn r p (m + 1)) (hJ : J s) (k : ∀ m p' s', Pm n p' → 1 ≤ m → m ≤ n → Up r p' m → J s' → Q (m, p') s') : (kas_descPart m n p).kasWp cmp Q s := by
  unfold kas_descPart
  rw [KasT.kasWp_bind]
  refine wp_desc O (n - (m + 1)) p (m + 1) 0 s hp (by omega) (by omega) hd ⟨by omega, fun i i1 i2 => by rw [show i = m by omega]; rfl⟩ hJ fun p' m' q' s' m1 m2 m3 m4 m5 m6 => ?_
  have hsz := m1.size
  dsimp only
  by_cases hq : q' > 0
  · rw [if_pos hq]
    exact wp_tail3 O (m1.rev _ _) (by omega) (by omega) (m4.rev m5 (by show m' ≤ p'.size; omega)) m6 k
  · rw [if_neg hq]
    exact wp_tail3 O m1 (by omega) (by omega) m4 m6 k
theorem wp_count (O : Cmp n r J cmp) {Q : Nat × Array Nat → Shared → Prop} (hp : Pm n p) (hn : 1 ≤ n) (hJ : J s) (k : ∀ m p' s', Pm n p' → 1 ≤ m → m ≤ n → Up r p' m → J s' → Q (m, p') s') : (kas_count n p).kasWp cmp Q s := by
  have hsz := hp.size
  unfold kas_count
  rw [KasT.kasWp_bind]
  refine wp_asc O hp (n - 1) 1 s (Nat.le_refl _) (by omega) (fun i j h1 h2 => by rw [show i = j by omega]; exact Int.le_refl _) hJ fun m s' m1 m2 m3 m4 m5 => ?_
  by_cases e : m = n
  · rw [if_pos (by simpa using e)]
    exact k m p s' hp m1 (by omega) m3 m5
  · rw [if_neg (by simpa using e)]
    have lt : ky r p m < ky r p (m - 1) := by
      rcases m4 with z | z
      · omega
      · exact z
    by_cases h : m > 1
    · rw [if_pos h]
      show cmp _ _ _ s'
      refine O _ _ _ _ (hp.lt (by omega)) (hp.lt (by omega)) m5 fun s2 hJ2 => ?_
      by_cases c : r (p.getD 0 0) < r (p.getD (m - 1) 0)
      · rw [decide_eq_true c]
        exact k m p s2 hp m1 (by omega) m3 hJ2
      · rw [decide_eq_false c]; dsimp only; rw [if_neg Bool.false_ne_true]
        have eqs : ∀ i, i < m → ky r p i = ky r p 0 := fun i hi => by
          have a1 := m3 0 i (by omega) hi
          have a2 := m3 i (m - 1) (by omega) (by omega)
          have a3 : ¬ ky r p 0 < ky r p (m - 1) := c
          omega
        have kr : ∀ i, ky r (kas_rev p 0 m) i = ky r p i := fun i => by
          rw [ky_rev (by omega)]
          split
          · rw [eqs _ (by omega), eqs i (by omega)]
          · rfl
        refine wp_descPart O (hp.rev _ _) (by omega) (fun i j hij hj => ?_) hJ2 k
        rw [kr, kr]
        by_cases z : j = m
        · by_cases z2 : i = m
          · rw [z, z2]; exact Int.le_refl _
          · rw [z, eqs i (by omega)]
            rw [eqs (m - 1) (by omega)] at lt
            omega
        · rw [eqs i (by omega), eqs j (by omega)]
          exact Int.le_refl _
    · rw [if_neg h]
      refine wp_descPart O hp (by omega) (fun i j hij hj => ?_) m5 k
      have hm : m = 1 := by omega
      subst hm
      by_cases z : i = j
      · rw [z]; exact Int.le_refl _
      · rw [show i = 0 by omega, show j = 1 by omega]
        have : ky r p 1 < ky r p 0 := lt
        omega
theorem wp_place (O : Cmp n r J cmp) (hp : Pm n p) {k : Nat} (hk : k < n) (hu : Up r p k) {Q : Nat → Shared → Prop} : ∀ (f l h : Nat) (s : Shared), h - l ≤ f → l ≤ h → h ≤ k → (∀ i, i < l → ky r p i ≤ ky r p k) → (∀ i, h ≤ i → i < k → ky r p k < ky r p i) → J s →
    (∀ l s', l ≤ k → (∀ i, i < l → ky r p i ≤ ky r p k) → (∀ i, l ≤ i → i < k → ky r p k < ky r p i) → J s' → Q l s') → (kas_place p k f l h).kasWp cmp Q s
  | 0, l, h, s, h0, h1, h2, h3, h4, hJ, q => q l s (by omega) h3 (fun i i1 i2 => h4 i (by omega) i2) hJ
  | f + 1, l, h, s, h0, h1, h2, h3, h4, hJ, q => by
    show (if l ≥ h then KasT.ret l else _).kasWp cmp Q s
    by_cases e : l ≥ h
    · rw [if_pos e]
      exact q l s (by omega) h3 (fun i i1 i2 => h4 i (by omega) i2) hJ
    · rw [if_neg e]
      show cmp _ _ _ s
      refine O _ _ _ _ (hp.lt hk) (hp.lt (by omega)) hJ fun s' hJ' => ?_
      by_cases c : r (p.getD k 0) < r (p.getD ((l + h) / 2) 0)
      · rw [decide_eq_true c]
        have c' : ky r p k < ky r p ((l + h) / 2) := c
        refine wp_place O hp hk hu f l ((l + h) / 2) s' (by omega) (by omega) (by omega) h3 (fun i i1 i2 => ?_) hJ' q
        have := hu ((l + h) / 2) i i1 i2
        omega
      · rw [decide_eq_false c]
        have c' : ¬ ky r p k < ky r p ((l + h) / 2) := c
        refine wp_place O hp hk hu f ((l + h) / 2 + 1) h s' (by omega) (by omega) h2 (fun i i1 => ?_) h4 hJ' q
        have := hu i ((l + h) / 2) (by omega) (by omega)
        omega
theorem wp_bin (O : Cmp n r J cmp) {Q : Array Nat → Shared → Prop} : ∀ (f : Nat) (p : Array Nat) (k : Nat) (s : Shared), Pm n p → k + f = n → Up r p k → J s → (∀ p' s', Pm n p' → Up r p' n → J s' → Q p' s') → (kas_bin f p k).kasWp cmp Q s
  | 0, p, k, s, hp, h1, hu, hJ, q => q p s hp (by rw [← h1]; exact hu) hJ
  | f + 1, p, k, s, hp, h1, hu, hJ, q => by
    have hsz := hp.size
    show ((kas_place p k k 0 k).bind _).kasWp cmp Q s
    rw [KasT.kasWp_bind]
    refine wp_place O hp (by omega) hu k 0 k s (by omega) (by omega) (Nat.le_refl _) (fun i hi => by omega) (fun i h2 h3 => by omega) hJ fun l s' l1 l2 l3 hJ' => ?_
    refine wp_bin O f _ (k + 1) s' (hp.bub _ _) (by omega) (fun i j hij hj => ?_) hJ' q
    have kb := fun i => ky_bub (r := r) (p := p) (src := k) (d := k - l) (by omega) (by omega) i
    rw [kb, kb]
    by_cases z1 : i = k - (k - l)
    · rw [if_pos z1]
      by_cases z2 : j = k - (k - l)
      · rw [if_pos z2]; exact Int.le_refl _
      · rw [if_neg z2, if_pos (by omega)]
        have := l3 (j - 1) (by omega) (by omega)
        omega
    · rw [if_neg z1]
      by_cases z2 : j = k - (k - l)
      · rw [if_pos z2, if_neg (by omega)]
        exact l2 i (by omega)
      · rw [if_neg z2]
        by_cases z3 : k - (k - l) < i ∧ i ≤ k
        · rw [if_pos z3, if_pos (by omega)]
          exact hu _ _ (by omega) (by omega)
        · rw [if_neg z3]
          by_cases z4 : k - (k - l) < j ∧ j ≤ k
          · rw [if_pos z4]
            exact hu _ _ (by omega) (by omega)
          · rw [if_neg z4]
            exact hu _ _ (by omega) (by omega)
theorem wp_sort (O : Cmp n r J cmp) {Q : Array Nat → Shared → Prop} (hn : 1 ≤ n) (hJ : J s) (q : ∀ p' s', Pm n p' → Up r p' n → J s' → Q p' s') : (kas_sort n).kasWp cmp Q s := by
  unfold kas_sort
  rw [KasT.kasWp_bind]
  refine wp_count O (show Pm n (List.toArray (List.range n)) from .refl _) hn hJ fun m p' s' m1 m2 m3 m4 m5 => ?_
  by_cases h : m < n
  · rw [if_pos h]
    refine wp_bin O _ p' _ s' m1 ?_ ?_ m5 q
    · show max m 1 + (n - max m 1) = n
      omega
    · rw [show max (m, p').1 1 = m by show max m 1 = m; omega]
      exact m4
  · rw [if_neg h]
    exact q p' s' m1 (by rw [show n = m by omega]; exact m4) m5
end
end Z

namespace Z
open PySem PySem.Spec PyProof.Rows PySem.W PySem.Calls

/-! ### the keys of a dict, gone through; its keys may be any objects -/
def RawD (h : Heap) (d : Addr) (es : Array DictEntry) (ep : Nat) : Prop := ∃ o, h.get? d = some o ∧ o.ExactDict ∧ o.data = .dict es ep
theorem RawD.at {h h' : Heap} {d : Addr} {es : Array DictEntry} {ep : Nat} (x : RawD h d es ep) (k : ∀ o, h.get? d = some o → h'.get? d = some o) : RawD h' d es ep := let ⟨o, ho, r⟩ := x; ⟨o, k _ ho, r⟩
theorem RawD.lt {h : Heap} {d : Addr} {es : Array DictEntry} {ep : Nat} (x : RawD h d es ep) : d < h.objs.size := let ⟨o, ho, _⟩ := x; Heap.lt_size ho
theorem RawD.ty {s : Shared} {d : Addr} {es : Array DictEntry} {ep : Nat} (x : RawD s.heap d es ep) : s.TypeIs (.ref d) "dict" := let ⟨o, ho, hc, _⟩ := x; ⟨o, ho, hc.1⟩
section
variable {prog : Program} {w : World} {A : Around} {E : Value → Shared → Prop} {s : Shared} {d it : Addr} {es : Array DictEntry} {ep i : Nat}
theorem rd_iter {Q : Value → Shared → Prop} (hd : (d == sysModules) = false) (hm : RawD s.heap d es ep)
    (hQ : Q (.ref s.heap.objs.size) { s with heap := s.heap.push { cls := .type "dict_keyiterator", data := .fields #[.ref d, .int 0 0, .int es.size 0, .int ep 0] } }) : wpAny (model prog w) A (pyIter (.ref d)) Q E s := by
  obtain ⟨o, ho, hc, hdat⟩ := id hm
  refine wpAny_pyIter_slot hm.ty F.slot_dict_iter (wpAny_call_entry F.slot_dict_iter hm.ty F.entry_dict_iter ?_ (F.args_dict_iter_1 _))
  unfold Builtin.«dict.__iter__»
  refine wpAny_bind ?_
  unfold Builtin.Dict.dictSlotNone
  refine wpAny_bind (wpAny_notOrdered_dict hm.ty ?_)
  show wpAny _ _ (pure (Value.ref d)) _ _ s
  refine wpAny_pure ?_
  show wpAny _ _ (Builtin.Dict.showsAll d >>= _) _ _ s
  unfold Builtin.Dict.showsAll
  rw [if_neg (by rw [hd]; exact Bool.false_ne_true)]
  refine wpAny_bind (wpAny_pure (wpAny_bind (wpAny_dictEntries ho hdat (wpAny_bind (wpAny_dictEpoch ho hdat ?_)))))
  refine wpAny_bind (wpAny_newObj_type (wpAny_pure ⟨_, rfl, "dict_keyiterator", _, ⟨_, Heap.get?_push_size _ rfl, rfl⟩, F.slot_dict_keyiterator_next.lookup, ?_⟩))
  exact hQ
theorem rd_item {Q : Option Value → Shared → Prop} (hit : s.heap.IsKeyIter it d i es.size ep) (hm : RawD s.heap d es ep) (hx : i < es.size)
    (hQ : ∀ h', h'.IsKeyIter it d (i + 1) es.size ep → Heap.SameBut it s.heap h' → Q (some es[i].key) { s with heap := h' }) : wpAny (model prog w) A (pyNext (.ref it)) Q E s := by
  obtain ⟨o, ho, hc, hd⟩ := id hit
  obtain ⟨od, hod, hcd, hdd⟩ := id hm
  unfold pyNext
  refine wpAny_bind (wpAny_attempt (wpAny_callSpecial?_slot (name := Str.ofString "__next__") hit.typeIs F.slot_dict_keyiterator_next
    (wpAny_call_entry F.slot_dict_keyiterator_next hit.typeIs F.entry_dict_keyiterator_next ?_ (F.args_dict_keyiterator_next_1 _))))
  refine wpAny_bind (wpAny_pure (wpAny_bind (wpAny_bind ?_)))
  first | refine wpAny_bind (wpAny_typeNameOfWhole_keyiter hit.typeIs (wpAny_pure ?_)) | refine wpAny_bind (wpAny_typeNameOf_keyiter hit.typeIs (wpAny_pure ?_))
  refine wpAny_bind (wpAny_fieldsOf ho hd ?_)
  simp only [show Builtin.Dict_items.ownsTuple "dict_keyiterator" = false by decide, Bool.false_eq_true, if_false]
  show wpAny _ _ (if (Value.ref d == Value.none) = true then _ else _) _ _ s
  rw [if_neg (show ¬ ((Value.ref d == Value.none) = true) from Bool.false_ne_true)]
  refine wpAny_bind (wpAny_pure (wpAny_bind (wpAny_dictEntries hod hdd ?_)))
  rw [if_neg (by simp)]
  refine wpAny_bind (wpAny_pure (wpAny_bind (wpAny_dictEpoch hod hdd ?_)))
  rw [if_neg (by simp)]
  refine wpAny_pure ?_
  simp only [show ¬ ((i : Int) < 0) from by omega, if_false, Int.toNat_natCast, Array.getElem?_eq_getElem hx]
  refine wpAny_bind ?_
  first | refine wpAny_bind (wpAny_typeNameOfWhole_keyiter hit.typeIs (wpAny_pure ?_)) | refine wpAny_bind (wpAny_typeNameOf_keyiter hit.typeIs (wpAny_pure ?_))
  refine wpAny_bind (wpAny_isOneOf_keyiter hit.typeIs ?_)
  show wpAny _ _ (setField (.ref it) 1 (rawInt ((i : Int) + 1)) >>= _) _ _ s
  refine wpAny_bind (wpAny_setField ho hd (by simp) ?_)
  have hit' : (s.heap.update it (Obj.mapFields (·.setIfInBounds 1 (rawInt ((i : Int) + 1))))).IsKeyIter it d (i + 1) es.size ep :=
    ⟨_, Heap.get?_update_self _ ho (Obj.isFreed_of_fields (Obj.data_mapFields hd _)), (Obj.cls_mapFields ..).trans hc, by rw [Obj.data_mapFields hd]; simp [rawInt]⟩
  refine wpAny_bind (wpAny_holding (wpAny_bind (wpAny_isOneOf_keyiter (s := { s with heap := s.heap.update it (Obj.mapFields (·.setIfInBounds 1 (rawInt ((i : Int) + 1)))) }) hit'.typeIs ?_)))
  show wpAny _ _ (pure es[i].key) _ _ _
  exact wpAny_pure (wpAny_pure ⟨_, rfl, wpAny_pure (hQ _ hit' (Heap.SameBut.update ..))⟩)
theorem rd_end {Q : Option Value → Shared → Prop} (hh : A.handled = none) (hit : s.heap.IsKeyIter it d i es.size ep) (hm : RawD s.heap d es ep) (hx : es.size ≤ i)
    (hQ : ∀ h', Heap.ExtBut it s.heap h' → Q none { s with heap := h' }) : wpAny (model prog w) A (pyNext (.ref it)) Q E s := by
  obtain ⟨o, ho, hc, hd⟩ := id hit
  obtain ⟨od, hod, hcd, hdd⟩ := id hm
  unfold pyNext
  refine wpAny_bind (wpAny_attempt (wpAny_callSpecial?_slot (name := Str.ofString "__next__") hit.typeIs F.slot_dict_keyiterator_next
    (wpAny_call_entry F.slot_dict_keyiterator_next hit.typeIs F.entry_dict_keyiterator_next ?_ (F.args_dict_keyiterator_next_1 _))))
  refine wpAny_bind (wpAny_pure (wpAny_bind (wpAny_bind ?_)))
  first | refine wpAny_bind (wpAny_typeNameOfWhole_keyiter hit.typeIs (wpAny_pure ?_)) | refine wpAny_bind (wpAny_typeNameOf_keyiter hit.typeIs (wpAny_pure ?_))
  refine wpAny_bind (wpAny_fieldsOf ho hd ?_)
  simp only [show Builtin.Dict_items.ownsTuple "dict_keyiterator" = false by decide, Bool.false_eq_true, if_false]
  show wpAny _ _ (if (Value.ref d == Value.none) = true then _ else _) _ _ s
  rw [if_neg (show ¬ ((Value.ref d == Value.none) = true) from Bool.false_ne_true)]
  refine wpAny_bind (wpAny_pure (wpAny_bind (wpAny_dictEntries hod hdd ?_)))
  rw [if_neg (by simp)]
  refine wpAny_bind (wpAny_pure (wpAny_bind (wpAny_dictEpoch hod hdd ?_)))
  rw [if_neg (by simp)]
  refine wpAny_pure ?_
  simp only [show ¬ ((i : Int) < 0) from by omega, if_false, Int.toNat_natCast, Array.getElem?_eq_none hx]
  refine wpAny_bind ?_
  first | refine wpAny_bind (wpAny_typeNameOfWhole_keyiter hit.typeIs (wpAny_pure ?_)) | refine wpAny_bind (wpAny_typeNameOf_keyiter hit.typeIs (wpAny_pure ?_))
  show wpAny _ _ (setField (.ref it) 0 .none >>= _) _ _ s
  refine wpAny_bind (wpAny_setField ho hd (by simp) ?_)
  show wpAny _ _ (newExc (.type "StopIteration") [] >>= _) _ _ _
  refine wpAny_bind ?_
  simp only [newExc, newTuple]
  refine wpAny_bind (wpAny_newObj_type ?_ (by size_fits))
  refine wpAny_bind (m := firstArgMember _ _) (wpAny_of_eq (a := Value.none) (by first | rfl | (simp only [firstArgMember]; rfl)) ?_)
  refine wpAny_newObj_type ?_ (by size_fits)
  simp only [raiseNew]
  refine wpAny_bind (wpAny_handled ?_)
  rw [show A.in1.handled = none from hh]
  refine wpAny_bind (wpAny_pure (wpAny_throw ?_))
  refine wpAny_bind (wpAny_isInstance (T := "StopIteration") (b := true) ⟨_, Heap.get?_push_size _ rfl, rfl⟩ isSubtype_stop ?_)
  exact wpAny_pure (hQ _ (((Heap.SameBut.update ..).extBut.push _).push _))
theorem rd_walks (hh : A.handled = none) (hne : d ≠ it) : Walks prog w A it [it, d] [it] es.size (fun i v => ∃ e, es[i]? = some e ∧ v = e.key) (fun i h => h.IsKeyIter it d i es.size ep ∧ RawD h d es ep) where
  sub := fun b hb => by simp at hb; simp [hb]
  frame := fun _ _ _ st hk => ⟨st.1.at fun o e => hk it (by simp) o e, st.2.at fun o e => hk d (by simp) o e⟩
  item := fun i s Q E hi st hQ => rd_item st.1 st.2 hi fun h' hit' hs' => hQ _ h' s.toks ⟨es[i], by simp [hi], rfl⟩ ⟨hit', st.2.at fun o e => hs'.extBut d o hne e⟩ fun b o hb e => hs'.extBut b o (fun h => hb (by simp [h])) e
  done := fun s Q E st hQ => rd_end hh st.1 st.2 (Nat.le_refl _) fun h' he' => hQ h' s.toks fun b o hb e => he' b o (fun h => hb (by simp [h])) e
  self := fun _ _ _ _ st hQ => wpAny_pyIter_keyiter st.1 hQ
theorem rd_src (lo : (d == sysModules) = false) : KdlSrc prog w "dict" d d es.size (fun i v => ∃ e, es[i]? = some e ∧ v = e.key) (fun h => RawD h d es ep) where
  type := fun _ hm => hm.ty
  there := fun _ hm => ⟨hm.lt, hm.lt⟩
  keep := fun _ _ hm hk => hm.at fun o e => hk d (.inl rfl) o e
  notList := by decide
  notTuple := by decide
  hint := fun _ _ _ _ hm hq => kdl_hint_dict hm.ty hq
  iter := fun _ _ hh hm => ⟨_, _, (fun _ _ hq => rd_iter lo hm hq), rd_walks hh (Nat.ne_of_lt hm.lt), ⟨⟨_, Heap.get?_push_size _ rfl, rfl, rfl⟩, hm.at fun o e => Heap.get?_push_of_some _ e⟩⟩
theorem rd_collect {Q : List Value → Shared → Prop} (hh : A.handled = none) (lo : (d == sysModules) = false) (hm : RawD s.heap d es ep) (hn : es.size ≤ sizeLine)
    (h : ∀ (h' : Heap) (tk : Nat), (∀ b o, s.heap.get? b = some o → h'.get? b = some o) → Q (es.toList.map (·.key)) { s with heap := h', toks := tk }) : wpAny (model prog w) A (collect (.ref d)) Q E s := by
  unfold collect
  refine wpAny_bind (wpAny_runValue (codeAny_builtin entry_proto_collect' ?_))
  rw [Around.under_plainId PySem.F.plain_proto_collect _]
  show wpAny _ A.in1 (newList [] >>= fun l => again (.builtin "list.__iadd__" ⟨[l, .ref d], []⟩)) _ _ s
  refine wpAny_bind (wpAny_newObj_type ?_)
  refine wpAny_pure ⟨plainId_quiet PySem.F.plain_list_iadd _, codeAny_builtin entry_list_iadd' ?_⟩
  rw [Around.under_plainId PySem.F.plain_list_iadd _]
  have hS : (s.heap.push { cls := .type "list", data := .seq ([] : List Value).toArray }).get? s.heap.objs.size = some { cls := .type "list", data := .seq #[] } := Heap.get?_push_size _ rfl
  show wpAny _ A.in1 (Builtin.List.listExtendWith (.ref s.heap.objs.size) (.ref d) (.ref s.heap.objs.size)) _ _ _
  have key := kdl_extend (prog := prog) (w := w) (A := A) (s := { s with heap := s.heap.push { cls := .type "list", data := .seq ([] : List Value).toArray } }) (rd_src (es := es) (ep := ep) lo)
    (R := fun (q : Result) (s' : Shared) => ∃ (h' : Heap) (tk : Nat) (acc' : Array Value) (c' : Nat), q = .ok (.ret (.ref s.heap.objs.size)) ∧ s' = { s with heap := h', toks := tk } ∧
      (∀ b o, s.heap.get? b = some o → h'.get? b = some o) ∧ h'.get? s.heap.objs.size = some { cls := .type "list", dict := none, data := .seq acc' c', slots := #[] } ∧ acc'.toList = es.toList.map (·.key))
    hh (hm.at fun o e => Heap.get?_push_of_some _ e) s.heap.objs.size (Nat.ne_of_gt hm.lt) (Nat.ne_of_gt hm.lt) (.ref s.heap.objs.size) 0 hS
    (fun h' tk acc' c' hk hS' hacc => ⟨h', tk, acc', c', rfl, rfl, fun b o e => hk b o (Nat.ne_of_lt (Heap.lt_size e)) (Heap.get?_push_of_some _ e), hS', by
      refine List.ext_getElem? fun j => ?_
      rw [Array.getElem?_toList, List.getElem?_map, Array.getElem?_toList]
      cases q : acc'[j]? with
      | none =>
        have : acc'.size ≤ j := by simpa using q
        rw [hacc.1] at this
        rw [Array.getElem?_eq_none this]
        rfl
      | some v =>
        obtain ⟨e, h1, h2⟩ := hacc.2 j v q
        rw [h1, h2]
        rfl⟩) hn
  refine wpAny_mono key (fun fin s' x => ?_) fun e s' x => ?_
  · cases fin with
    | done f =>
      obtain ⟨h', tk, acc', c', e, rfl, hk, hS', hacc⟩ := x
      cases e
      show wpAny _ A (load s.heap.objs.size >>= _) _ _ _
      refine wpAny_bind (wpAny_load hS' (wpAny_pure ?_))
      show Q acc'.toList _
      rw [hacc]
      exact h h' tk hk
    | again c₁ =>
      refine ⟨x.1, codeAny_mono x.2 fun q s₂ y => ?_⟩
      obtain ⟨h', tk, acc', c', rfl, rfl, hk, hS', hacc⟩ := y
      show wpAny _ A (load s.heap.objs.size >>= _) _ _ _
      refine wpAny_bind (wpAny_load hS' (wpAny_pure ?_))
      show Q acc'.toList _
      rw [hacc]
      exact h h' tk hk
  · obtain ⟨_, _, _, _, e', _⟩ := x
    cases e'
end
end Z

namespace Z
open PySem PySem.Spec PyProof.Rows PySem.W PySem.Calls

/-! ### the order of cells, and their sorted list -/
def cle (c d : Int × Int) : Bool := decide (c.1 < d.1) || (decide (c.1 = d.1) && decide (c.2 ≤ d.2))
theorem cle_iff {c d : Int × Int} : cle c d = true ↔ c.1 < d.1 ∨ (c.1 = d.1 ∧ c.2 ≤ d.2) := by
  unfold cle
  rw [Bool.or_eq_true, Bool.and_eq_true, decide_eq_true_iff, decide_eq_true_iff, decide_eq_true_iff]
theorem cle_trans (a b c : Int × Int) (h1 : cle a b = true) (h2 : cle b c = true) : cle a c = true := by
  rw [cle_iff] at *
  omega
theorem cle_total (a b : Int × Int) : (cle a b || cle b a) = true := by
  rw [Bool.or_eq_true, cle_iff, cle_iff]
  omega
theorem cle_anti {a b : Int × Int} (h1 : cle a b = true) (h2 : cle b a = true) : a = b := by
  rw [cle_iff] at *
  obtain ⟨a1, a2⟩ := a
  obtain ⟨b1, b2⟩ := b
  simp only [Prod.mk.injEq] at *
  omega
def srt (cs : List (Int × Int)) : List (Int × Int) := cs.mergeSort cle
theorem srt_perm (cs : List (Int × Int)) : (srt cs).Perm cs := List.mergeSort_perm cs cle
theorem srt_sorted (cs : List (Int × Int)) : (srt cs).Pairwise fun a b => cle a b = true := List.pairwise_mergeSort cle_trans cle_total cs
theorem sorted_unique : ∀ {xs ys : List (Int × Int)}, xs.Perm ys → xs.Pairwise (fun a b => cle a b = true) → ys.Pairwise (fun a b => cle a b = true) → xs = ys
  | [], ys, h, _, _ => by rw [h.nil_eq]
  | x :: xs, [], h, _, _ => by have := h.length_eq; simp at this
  | x :: xs, y :: ys, h, hx, hy => by
    have e : x = y := by
      have m1 : x ∈ y :: ys := h.mem_iff.mp List.mem_cons_self
      have m2 : y ∈ x :: xs := h.mem_iff.mpr List.mem_cons_self
      rcases List.mem_cons.mp m1 with e | m1
      · exact e
      rcases List.mem_cons.mp m2 with e | m2
      · exact e.symm
      exact cle_anti ((List.pairwise_cons.mp hx).1 _ m2) ((List.pairwise_cons.mp hy).1 _ m1)
    subst e
    rw [sorted_unique (List.Perm.cons_inv h) (List.pairwise_cons.mp hx).2 (List.pairwise_cons.mp hy).2]
theorem srt_eq {cs ys : List (Int × Int)} (h : ys.Perm cs) (hs : ys.Pairwise fun a b => cle a b = true) : srt cs = ys := sorted_unique ((srt_perm cs).trans h.symm) (srt_sorted cs) hs
theorem srt_congr {cs ds : List (Int × Int)} (h : cs.Perm ds) : srt cs = srt ds := srt_eq ((srt_perm ds).trans h.symm) (srt_sorted ds)
/-! cells ranked by one int -/
def big : List (Int × Int) → Nat
  | [] => 0
  | c :: cs => max c.2.natAbs (big cs)
theorem big_le : ∀ {cs : List (Int × Int)} {c : Int × Int}, c ∈ cs → c.2.natAbs ≤ big cs
  | [], _, h => by cases h
  | x :: xs, c, h => by
    show _ ≤ max x.2.natAbs (big xs)
    rcases List.mem_cons.mp h with rfl | h
    · omega
    · have := big_le h
      omega
def rk (B : Nat) (c : Int × Int) : Int := c.1 * (2 * (B : Int) + 1) + c.2
theorem rk_lt {B : Nat} {c d : Int × Int} (hc : c.2.natAbs ≤ B) (hd : d.2.natAbs ≤ B) : rk B c < rk B d ↔ c.1 < d.1 ∨ (c.1 = d.1 ∧ c.2 < d.2) := by
  unfold rk
  have M : (0 : Int) ≤ 2 * (B : Int) + 1 := by omega
  have step : ∀ {x y : Int}, x < y → x * (2 * (B : Int) + 1) + (2 * (B : Int) + 1) ≤ y * (2 * (B : Int) + 1) := fun {x y} h => by
    have e : x * (2 * (B : Int) + 1) + (2 * (B : Int) + 1) = (x + 1) * (2 * (B : Int) + 1) := by rw [Int.add_mul, Int.one_mul]
    rw [e]
    exact Int.mul_le_mul_of_nonneg_right (by omega) M
  rcases Int.lt_trichotomy c.1 d.1 with h | h | h
  · have := step h
    exact ⟨fun _ => .inl h, fun _ => by omega⟩
  · rw [h]
    exact ⟨fun z => .inr ⟨rfl, by omega⟩, fun z => by rcases z with z | z <;> omega⟩
  · have := step h
    exact ⟨fun z => by omega, fun z => by rcases z with z | z <;> omega⟩

/-! ### list.sort of cells -/
/-- the value v is a pair of these ints -/
def TC (h : Heap) (v : Value) (c : Int × Int) : Prop := ∃ b o t u k, v = .ref b ∧ h.get? b = some o ∧ o.cls = .type "tuple" ∧ o.data = .seq #[.int c.1 t, .int c.2 u] k
def TCs (h : Heap) : List Value → List (Int × Int) → Prop
  | [], [] => True
  | v :: vs, c :: cs => TC h v c ∧ TCs h vs cs
  | _, _ => False
theorem TCs.length {h : Heap} : ∀ {vs : List Value} {cs : List (Int × Int)}, TCs h vs cs → vs.length = cs.length
  | [], [], _ => rfl
  | _ :: _, _ :: _, ⟨_, h⟩ => congrArg (· + 1) (TCs.length h)
  | [], _ :: _, h => h.elim
  | _ :: _, [], h => h.elim
theorem TCs.get {h : Heap} : ∀ {vs : List Value} {cs : List (Int × Int)} {i : Nat}, TCs h vs cs → i < cs.length → TC h (vs.getD i .none) (cs.getD i (0, 0))
  | [], [], i, _, hi => by simp at hi
  | _ :: _, _ :: _, 0, ⟨t, _⟩, _ => t
  | v :: vs, c :: cs, i + 1, ⟨_, h⟩, hi => by
    have := TCs.get (i := i) h (by simpa using hi)
    simpa using this
  | [], _ :: _, _, h, _ => h.elim
  | _ :: _, [], _, h, _ => h.elim
theorem TC.keep {h h' : Heap} {v : Value} {c : Int × Int} (t : TC h v c) (k : ∀ b o, h.get? b = some o → o.cls = .type "tuple" → h'.get? b = some o) : TC h' v c := by
  obtain ⟨b, o, t, u, n, e, h1, h2, h3⟩ := t
  exact ⟨b, o, t, u, n, e, k b o h1 h2, h2, h3⟩
theorem TCs.keep {h h' : Heap} (k : ∀ b o, h.get? b = some o → o.cls = .type "tuple" → h'.get? b = some o) : ∀ {vs : List Value} {cs : List (Int × Int)}, TCs h vs cs → TCs h' vs cs
  | [], [], _ => trivial
  | _ :: _, _ :: _, ⟨t, h⟩ => ⟨t.keep k, TCs.keep k h⟩
  | [], _ :: _, h => h.elim
  | _ :: _, [], h => h.elim
section
variable {prog : Program} {w : World} {A : Around} {E : Value → Shared → Prop} {s : Shared}
theorem tc_firsts {h : Heap} : ∀ {vs : List Value} {cs : List (Int × Int)}, TCs h vs cs → ∃ fs, KatTups h vs fs ∧ fs.length = vs.length ∧ ∀ f ∈ fs, ∃ i t, f = .int i t
  | [], [], _ => ⟨[], trivial, rfl, fun f hf => by cases hf⟩
  | v :: vs, c :: cs, ⟨⟨b, o, t, u, k, e, h1, h2, h3⟩, h⟩ => by
    obtain ⟨fs, k1, k2, k3⟩ := tc_firsts h
    subst e
    refine ⟨.int c.1 t :: fs, .cons h1 h2 h3 rfl k1, by simp [k2], fun f hf => ?_⟩
    rcases List.mem_cons.mp hf with rfl | hf
    · exact ⟨_, _, rfl⟩
    · exact k3 f hf
  | [], _ :: _, h => h.elim
  | _ :: _, [], h => h.elim
theorem tc_lt {x y : Value} {c d : Int × Int} {Q : Bool → Shared → Prop} (hx : TC s.heap x c) (hy : TC s.heap y d) (h : Q (decide (c.1 < d.1 ∨ (c.1 = d.1 ∧ c.2 < d.2))) s) : wpAny (model prog w) A (keyLt' (tuples' true) x y) Q E s := by
  obtain ⟨b, o, t, u, k, rfl, h1, h2, h3⟩ := hx
  obtain ⟨b', o', t', u', k', rfl, h1', h2', h3'⟩ := hy
  refine kat_lt h1 h3 h1' h3' ?_
  show KatLex prog w A true _ Q [(.int c.1 t, .int d.1 t'), (.int c.2 u, .int d.2 u')] 0 s
  refine kat_cons (wpAny_eqBool_int ?_)
  by_cases e1 : c.1 = d.1
  · rw [show (c.1 == d.1) = true by simpa using e1]
    refine kat_yes (kat_cons (wpAny_eqBool_int ?_))
    by_cases e2 : c.2 = d.2
    · rw [show (c.2 == d.2) = true by simpa using e2]
      refine kat_yes (kat_nil ?_)
      rw [decide_eq_false (by omega)] at h
      exact h
    · rw [show (c.2 == d.2) = false by simpa using e2]
      refine kat_no ?_
      show wpAny _ _ (oneLt' false _ _) _ _ _
      refine kat_one _ _ (lt_int ?_)
      rw [show decide (c.2 < d.2) = decide (c.1 < d.1 ∨ (c.1 = d.1 ∧ c.2 < d.2)) by apply decide_eq_decide.mpr; omega]
      exact h
  · rw [show (c.1 == d.1) = false by simpa using e1]
    refine kat_no ?_
    show wpAny _ _ (oneLt' true _ _) _ _ _
    refine oneLt_int ?_
    rw [show decide (c.1 < d.1) = decide (c.1 < d.1 ∨ (c.1 = d.1 ∧ c.2 < d.2)) by apply decide_eq_decide.mpr; omega]
    exact h
theorem list_sort_cells {a : Addr} {n : Nat} {vs : List Value} {cs : List (Int × Int)} {P : PySem.Fin → Shared → Prop} (ho : s.heap.get? a = some (seqObj "list" vs.toArray n)) (ht : TCs s.heap vs cs) (h64 : vs.length < 64)
    (h : ∀ (p : List Nat) (h' : Heap) (c : Nat), p.Perm (List.range vs.length) → p.map (fun i => cs.getD i (0, 0)) = srt cs → (∀ b o, b ≠ a → s.heap.get? b = some o → h'.get? b = some o) → h'.get? a = some (seqObj "list" (p.map fun i => vs.getD i Value.none).toArray c) → P (.done (.ret .none)) { s with heap := h' }) :
    wpAny (model prog w) A (Builtin.«list.sort» ⟨[.ref a], []⟩) P E s := by
  have ha : a < s.heap.objs.size := Heap.lt_size ho
  obtain ⟨e1, ho1⟩ : ∃ e1, (s.heap.update a (Obj.mapSeq fun _ => (#[] : Array Value))).get? a = some (seqObj "list" #[] e1) := ⟨_, get?_update_seq ho fun _ => #[]⟩
  have s1 := Heap.SameBut.update s.heap a (Obj.mapSeq fun _ => (#[] : Array Value))
  rw [list_sort_plain]
  refine wpAny_bind (listItems_at ho rfl (wpAny_bind (listUpdate_at ho rfl ?_ (by rw [List.size_toArray, sizeLine_eq]; omega) (Nat.zero_le _))))
  refine wpAny_bind (seqEpoch_at ho1 rfl (wpAny_bind (wpAny_newTuple ?_ (by show vs.length ≤ _; rw [sizeLine_eq]; omega))))
  refine wpAny_bind (wpAny_newList ?_ (Nat.zero_le _))
  refine wpAny_holding ?_
  show wpAny (model prog w) A _ P E { s with heap := ((s.heap.update a (Obj.mapSeq fun _ => (#[] : Array Value))).push (seqObj "tuple" vs.toArray 0)).push (seqObj "list" #[] 0) }
  dsimp only
  generalize hq : ((s.heap.update a (Obj.mapSeq fun _ => (#[] : Array Value))).push (seqObj "tuple" vs.toArray 0)).push (seqObj "list" #[] 0) = hp
  have ho6 : hp.get? a = some (seqObj "list" #[] e1) := by rw [← hq]; exact Heap.get?_push_of_some _ (Heap.get?_push_of_some _ ho1)
  have keep : ∀ b o, b ≠ a → s.heap.get? b = some o → hp.get? b = some o := fun b o hb e => by rw [← hq]; exact Heap.get?_push_of_some _ (Heap.get?_push_of_some _ (s1.extBut b o hb e))
  have ht6 : TCs hp vs cs := ht.keep fun b o e hc => keep b o (fun z => by subst z; rw [ho] at e; cases e; exact absurd (Value.type.inj hc) (by decide)) e
  clear hq
  have hlen := ht.length
  have fin : ∀ (p : List Nat), p.Perm (List.range vs.length) → p.map (fun i => cs.getD i (0, 0)) = srt cs → P (.done (.ret .none)) { s with heap := hp.update a (Obj.mapSeq fun _ => (p.map fun i => vs.getD i Value.none).toArray) } := fun p h1 h2 => by
    obtain ⟨c2, hc2⟩ : ∃ c2, (hp.update a (Obj.mapSeq fun _ => (p.map fun i => vs.getD i Value.none).toArray)).get? a = some (seqObj "list" (p.map fun i => vs.getD i Value.none).toArray c2) := ⟨_, get?_update_seq ho6 fun _ => (p.map fun i => vs.getD i Value.none).toArray⟩
    exact h p _ c2 h1 h2 (fun b o hb e => (Heap.SameBut.update hp a _).extBut b o hb (keep b o hb e)) hc2
  by_cases h2 : vs.toArray.size < 2
  · rw [if_pos h2, if_pos h2]
    refine wpAny_bind (wpAny_pure ?_)
    rw [StateT.run_pure]
    refine wpAny_bind (wpAny_pure ?_)
    dsimp only
    refine wpAny_bind (seqEpoch_at ho6 rfl ?_)
    have e := kat_snds (ks := vs) (vs := vs) rfl (st := SortSt.mk' general' (vs.toArray.zip vs.toArray) #[] 7 none) (p := (List.range vs.length).toArray) (by
      have z := kas_range (vs.toArray.zip vs.toArray)
      rw [show (vs.toArray.zip vs.toArray).size = vs.length by simp] at z
      rw [z])
    rw [e]
    refine wpAny_bind (listUpdate_at ho6 rfl ?_ (Nat.zero_le _) (by rw [List.size_toArray, List.length_map, List.length_range, sizeLine_eq]; omega))
    simp only [bne_self_eq_false, Bool.false_eq_true, if_false]
    refine wpAny_pure (fin _ (.refl _) ?_)
    rw [List.size_toArray, hlen] at h2
    rw [hlen]
    match cs, h2 with
    | [], _ => exact (srt_eq (.refl _) .nil).symm
    | [c], _ => exact (srt_eq (.refl _) (List.pairwise_singleton _ _)).symm
    | _ :: _ :: _, h2 => simp at h2; omega
  · rw [if_neg h2, if_neg h2]
    rw [List.size_toArray] at h2
    obtain ⟨fs, k1, k2, k3⟩ := tc_firsts ht6
    refine wpAny_bind (kat_kind (s := { s with heap := hp }) (T := .type "int") k1 (by omega) (fun v hv => by obtain ⟨i, t, rfl⟩ := k3 v hv; exact .of_pure rfl) (by decide) ?_)
    refine wpAny_bind (wpAny_mono (kat_run (A := A) (prog := prog) (w := w) (E := E) (κ := tuples' true) (s := { s with heap := hp }) (vs := vs) (ks := vs) (Q := fun st' s' => ∃ p : Array Nat, s' = { s with heap := hp } ∧ Pm vs.length p ∧ Up (fun i => rk (big cs) (cs.getD i (0, 0))) p vs.length ∧ arrOf st' = p.map (kas_item (vs.toArray.zip vs.toArray)) ∧ failedOf st' = none)
      rfl (by omega) h64 (G := fun p s' => s' = { s with heap := hp } ∧ Pm vs.length p ∧ Up (fun i => rk (big cs) (cs.getD i (0, 0))) p vs.length) (fun p' st' s' a1 a2 a3 a4 => ⟨p', a4.1, a4.2.1, a4.2.2, a2, a3⟩) ?_) ?_ fun _ _ e => e)
    · refine wp_sort (r := fun i => rk (big cs) (cs.getD i (0, 0))) (J := fun s' => s' = { s with heap := hp }) (fun i j C s' hi hj hs k => ?_) (by omega) rfl fun p' s' b1 b2 b3 => ⟨b3, b1, b2⟩
      subst hs
      rw [hlen] at hi hj
      have bd : ∀ i, i < cs.length → (cs.getD i (0, 0)).2.natAbs ≤ big cs := fun i hi => big_le (by rw [List.getD_eq_getElem?_getD, List.getElem?_eq_getElem hi]; exact List.getElem_mem hi)
      refine wpAny_mono (E := fun _ _ => False) (tc_lt (s := { s with heap := hp }) (ht6.get hi) (ht6.get hj) (Q := C) ?_) (fun _ _ q => q) (fun _ _ q => q)
      have e := rk_lt (bd i hi) (bd j hj)
      rw [← decide_eq_decide.mpr e]
      exact k _ rfl
    · rintro ⟨⟨⟩, st'⟩ s' ⟨p, rfl, b1, b2, har, hf⟩
      dsimp only
      rw [kat_snds rfl har, hf]
      refine wpAny_bind (seqEpoch_at ho6 rfl ?_)
      have hps : p.toList.length = vs.length := by rw [Array.length_toList]; exact b1.size
      refine wpAny_bind (listUpdate_at ho6 rfl ?_ (Nat.zero_le _) (by rw [List.size_toArray, List.length_map, hps, sizeLine_eq]; omega))
      simp only [bne_self_eq_false, Bool.false_eq_true, if_false]
      refine wpAny_pure (fin p.toList b1 (srt_eq ?_ ?_).symm)
      · have e : cs = (List.range cs.length).map fun i => cs.getD i (0, 0) := by
          refine List.ext_getElem (by simp) fun i h1 h2 => ?_
          simp [h1]
        rw [hlen] at b1
        have q := List.Perm.map (fun i => cs.getD i (0, 0)) b1
        rw [← e] at q
        exact q
      · rw [List.pairwise_iff_getElem]
        intro i j hi hj hij
        rw [List.length_map, hps] at hi hj
        have q := b2 i j (by omega) hj
        have bd : ∀ i, i < cs.length → (cs.getD i (0, 0)).2.natAbs ≤ big cs := fun i hi => big_le (by rw [List.getD_eq_getElem?_getD, List.getElem?_eq_getElem hi]; exact List.getElem_mem hi)
        have ge : ∀ i (hi : i < vs.length), p.toList[i]'(by rw [hps]; exact hi) = p.getD i 0 := fun i hi => by
          have hi' : i < p.size := by rw [b1.size]; exact hi
          simp [Array.getD, hi']
        rw [List.getElem_map, List.getElem_map, ge i hi, ge j hj]
        have n1 := b1.lt hi
        have n2 := b1.lt hj
        rw [hlen] at n1 n2
        have e := rk_lt (bd _ n2) (bd _ n1)
        have q' : ¬ rk (big cs) (cs.getD (p.getD j 0) (0, 0)) < rk (big cs) (cs.getD (p.getD i 0) (0, 0)) := by
          have q2 : rk (big cs) (cs.getD (p.getD i 0) (0, 0)) ≤ rk (big cs) (cs.getD (p.getD j 0) (0, 0)) := q
          omega
        rw [e] at q'
        rw [cle_iff]
        omega
end
end Z

namespace Z
open PySem PySem.Spec PyProof.Rows PySem.W PySem.Calls L2

/-! ### sorted(..) of cells -/
section
variable {prog : Program} {w : World} {A : Around} {E : Value → Shared → Prop} {s : Shared}
theorem sorted_wp {v : Value} {vs : List Value} {cs : List (Int × Int)} {Q : Value → Shared → Prop}
    (hcol : ∀ (R : List Value → Shared → Prop) (E' : Value → Shared → Prop), (∀ (h1 : Heap) (tk : Nat), (∀ b o, s.heap.get? b = some o → h1.get? b = some o) → R vs { s with heap := h1, toks := tk }) → wpAny (model prog w) A.in1 (collect v) R E' s) (ht : TCs s.heap vs cs) (h64 : vs.length < 64)
    (h : ∀ (h1 : Heap) (tk : Nat), (∀ b o, s.heap.get? b = some o → h1.get? b = some o) → ∀ (p : List Nat) (h' : Heap) (c : Nat), p.Perm (List.range vs.length) → p.map (fun i => cs.getD i (0, 0)) = srt cs → (∀ b o, h1.get? b = some o → h'.get? b = some o) →
      h'.get? h1.objs.size = some (seqObj "list" (p.map fun i => vs.getD i Value.none).toArray c) → Q (.ref h1.objs.size) { s with heap := h', toks := tk }) : wpAny (model prog w) A (call (.builtin "sorted") [v]) Q E s := by
  refine Calls.call_function_entry kind_sorted plain_sorted entry_sorted (args_sorted1 _) ?_
  unfold Builtin.«sorted»
  refine wpAny_bind (m := checkCount "sorted" 1 1 _) (wpAny_pure ?_)
  refine wpAny_bind (hcol _ _ fun h1 tk k1 => ?_)
  refine wpAny_bind (wpAny_newList ?_ (by rw [sizeLine_eq]; omega))
  have hoL : (h1.push (seqObj "list" vs.toArray 0)).get? h1.objs.size = some (seqObj "list" vs.toArray 0) := Heap.get?_push_size _ rfl
  show wpAny _ _ _ _ _ { s with heap := h1.push (seqObj "list" vs.toArray 0), toks := tk }
  refine wpAny_bind (wpAny_holding (wpAny_call_entry slot_list_sort ⟨_, hoL, rfl⟩ entry_list_sort ?body (args_list_sort _)))
  case body =>
    refine list_sort_cells (s := { s with heap := h1.push (seqObj "list" vs.toArray 0), toks := tk }) hoL (ht.keep fun b o e _ => Heap.get?_push_of_some _ (k1 b o e)) h64 fun p h' c b1 b2 b3 b4 => ?_
    exact ⟨_, rfl, wpAny_pure ⟨_, rfl, h h1 tk k1 p h' c b1 b2 (fun b o e => b3 b o (Nat.ne_of_lt (Heap.lt_size e)) (Heap.get?_push_of_some _ e)) b4⟩⟩
end
/-- the values are pairs of these ints -/
def CellsV (K : PySem.W.Frag) (H : Hp) : List V → List (Int × Int) → Prop
  | [], [] => True
  | y :: ys, c :: cs => (∃ b, y = .ref b ∧ SqT K H b [.int c.1, .int c.2]) ∧ CellsV K H ys cs
  | _, _ => False
theorem CellsV.length {K : PySem.W.Frag} {H : Hp} : ∀ {ys : List V} {cs : List (Int × Int)}, CellsV K H ys cs → ys.length = cs.length
  | [], [], _ => rfl
  | _ :: _, _ :: _, ⟨_, h⟩ => congrArg (· + 1) (CellsV.length h)
  | [], _ :: _, h => h.elim
  | _ :: _, [], h => h.elim
theorem CellsV.mono {K : PySem.W.Frag} {H H' : Hp} (e : Same H H') : ∀ {ys : List V} {cs : List (Int × Int)}, CellsV K H ys cs → CellsV K H' ys cs
  | [], [], _ => trivial
  | _ :: _, _ :: _, ⟨⟨b, h1, h2⟩, h⟩ => ⟨⟨b, h1, seqT e h2⟩, CellsV.mono e h⟩
  | [], _ :: _, h => h.elim
  | _ :: _, [], h => h.elim
theorem CellsV.get {K : PySem.W.Frag} {L : Kl} {H : Hp} : ∀ {ys : List V} {cs : List (Int × Int)} {i : Nat}, CellsV K H ys cs → i < cs.length → Rp K L H (ys.getD i .non) (cell (cs.getD i (0, 0)).1 (cs.getD i (0, 0)).2)
  | [], [], i, _, hi => by simp at hi
  | _ :: _, c :: _, 0, ⟨⟨b, h1, h2⟩, _⟩, _ => by
    subst h1
    exact .tup h2 (.cons (.int _) (.cons (.int _) .nil))
  | y :: ys, c :: cs, i + 1, ⟨_, h⟩, hi => by
    have := CellsV.get (L := L) (i := i) h (by simpa using hi)
    simpa using this
  | [], _ :: _, _, h, _ => h.elim
  | _ :: _, [], _, h, _ => h.elim
theorem CellsV.pick {K : PySem.W.Frag} {L : Kl} {H : Hp} {ys : List V} {cs : List (Int × Int)} (h : CellsV K H ys cs) : ∀ {p : List Nat}, (∀ i ∈ p, i < cs.length) → RpA K L H (p.map fun i => ys.getD i .non) ((p.map fun i => cs.getD i (0, 0)).map fun c => cell c.1 c.2)
  | [], _ => .nil
  | i :: p, hp => .cons (h.get (hp i List.mem_cons_self)) (CellsV.pick h fun j hj => hp j (List.mem_cons_of_mem _ hj))
theorem RpA.cells {K : PySem.W.Frag} {L : Kl} {G : Hp} : ∀ {vs : List V} {cs : List (Int × Int)}, RpA K L G vs (cs.map fun c => cell c.1 c.2) → CellsV K G vs cs
  | _, [], .nil => trivial
  | _, c :: cs, .cons h hs => by
    refine ⟨?_, RpA.cells hs⟩
    cases h with
    | tup hq hr =>
      obtain ⟨v, u, rfl, h1, h2⟩ := RpA.two hr
      cases h1
      cases h2
      exact ⟨_, rfl, hq⟩
theorem KeyOk.cells {K : PySem.W.Frag} {G : Hp} : ∀ {xs : List (List Int × Addr × Value)} {cs : List (Int × Int)}, KeyOk K G xs cs → CellsV K G (xs.map fun x => V.ref x.2.1) cs
  | [], [], _ => trivial
  | (_, b, _) :: _, (_, _) :: _, ⟨_, h, hs⟩ => ⟨⟨b, rfl, h⟩, KeyOk.cells hs⟩
  | [], _ :: _, h => h.elim
  | _ :: _, [], h => h.elim
theorem Vals.getD' : ∀ {xs : List V} {us : List Value} (i : Nat), Vals xs us → RelV (xs.getD i .non) (us.getD i .none)
  | [], [], _, .nil => by first | exact rfl | exact .non | constructor
  | _ :: _, _ :: _, 0, .cons r _ => r
  | _ :: _, _ :: _, i + 1, .cons _ t => by
    have := Vals.getD' i t
    simpa using this
theorem Vals.pick {xs : List V} {us : List Value} (h : Vals xs us) : ∀ p : List Nat, Vals (p.map fun i => xs.getD i .non) (p.map fun i => us.getD i .none)
  | [] => .nil
  | i :: p => .cons (Vals.getD' i h) (Vals.pick h p)
theorem dic_vals : ∀ xs : List (List Int × Addr × Value), Vals (xs.map fun x => V.ref x.2.1) (xs.map fun x => Value.ref x.2.1)
  | [] => .nil
  | _ :: xs => .cons rfl (dic_vals xs)
section
variable {X : Cx} {pins : List (Addr × Obj)} {σ : L2.St} {H : Hp} {s : Shared}
theorem tcs_of (I : Inv X pins σ H s) : ∀ {ys : List V} {us : List Value} {cs : List (Int × Int)}, CellsV X.K H ys cs → Vals ys us → TCs s.heap us cs
  | [], [], [], _, _ => trivial
  | y :: ys, u :: us, c :: cs, ⟨⟨b, e, hq⟩, h⟩, .cons r t => by
    refine ⟨?_, tcs_of I h t⟩
    subst e
    cases r
    obtain ⟨its, rv, ⟨o, ho, hc, n, hd⟩, _⟩ := I.tuple hq
    cases rv with
    | cons r1 t1 =>
      cases t1 with
      | cons r2 t2 =>
        cases t2
        obtain ⟨t, rfl⟩ : ∃ t, _ = Value.int c.1 t := r1
        obtain ⟨u, rfl⟩ : ∃ t, _ = Value.int c.2 t := r2
        exact ⟨b, o, t, u, n, rfl, ho, hc, hd⟩
  | [], _ :: _, _, _, r => by cases r
  | _ :: _, [], _, _, r => by cases r
  | [], [], _ :: _, h, _ => h.elim
  | _ :: _, _ :: _, [], h, _ => h.elim
/-- what sorted(x) makes of an x whose items these cells are -/
def rSort (it : V → Hp → List V → Prop) (K : PySem.W.Frag) : List V → Hp → VK → Prop := fun xs H Q => ∃ v ys cs, xs = [v] ∧ it v H ys ∧ CellsV K H ys cs ∧ ys.length < 64 ∧
  ∀ (q : Addr) (p : List Nat), H q = none → p.Perm (List.range ys.length) → p.map (fun i => cs.getD i (0, 0)) = srt cs → Q (.ref q) (upd H q (.lst (p.map fun i => ys.getD i .non)))
theorem call_sortedC {it : V → Hp → List V → Prop} (hit : ∀ (pins : List (Addr × Obj)) (s : Shared) (σ : L2.St) (H : Hp) (v : V) (u : Value) (ys : List V), Inv X pins σ H s → RelV v u → it v H ys → ys.length < 64 → ∃ us, Vals ys us ∧
      ∀ (R : List Value → Shared → Prop) (E' : Value → Shared → Prop), (∀ (h1 : Heap) (tk : Nat), (∀ b o, s.heap.get? b = some o → h1.get? b = some o) → R us { s with heap := h1, toks := tk }) → wpAny (model X.prog X.w) X.A.in1 (collect u) R E' s) :
    CallR X (.builtin "sorted") (rSort it X.K) := by
  intro pins s σ H xs us Q I r ⟨v, ys, cs, e, hv, hc, h64, k⟩
  subst e
  obtain ⟨u, rfl, rx⟩ := vals1 r
  obtain ⟨ws, rw, hcol⟩ := hit pins s σ H v u ys I rx hv h64
  have hlen := rw.length
  refine sorted_wp hcol (tcs_of I hc rw) (by omega) fun h1 tk k1 p h' c b1 b2 b3 b4 => ?_
  have I1 : Inv X pins σ H { s with heap := h1, toks := tk } := I.kept k1
  have hz : (p.map fun i => ys.getD i V.non).length ≤ sizeLine := by
    rw [List.length_map, b1.length_eq, List.length_range, sizeLine_eq]
    omega
  refine ⟨.ref h1.objs.size, _, I1.laid (t' := tk) (a := h1.objs.size) (o := .lst (p.map fun i => ys.getD i V.non)) b3 (Nat.le_refl _) ⟨hz, _, c, Vals.pick rw p, b4⟩, rfl, k _ p (I1.hok.fresh (Nat.le_refl _)) (by rw [hlen]; exact b1) b2⟩
theorem call_sortedL : CallR X (.builtin "sorted") (rSort (fun v H ys => ∃ a, v = .ref a ∧ SqL X.K H a ys) X.K) := call_sortedC fun pins s σ H v u ys I rx ⟨a, e, hq⟩ h64 => by
  subst e
  cases rx
  obtain ⟨its, ol, n, rv, hl, hlc, hld, hz⟩ := rd_list I hq
  refine ⟨its, rv, fun R E' h => ?_⟩
  have hlen := rv.length
  exact collect_list (vs := its) ⟨_, hl, hlc, n, hld⟩ (h _ s.toks fun b o e => by
    have hlt := Heap.lt_size e
    rw [Heap.get?_update_ne _ _ _ _ (Nat.ne_of_lt hlt), Heap.get?_push_ne _ _ _ (Nat.ne_of_lt hlt)]
    exact e) (by rw [sizeLine_eq]; omega)
theorem call_sortedD (hc : X.calm = true) : CallR X (.builtin "sorted") (rSort (fun v H ys => ∃ a xs, v = .ref a ∧ H a = some (.ext (DicO a xs)) ∧ ys = xs.map fun x => V.ref x.2.1) X.K) := call_sortedC fun pins s σ H v u ys I rx ⟨a, xs, e, hq, hy⟩ h64 => by
  subst e hy
  cases rx
  obtain ⟨⟨lo, hz, nd, o, es, ep, ho, hx, hd, he⟩, _⟩ := I.hok a _ hq
  refine ⟨xs.map fun x => Value.ref x.2.1, ?_, fun R E' h => ?_⟩
  · exact dic_vals xs
  · have hsz : es.size ≤ sizeLine := by
      have := congrArg List.length he
      rw [Array.length_toList, List.length_map] at this
      omega
    refine rd_collect (show X.A.in1.handled = none from I.ok.hd hc) lo ⟨o, ho, hx, hd⟩ hsz fun h' tk k => ?_
    rw [he, List.map_map]
    exact h h' tk k
end
section
variable {X : Cx} {L : Kl} {ρ : List Sl} {a : Expr} {pos p : Pos} {cs : List (Int × Int)}
theorem el_callB {id : String} {x : Str} {r : List V → Hp → VK → Prop} {e : Expr} {es : List Expr} {ds rs : List D} (hc : CallR X (.builtin id) r)
    (hr : ∀ (G H : Hp) (vs : List V), Same G H → RpA X.K L G vs ds → ∀ Q : VK, (∀ q ws H', Ext G H G H' → H q = none → G q = none → H' q = some (.lst ws) → RpA X.K L G ws rs → Q (.ref q) H') → r vs H Q)
    (hm : X.mg x = none) (hv : bootBuiltins x = some (.builtin id)) (ha : EVs X L ρ (e :: es) ds) (hg : Gl X x := by rfl) (hn : x ≠ "__name__" := by decide)
    (hdb : (x == ("__debug__" : Str)) = false := by decide) (he : starEach (e :: es) X.env = (false, eval e X.env) :: starEach es X.env := by rfl) (hpl : (backTo pos (starEach es X.env)).any (·.1) = false := by rfl) : EL X L ρ (.Call (.Name x p) (e :: es) [] pos) rs := .mk fun σ G0 H0 G H st Q k =>
  wE_of (pe_callB hc hg hm hv pa_w hn hdb he hpl) (ha.run σ G0 H0 G H st _ fun vs G1 H1 e1 r1 => hr G1 H1 vs e1.gh r1 Q fun q ws H2 e2 h1 h2 h3 h4 => k q ws G1 H2 (e1.trans e2) (e1.hh.free h1) h2 h3 h4)
theorem sort_fin {G H : Hp} {K : PySem.W.Frag} {ys : List V} (sm : Same G H) (hy : CellsV K G ys cs) {Q : VK} (k : ∀ q ws H', Ext G H G H' → H q = none → G q = none → H' q = some (.lst ws) → RpA K L G ws ((srt cs).map fun c => cell c.1 c.2) → Q (.ref q) H') :
    ∀ (q : Addr) (p : List Nat), H q = none → p.Perm (List.range ys.length) → p.map (fun i => cs.getD i (0, 0)) = srt cs → Q (.ref q) (upd H q (.lst (p.map fun i => ys.getD i .non))) := fun q p hq hp hs => by
  refine k q _ _ ⟨.refl _, sm.trans (same_new hq _), same_new hq _, fun b h => .inl h⟩ hq (sm.free hq) upd_same ?_
  rw [← hs]
  exact hy.pick fun i hi => by
    have := List.mem_range.mp (hp.mem_iff.mp hi)
    rw [hy.length] at this
    exact this
/-- sorted(a list of fewer than 64 cells) -/
theorem el_sortedL {x : Str} (ha : EV X L ρ a (.lst (cs.map fun c => cell c.1 c.2))) (h64 : cs.length < 64) (hm : X.mg x = none) (hx : x = "sorted" := by rfl) (hg : Gl X x := by rfl) (he : starEach [a] X.env = (false, eval a X.env) :: starEach [] X.env := by rfl) : EL X L ρ (.Call (.Name x p) [a] [] pos) ((srt cs).map fun c => cell c.1 c.2) := by
  subst hx
  refine el_callB call_sortedL (fun G H vs s r Q k => ?_) hm (by decide +kernel) (evs_cons ha evs_nil he) hg (he := he)
  obtain ⟨v, rfl, h⟩ := r.one
  cases h with
  | lst hq hr =>
    have hy := hr.cells
    exact ⟨_, _, cs, rfl, ⟨_, rfl, Same.seq s hq⟩, hy.mono s, by rw [hy.length]; exact h64, sort_fin s hy k⟩
/-- sorted(a dict of fewer than 64 cells) -/
theorem el_sortedD {x : Str} (ha : EV X L ρ a (.dct cs)) (h64 : cs.length < 64) (hm : X.mg x = none) (hx : x = "sorted" := by rfl) (hg : Gl X x := by rfl) (hc : X.calm = true := by rfl) (he : starEach [a] X.env = (false, eval a X.env) :: starEach [] X.env := by rfl) : EL X L ρ (.Call (.Name x p) [a] [] pos) ((srt cs).map fun c => cell c.1 c.2) := by
  subst hx
  refine el_callB (call_sortedD hc) (fun G H vs s r Q k => ?_) hm (by decide +kernel) (evs_cons ha evs_nil he) hg (he := he)
  obtain ⟨v, rfl, h⟩ := r.one
  cases h with
  | dct hq hk =>
    have hy := hk.cells
    exact ⟨_, _, cs, rfl, ⟨_, _, rfl, s _ _ hq, rfl⟩, hy.mono s, by rw [hy.length]; exact h64, sort_fin s hy k⟩
end
end Z

namespace Z
open PySem PySem.Spec PyProof.Rows PySem.W PySem.Calls L2

/-! ### dicts whose keys are cells -/
theorem dicO_stable (a : Addr) (xs : List (List Int × Addr × Value)) : ∀ h1 h2 : Heap, DicO a xs h1 → (∀ o, h1.get? a = some o → h2.get? a = some o) → DicO a xs h2 := fun h1 h2 ⟨q1, q2, q3, o, es, ep, ho, r⟩ k => ⟨q1, q2, q3, o, es, ep, k o ho, r⟩
def ins (cs : List (Int × Int)) (c : Int × Int) : List (Int × Int) := if c ∈ cs then cs else cs ++ [c]
theorem key_at {K : PySem.W.Frag} {G : Hp} {c : Int × Int} : ∀ {xs : List (List Int × Addr × Value)} {cs : List (Int × Int)}, KeyOk K G xs cs → (atKey xs [c.1, c.2]).isSome = decide (c ∈ cs)
  | [], [], _ => by simp [atKey]
  | (ks, b, u) :: xs, (x, y) :: cs, ⟨h1, h2, h3⟩ => by
    subst h1
    have ih := key_at (c := c) h3
    unfold atKey at ih ⊢
    rw [List.find?_cons]
    by_cases e : c = (x, y)
    · subst e
      simp
    · have n1 : decide (([x, y] : List Int) = [c.1, c.2]) = false := by
        apply decide_eq_false
        intro z
        apply e
        simp only [List.cons.injEq, and_true] at z
        exact Prod.ext z.1.symm z.2.symm
      dsimp only
      rw [n1, ih]
      apply decide_eq_decide.mpr
      rw [List.mem_cons]
      exact ⟨fun z => .inr z, fun z => z.elim (fun q => absurd q e) fun q => q⟩
  | [], _ :: _, h => h.elim
  | _ :: _, [], h => h.elim
theorem KeyOk.append {K : PySem.W.Frag} {G : Hp} {x y : Int} {b : Addr} {u : Value} (hb : SqT K G b [.int x, .int y]) : ∀ {xs : List (List Int × Addr × Value)} {cs : List (Int × Int)}, KeyOk K G xs cs → KeyOk K G (xs ++ [([x, y], b, u)]) (cs ++ [(x, y)])
  | [], [], _ => ⟨rfl, hb, trivial⟩
  | (_, _, _) :: _, (_, _) :: _, ⟨h1, h2, h3⟩ => ⟨h1, h2, KeyOk.append hb h3⟩
  | [], _ :: _, h => h.elim
  | _ :: _, [], h => h.elim
theorem KeyOk.put {K : PySem.W.Frag} {G : Hp} {k : List Int} {u : Value} : ∀ {xs : List (List Int × Addr × Value)} {cs : List (Int × Int)}, KeyOk K G xs cs → KeyOk K G (xs.map (putAt k u)) cs
  | [], [], _ => trivial
  | (ks, b, v) :: xs, (x, y) :: cs, ⟨h1, h2, h3⟩ => by
    show KeyOk K G (putAt k u (ks, b, v) :: _) _
    unfold putAt
    split
    · exact ⟨h1, h2, KeyOk.put h3⟩
    · exact ⟨h1, h2, KeyOk.put h3⟩
  | [], _ :: _, h => h.elim
  | _ :: _, [], h => h.elim
theorem KeyOk.stored {K : PySem.W.Frag} {G : Hp} {c : Int × Int} {b : Addr} {u : Value} {xs : List (List Int × Addr × Value)} {cs : List (Int × Int)} (h : KeyOk K G xs cs) (hb : SqT K G b [.int c.1, .int c.2]) : KeyOk K G (storedH xs [c.1, c.2] b u) (ins cs c) := by
  have e := key_at (c := c) h
  unfold storedH ins
  rw [e]
  by_cases m : c ∈ cs
  · rw [if_pos (by simpa using m), if_pos m]
    exact h.put
  · rw [if_neg (by simpa using m), if_neg m]
    exact h.append hb
theorem KeyOk.len {K : PySem.W.Frag} {G : Hp} : ∀ {xs : List (List Int × Addr × Value)} {cs : List (Int × Int)}, KeyOk K G xs cs → xs.length = cs.length
  | [], [], _ => rfl
  | _ :: _, _ :: _, ⟨_, _, h⟩ => congrArg (· + 1) (KeyOk.len h)
  | [], _ :: _, h => h.elim
  | _ :: _, [], h => h.elim
theorem ins_len (cs : List (Int × Int)) (c : Int × Int) : (ins cs c).length ≤ cs.length + 1 := by
  unfold ins
  split
  · omega
  · simp
section
variable {X : Cx} {pins : List (Addr × Obj)} {σ : L2.St} {H : Hp} {s : Shared}
theorem tkey_of (I : Inv X pins σ H s) {b : Addr} {x y : Int} (h : SqT X.K H b [.int x, .int y]) : (tupleKind (intKind X.prog X.w)).is s.heap [x, y] b := by
  obtain ⟨its, rv, ⟨o, ho, hc, n, hd⟩, _⟩ := I.tuple h
  refine ⟨o, its.toArray, n, ho, hc, hd, ?_⟩
  cases rv with
  | cons r1 t1 =>
    cases t1 with
    | cons r2 t2 =>
      cases t2
      obtain ⟨t, rfl⟩ : ∃ t, _ = Value.int x t := r1
      obtain ⟨u, rfl⟩ : ∃ t, _ = Value.int y t := r2
      exact .cons (by simp [intKind, Value.isInt]) (.cons (by simp [intKind, Value.isInt]) .nil)
theorem keys_of (I : Inv X pins σ H s) : ∀ {xs : List (List Int × Addr × Value)} {cs : List (Int × Int)}, KeyOk X.K H xs cs → ∀ x ∈ xs, (tupleKind (intKind X.prog X.w)).is s.heap x.1 x.2.1
  | [], [], _, x, hx => by cases hx
  | (ks, b, u) :: xs, (p, q) :: cs, ⟨h1, h2, h3⟩, x, hx => by
    rcases List.mem_cons.mp hx with rfl | hx
    · subst h1
      exact tkey_of I h2
    · exact keys_of I h3 x hx
  | [], _ :: _, h, _, _ => h.elim
  | _ :: _, [], h, _, _ => h.elim
theorem dicH_of (I : Inv X pins σ H s) {a : Addr} {xs : List (List Int × Addr × Value)} {cs : List (Int × Int)} (hq : H a = some (.ext (DicO a xs))) (hk : KeyOk X.K H xs cs) : (a == sysModules) = false ∧ xs.length ≤ sizeLine ∧ s.heap.DictOfH (tupleKind (intKind X.prog X.w)) a xs := by
  obtain ⟨⟨lo, hz, nd, o, es, ep, ho, hx, hd, he⟩, _⟩ := I.hok a _ hq
  exact ⟨lo, hz, o, es, ep, ho, hx, hd, he, keys_of I hk, nd⟩
/-- d[k] = v -/
def rSetD (K : PySem.W.Frag) : TSet := fun o i v H Q => ∃ (p b : Addr) (c : Int × Int) (xs : List (List Int × Addr × Value)) (cs : List (Int × Int)), o = .ref p ∧ i = .ref b ∧ H p = some (.ext (DicO p xs)) ∧ KeyOk K H xs cs ∧ SqT K H b [.int c.1, .int c.2] ∧ xs.length < sizeLine ∧ ∀ u, Q (upd H p (.ext (DicO p (storedH xs [c.1, c.2] b u))))
theorem set_dic (hu : X.A.units + 1 < cLine) : PSet X (rSetD X.K) := by
  intro pins s σ H o i v ov iv u Q I ro ri rv ⟨p, b, c, xs, cs, e1, e2, hq, hk, hb, hl, q⟩
  subst e1 e2
  cases ro
  cases ri
  obtain ⟨lo, hz, hm⟩ := dicH_of I hq hk
  refine wpAny_setItem_heap (knd := tupleKind (intKind X.prog X.w)) hu (tkey_of I hb) hm (fun h' hm' sb => ?_) hz
  obtain ⟨o, es, ep, ho, hx, hd, he, hks, nd⟩ := hm'
  have hlen : (storedH xs [c.1, c.2] b u).length ≤ sizeLine := by
    unfold storedH
    split
    · rw [List.length_map]; exact hz
    · rw [List.length_append]; exact hl
  exact ⟨_, I.write (x := p) (e := p) (o := .ext (DicO p (storedH xs [c.1, c.2] b u))) (by rw [hq]; trivial) (.inl rfl) (fun b' u' hb' e' => sb.extBut b' u' hb' e') ⟨o, ho⟩ ⟨⟨lo, hlen, nd, o, es, ep, ho, hx, hd, he⟩, ⟨o, ho⟩, dicO_stable _ _⟩, q u⟩
theorem op_notInD (hu : X.A.units + 1 < cLine) : OpR X (compareOp .NotIn) (fun x y H Q => ∃ (b a : Addr) (c : Int × Int) (xs : List (List Int × Addr × Value)) (cs : List (Int × Int)), x = .ref b ∧ y = .ref a ∧ H a = some (.ext (DicO a xs)) ∧ KeyOk X.K H xs cs ∧ SqT X.K H b [.int c.1, .int c.2] ∧ Q (.bl (!decide (c ∈ cs))) H) := by
  intro pins s σ H x y v u Q I rx ry ⟨b, a, c, xs, cs, e1, e2, hq, hk, hb, q⟩
  subst e1 e2
  cases rx
  cases ry
  obtain ⟨lo, hz, hm⟩ := dicH_of I hq hk
  refine wpAny_notIn_heap (knd := tupleKind (intKind X.prog X.w)) hu (tkey_of I hb) lo hm ?_
  rw [key_at (c := c) hk]
  exact ⟨.bl (!decide (c ∈ cs)), H, I.tok _, rfl, q⟩
theorem inv_big (I : Inv X pins σ H s) : sysModules < s.heap.objs.size := Nat.lt_trans (by decide) (I.mod.glob.keeps I.bk).lt
theorem pe_dnew0 {pos : Pos} : PE X (.Dict [] [] pos) (fun _ H Q => ∀ p, H p = none → Q (.ref p) (upd H p (.ext (DicO p [])))) := fun pins s σ H Q I h =>
  wpAny_Dict_empty ⟨.ref s.heap.objs.size, _, I.laid (a := s.heap.objs.size) (o := .ext (DicO s.heap.objs.size [])) (t' := s.toks) (fun _ _ q => Heap.get?_push_of_some _ q) (Nat.le_refl _)
    ⟨⟨beq_eq_false_iff_ne.mpr (Ne.symm (Nat.ne_of_lt (inv_big I))), Nat.zero_le _, List.nodup_nil, _, #[], 0, Heap.get?_push_size _ rfl, ⟨rfl, rfl, rfl⟩, rfl, rfl⟩, ⟨_, Heap.get?_push_size _ rfl⟩, dicO_stable _ _⟩, rfl, h _ (I.hok.fresh (Nat.le_refl _))⟩
end
section
variable {X : Cx} {L : Kl} {ρ : List Sl} {a b e k : Expr} {d : D} {pos p pos' : Pos} {E : En} {rest : List Stmt} {cs : List (Int × Int)}
/-- x = {} -/
theorem sv_newD (i : Nat) {x : Str} (h : SV X L (ρ.set i (.dic [])) rest E) (hN : X.N.Nodup := by first | assumption | decide +kernel) (hi : X.N[i]? = some x := by rfl) (hx : Loc X.env.scope x := by first | exact Or.inl rfl | exact Or.inr rfl)
    (hs : swapsWith (.Dict [] [] p) (some (.Name x pos')) pos.line X.env = pure false := by rfl) (hf : X.fn x = true ∨ X.env.scope.names.lookup x = some .local := by first | exact .inl rfl | exact .inr rfl) : SV X L ρ (.Assign [.Name x pos'] (.Dict [] [] p) pos :: rest) E := .mk fun σ G0 H0 G H st =>
  wSs_cons (wS_of (ps_set (i := i) hN hi hx pe_dnew0 hs hf) (fun q hq => h.run _ G0 H0 G _ (st.newDic (xs := []) (cs := []) hq trivial)))
/-- x[k] = e, x a dict of the def's own, k a cell -/
theorem sv_put (i : Nat) {x : Str} {px : Pos} {c : Int × Int} {n : Nat} (hr : Room n X.A) (hi : ρ[i]? = some (.dic cs)) (he : EV X L ρ e d) (hk : EV X L ρ k (cell c.1 c.2)) (hl : cs.length < sizeLine) (h : SV X L (ρ.set i (.dic (ins cs c))) rest E) (hN : X.N[i]? = some x := by rfl)
    (hv : Vis X.env.scope x := by first | exact Or.inl rfl | exact Or.inr (Or.inl rfl) | exact Or.inr (Or.inr rfl)) (hd : (x == ("__debug__" : Str)) = false := by decide) (hcd : (x == ("__classdict__" : Str)) = false := by decide)
    (hs : swapsWithSole [.Subscript (.Name x px) k pos'] e pos.line X.env = pure false := by rfl) (hw : swappedStores [.Subscript (.Name x px) k pos'] e X.env = pure none := by rfl)
    (h1 : (assignEach [.Subscript (.Name x px) k pos'] X.env).map (·.2) = [assign (.Subscript (.Name x px) k pos') X.env] := by rfl)
    (ha : ∀ v, assign (.Subscript (.Name x px) k pos') X.env v = (do
      let ov ← holding [v] (eval (.Name x px) X.env)
      let iv ← holding [v, ov] (eval k X.env)
      standAt pos'
      holding [v, ov, iv] (setItem ov iv v)
      release [v, ov, iv] []) := by intro _; rfl) : SV X L ρ (.Assign [.Subscript (.Name x px) k pos'] e pos :: rest) E := .mk fun σ G0 H0 G H st => by
  refine wSs_cons (wS_of (ps_asg pe_w (pg_sub (pe_var hN hv hd hcd) pe_w (set_dic (by have := hr.units; omega)) ha) hs hw h1) (he.run σ G0 H0 G H st _ fun v G1 H1 e1 r1 => ?_))
  have st1 := st.step e1
  obtain ⟨q, xs, k1, k2, k3, k4, k5⟩ := st1.sl i _ hi
  have hσ := join_some k1
  refine ⟨_, hσ, hk.run σ G0 H0 G1 H1 st1 _ fun z G2 H2 e2 r2 => ?_⟩
  have st2 := st1.step e2
  cases r2 with
  | tup hq hr2 =>
    obtain ⟨v1, v2, rfl, w1, w2⟩ := RpA.two hr2
    cases w1
    cases w2
    have hk5 := k5.mono e2.gg
    have hg2 : G2 q = none := e2.unknown k2 k3
    refine ⟨q, _, c, xs, cs, rfl, rfl, e2.hh _ _ k2, hk5.mono e2.gh, seqT e2.gh hq, by rw [k5.len]; exact hl, fun u => ?_⟩
    exact h.run σ G0 H0 G2 _ (st2.updO (r' := .dic (ins cs c)) hi trivial trivial hσ fun n1 n2 => ⟨q, _, rfl, upd_same, n1, n2, hk5.stored hq⟩)
/-- the own dict is a datum from here on -/
theorem sv_freezeD (i : Nat) (hi : ρ[i]? = some (.dic cs)) (h : SV X L (ρ.set i (.v (.dct cs))) rest E) : SV X L ρ rest E := .mk fun σ G0 H0 G H st => by
  obtain ⟨p, xs, _, _, _, _, st1⟩ := st.freezeD hi
  exact h.run σ G0 H0 _ H st1
theorem op2NotInD {K : PySem.W.Frag} {c : Int × Int} : Op2 K L (fun x y H Q => ∃ (b a : Addr) (c : Int × Int) (xs : List (List Int × Addr × Value)) (cs : List (Int × Int)), x = .ref b ∧ y = .ref a ∧ H a = some (.ext (DicO a xs)) ∧ KeyOk K H xs cs ∧ SqT K H b [.int c.1, .int c.2] ∧ Q (.bl (!decide (c ∈ cs))) H) (cell c.1 c.2) (.dct cs) (.bl (!decide (c ∈ cs))) := fun G H v u s r1 r2 Q kk => by
  cases r1 with
  | tup hq hr =>
    obtain ⟨v1, v2, rfl, w1, w2⟩ := RpA.two hr
    cases w1
    cases w2
    cases r2 with
    | dct hd hk => exact ⟨_, _, c, _, cs, rfl, rfl, s _ _ hd, hk.mono s, seqT s hq, kk _ G H (.refl s) (.bl _)⟩
theorem tv_notInD {c : Int × Int} {n : Nat} (hr : Room n X.A) (ha : EV X L ρ a (cell c.1 c.2)) (hb : EV X L ρ b (.dct cs)) (hm : behindInMarks .NotIn b = false := by rfl) : TV X L ρ (.Compare a [.NotIn] [b] pos) (!decide (c ∈ cs)) := tv_cmp (op_notInD (by have := hr.units; omega)) op2NotInD ha hb hm
end
end Z

namespace Z
open PySem PySem.Spec PyProof.Rows PySem.W PySem.Calls L2

theorem RpA.setI {K : PySem.W.Frag} {L : Kl} {G : Hp} {v : V} {d : D} (h : Rp K L G v d) : ∀ {vs : List V} {ds : List D}, RpA K L G vs ds → ∀ j : Nat, RpA K L G (vs.set j v) (ds.set j d)
  | _, _, .nil, _ => .nil
  | _, _, .cons _ t, 0 => .cons h t
  | _, _, .cons r t, j + 1 => .cons r (RpA.setI h t j)
section
variable {X : Cx} {L : Kl} {ρ : List Sl} {a b c e k o : Expr} {es rs : List Expr} {d da db : D} {ds : List D} {pos p pos' : Pos} {E : En} {rest : List Stmt} {cs : List (Int × Int)} {t u : Bool}
/-! ### is None -/
def isNon : D → Bool
  | .non => true
  | _ => false
theorem op2IsN {K : PySem.W.Frag} : Op2 K L (fun x y H Q => y = .non ∧ Q (.bl (decide (x = .non))) H) da .non (.bl (isNon da)) := fun G H v u s r1 r2 Q kk => by
  cases r2
  refine ⟨rfl, ?_⟩
  rw [show decide (v = V.non) = isNon da by cases r1 <;> rfl]
  exact kk _ G H (.refl s) (.bl _)
theorem ev_isN (ha : EV X L ρ a da) (hb : EV X L ρ b .non) : EV X L ρ (.Compare a [.Is] [b] pos) (.bl (isNon da)) := ev_cmp op_isN op2IsN ha hb (nomark _)
theorem tv_isN (ha : EV X L ρ a da) (hb : EV X L ρ b .non) : TV X L ρ (.Compare a [.Is] [b] pos) (isNon da) := tv_cmp op_isN op2IsN ha hb (nomark _)
/-! ### truth of a list -/
theorem tv_lst (h : EV X L ρ e (.lst ds)) (he : ∀ whole, isTrue e X.env whole = (do let v ← whole; standAt e.pos; holding [v] (truthy v)) := by intro _; rfl) : TV X L ρ e (!ds.isEmpty) := .mk fun σ G0 H0 G H st Q kk =>
  wT_of (pt_truth pe_w he) (h.run σ G0 H0 G H st _ fun v G1 H1 e1 r1 => by
    cases r1 with
    | @lst q vs _ hq hr =>
      refine ⟨_, .inl ⟨vs, Same.seq e1.gh hq, rfl⟩, ?_⟩
      rw [show vs.isEmpty = ds.isEmpty by cases hr <;> rfl]
      exact kk G1 H1 e1)
/-! ### in a list of cells -/
theorem lay_cells : ∀ l : List (Int × Int), okA (l.map cellP) = true ∧ PyData.canLayAll0 (pdA (l.map cellP)) = true
  | [] => ⟨rfl, rfl⟩
  | x :: r => by
    have ih := lay_cells r
    constructor
    · simp only [List.map_cons, okA, okd, ih.1]; rfl
    · simp only [List.map_cons, pdA, pd, PyData.canLayAll0, PyData.canLay0, ih.2]; rfl
theorem any_cells (x : Int × Int) : ∀ l : List (Int × Int), ((pdA (l.map cellP)).any fun y => PyData.eqv y (pd (cellP x))) = decide (x ∈ l)
  | [] => by simp [pdA]
  | y :: r => by
    have ih := any_cells x r
    simp only [List.map_cons, pdA, List.any_cons, ih]
    have e : PyData.eqv (pd (cellP y)) (pd (cellP x)) = decide (x = y) := by
      have := eqD_cell y.1 y.2 x.1 x.2
      unfold eqD at this
      rw [this]
      by_cases z : x = y
      · subst z
        simp
      · rw [decide_eq_false z]
        by_cases z1 : y.1 = x.1
        · have z2 : ¬ y.2 = x.2 := fun q => z (Prod.ext z1.symm q.symm)
          simp [z2]
        · simp [z1]
    rw [e]
    by_cases z : x = y
    · simp [z]
    · simp [z]
def rInC (K : PySem.W.Frag) (L : Kl) (neg : Bool) : R2 := fun x y H Q => ∃ (G : Hp) (c : Int × Int) (cs : List (Int × Int)), Same G H ∧ Rp K L G x (cellP c) ∧ Rp K L G y (.lst (cs.map cellP)) ∧ Q (.bl (if neg then !decide (c ∈ cs) else decide (c ∈ cs))) H
theorem op_notInC (hu : X.A.units + 64 < cLine) : OpR X (compareOp .NotIn) (rInC X.K L true) := by
  intro pins s σ H x y v u Q I rx ry ⟨G, c, cs, sm, ra, rb, q⟩
  obtain ⟨as, ha⟩ := Rp.reads I sm ra rx rfl
  obtain ⟨bs, hb⟩ := Rp.reads I sm rb ry (lay_cells cs).1
  refine SeqAt.notIn_list_reads hb ha (lay_cells cs).2 rfl ?_ ?_
  · have : (pd (cellP c)).depth ≤ 8 := by show PyData.depth (.tuple [.int c.1, .int c.2]) ≤ 8; simp only [PyData.depth, PyData.depthAll]; omega
    omega
  · rw [any_cells]
    exact ⟨.bl _, H, I, rfl, q⟩
theorem op2NotInC {K : PySem.W.Frag} {c : Int × Int} : Op2 K L (rInC K L true) (cellP c) (.lst (cs.map cellP)) (.bl (!decide (c ∈ cs))) := fun G H v u s r1 r2 Q kk => ⟨G, c, cs, s, r1, r2, kk _ G H (.refl s) (.bl _)⟩
theorem tv_notInC {c : Int × Int} {n : Nat} (hr : Room n X.A) (ha : EV X L ρ a (cellP c)) (hb : EV X L ρ b (.lst (cs.map cellP))) (hm : behindInMarks .NotIn b = false := by rfl) : TV X L ρ (.Compare a [.NotIn] [b] pos) (!decide (c ∈ cs)) := tv_cmp (op_notInC hr.units) op2NotInC ha hb hm
/-! ### own lists: x[i] = e, x.clear() -/
theorem sv_setL (i : Nat) {x : Str} {px : Pos} {n : Int} {j : Nat} (hi : ρ[i]? = some (.own ds)) (he : EV X L ρ e d) (hk : EV X L ρ k (.int n)) (hj : ixN ds.length n = some j) (h : SV X L (ρ.set i (.own (ds.set j d))) rest E) (hN : X.N[i]? = some x := by rfl)
    (hv : Vis X.env.scope x := by first | exact Or.inl rfl | exact Or.inr (Or.inl rfl) | exact Or.inr (Or.inr rfl)) (hd : (x == ("__debug__" : Str)) = false := by decide) (hcd : (x == ("__classdict__" : Str)) = false := by decide)
    (hs : swapsWithSole [.Subscript (.Name x px) k pos'] e pos.line X.env = pure false := by rfl) (hw : swappedStores [.Subscript (.Name x px) k pos'] e X.env = pure none := by rfl)
    (h1 : (assignEach [.Subscript (.Name x px) k pos'] X.env).map (·.2) = [assign (.Subscript (.Name x px) k pos') X.env] := by rfl)
    (ha : ∀ v, assign (.Subscript (.Name x px) k pos') X.env v = (do
      let ov ← holding [v] (eval (.Name x px) X.env)
      let iv ← holding [v, ov] (eval k X.env)
      standAt pos'
      holding [v, ov, iv] (setItem ov iv v)
      release [v, ov, iv] []) := by intro _; rfl) : SV X L ρ (.Assign [.Subscript (.Name x px) k pos'] e pos :: rest) E := .mk fun σ G0 H0 G H st => by
  refine wSs_cons (wS_of (ps_asg pe_w (pg_sub (pe_var hN hv hd hcd) pe_w set_list ha) hs hw h1) (he.run σ G0 H0 G H st _ fun v G1 H1 e1 r1 => ?_))
  have st1 := st.step e1
  obtain ⟨q, xs, k1, k2, k3, k4, k5⟩ := st1.sl i _ hi
  have hσ := join_some k1
  refine ⟨_, hσ, hk.run σ G0 H0 G1 H1 st1 _ fun z G2 H2 e2 r2 => ?_⟩
  have st2 := st1.step e2
  cases r2
  refine ⟨q, xs, n, j, rfl, rfl, e2.hh _ _ k2, by rw [k5.length]; exact hj, ?_⟩
  refine h.run σ G0 H0 G2 _ (st2.updO (r' := .own (ds.set j d)) hi trivial trivial hσ fun n1 n2 => ⟨q, _, rfl, upd_same, n1, n2, ?_⟩)
  exact RpA.setI (r1.mono e2.gg) (k5.mono e2.gg) j
theorem sv_clear (i : Nat) {x : Str} {apos cpos px : Pos} (hi : ρ[i]? = some (.own ds)) (h : SV X L (ρ.set i (.own [])) rest E) (hN : X.N[i]? = some x := by rfl)
    (hv : Vis X.env.scope x := by first | exact Or.inl rfl | exact Or.inr (Or.inl rfl) | exact Or.inr (Or.inr rfl)) (hd : (x == ("__debug__" : Str)) = false := by decide) (hcd : (x == ("__classdict__" : Str)) = false := by decide)
    (hbase : attributeBase (.Name x px) "clear" X.env (eval (.Name x px) X.env) = eval (.Name x px) X.env := by rfl) (hline : (apos.endLine == cpos.line) = true := by rfl)
    (hsw : swapsWith (.Call (.Attribute (.Name x px) "clear" apos) [] [] cpos) none pos.line X.env = pure false := by rfl) :
    SV X L ρ (.Expr (.Call (.Attribute (.Name x px) "clear" apos) [] [] cpos) pos :: rest) E := .mk fun σ G0 H0 G H st => by
  obtain ⟨q, vs, h1, h2, h3, h4, h5⟩ := st.sl i _ hi
  have hσ := join_some h1
  refine wSs_cons (wS_of (ps_expr (pe_bm0 PySem.F.plainAttrs_list PySem.F.slot_list_clear PySem.F.type_list_clear mt_clear (pe_var hN hv hd hcd) hbase hline) hsw) ?_)
  refine ⟨_, hσ, .inl ⟨rfl, _, SqL.of h2⟩, q, vs, rfl, rfl, h2, ?_⟩
  exact h.run σ G0 H0 G _ (st.updO (r' := .own []) hi trivial trivial hσ fun n1 n2 => ⟨q, _, rfl, upd_same, n1, n2, .nil⟩)
end
end Z

namespace Z
open PySem PySem.Spec PyProof.Rows PySem.W PySem.Calls L2

def pairD (p : D × D) : D := .tup [p.1, p.2]
def enumP (ds : List D) : List (D × D) := ds.zipIdx.map fun q => (.int (q.2 : Nat), q.1)
theorem enumP_get (ds : List D) (i : Nat) : ((enumP ds).map pairD)[i]? = (ds[i]?).map fun d => D.tup [.int (i : Nat), d] := by
  unfold enumP
  rw [List.map_map, List.getElem?_map, List.getElem?_zipIdx]
  cases ds[i]? with
  | none => rfl
  | some d => simp [pairD]
theorem enumP_len (ds : List D) : (enumP ds).length = ds.length := by unfold enumP; simp
section
variable {X : Cx} {L : Kl} {ρ : List Sl} {a b c e k o iter elt : Expr} {es rs ifs : List Expr} {d da db : D} {ds : List D} {pos p pos' : Pos} {E : En} {rest : List Stmt} {cs : List (Int × Int)} {t u : Bool} {scope : Scope} {js : List Nat} {ys : List Str}
/-- enumerate(a), as what a comprehension goes through -/
theorem src_enum {z : Str} {elts : List Expr} {x1 : Nat} {pt p2 : Pos} (ha : EV X L ρ a (.lst ds)) (hm : X.mg z = none) (hz : z = "enumerate" := by rfl) (hgl : Gl X "enumerate" := by rfl) (hst : starEach [a] X.env = [(false, eval a X.env)] := by rfl) (hpl : (backTo p2 (starEach [] X.env)).any (·.1) = false := by rfl) :
    Src X L ρ (.Tuple elts x1 pt) (.Call (.Name z p) [a] [] p2) ((enumP ds).map pairD) := .mk fun σ G0 H0 G H st pins s I => by
  subst hz
  refine pi_enum (pe_w (e := a)) hgl hm hst hpl pins s σ H _ I (ha.run σ G0 H0 G H st _ fun v G1 H1 e1 r1 => ?_)
  cases r1 with
  | @lst q vs _ hq hr =>
    have hlen : ((enumP ds).map pairD).length = vs.length := by rw [List.length_map, enumP_len, hr.length]
    refine ⟨q, rfl, ⟨vs, Same.seq e1.gh hq⟩, G1, e1, fun H' i sm hi => ⟨vs, vs[i]'(by rw [← hlen]; exact hi), Same.seq sm hq, by simp⟩, fun G' H' H'' i y _ sm sm' hy => ?_, fun H' i sm hi => ⟨vs, Same.seq sm hq, by rw [← hlen]; exact hi⟩⟩
    obtain ⟨p', w, rfl, hp', rfl, hy⟩ := hy
    obtain ⟨d, h1, h2⟩ := hr.get' (hy vs (Same.seq sm' (Same.seq sm hq)))
    have ex : Ext G' H' (upd G' p' (.tup [.int (i : Nat), w])) (upd H' p' (.tup [.int (i : Nat), w])) := .alloc sm' hp' _
    exact ⟨_, .tup [.int (i : Nat), d], ex, by rw [enumP_get, h1]; rfl, .tup (SqT.of upd_same) (.cons (.int _) (.cons ((h2.mono sm).mono ex.gg) .nil))⟩
def fP (f : D × D → D) : D → D
  | .tup [a, b] => f (a, b)
  | _ => .non
def zP (f : D × D → Bool) : D → Bool
  | .tup [a, b] => f (a, b)
  | _ => false
theorem filt_pair (f : D × D → D) (pz : D × D → Bool) : ∀ ps : List (D × D), ((ps.map pairD).filter (zP pz)).map (fP f) = (ps.filter pz).map f
  | [] => rfl
  | (x, y) :: ps => by
    have ih := filt_pair f pz ps
    rw [List.map_cons, List.filter_cons, List.filter_cons]
    show List.map (fP f) (if pz (x, y) = true then pairD (x, y) :: _ else _) = List.map f (if pz (x, y) = true then _ else _)
    by_cases h : pz (x, y) = true
    · rw [if_pos h, if_pos h, List.map_cons, List.map_cons, ih]
      rfl
    · rw [if_neg h, if_neg h, ih]
/-- [elt for x, y in iter if ..] -/
theorem el_compPS {x y : Str} {px py pt : Pos} {kt : Nat} {cl : List (Str × Addr)} {ps : List (D × D)} (f : D × D → D) (pz : D × D → Bool) (cl' : cl = cl) (cp : Caps X scope ρ js ys) (src : Src X L ρ (.Tuple [.Name x px, .Name y py] kt pt) iter (ps.map pairD)) (hlen : ps.length < sizeLine)
    (hb : ∀ (C : Addr) (s : Shared) (H : Hp) (fp : List Addr) (q : D × D), q ∈ ps → Tests (compCx X (x :: y :: ys) scope cl C s H fp) L (.v q.1 :: .v q.2 :: js.map fun j => ρ.getD j .no) ifs (pz q) ∧
      (pz q = true → EV (compCx X (x :: y :: ys) scope cl C s H fp) L (.v q.1 :: .v q.2 :: js.map fun j => ρ.getD j .no) elt (f q)))
    (hnd : (x :: y :: ys).Nodup := by decide +kernel) (hclos : closureFor scope X.env = pure cl := by rfl) (hcell : ∀ y ∈ scope.names, y.2 ≠ .cell := by decide +kernel) (hkind : scope.kind = .function := by rfl) (hnames : ∀ y ∈ scope.names, y.2 = .local → scope.names.lookup y.1 = some .local := by decide +kernel)
    (hx2 : (relabel scope X.env).names.lookup x = some .local := by rfl) (hy2 : (relabel scope X.env).names.lookup y = some .local := by rfl)
    (hcl : ∀ x c, cl.lookup x = some c → X.env.cells.lookup x = some c := by exact fun _ _ h => h) (hhas : (scope.names.all fun q => !(q.2 == .free || q.2 == .cell) || (cl.lookup q.1).isSome) = true := by rfl)
    (hcalm : X.calm = true := by rfl) (hs : ∀ x, foldedSetIterable iter X.env x = pure x := by intro _; rfl) : EL X L ρ (.ListComp elt [⟨.Tuple [.Name x px, .Name y py] kt pt, iter, ifs, 0⟩] scope pos) ((ps.filter pz).map f) := by
  rw [← filt_pair f pz ps]
  refine el_compS (ts := [x, y]) (ys := ys) (js := js) (cl := cl) (fs := fun d ρ => match d with | .tup [d1, d2] => (ρ.set 0 (.v d1)).set 1 (.v d2) | _ => ρ) (ok := fun d => ∃ d1 d2, d = .tup [d1, d2]) (fP f) (zP pz) src (by rw [List.length_map]; exact hlen) (fun d hd => ?_)
    (fun C s H fp => ⟨gv_pair (X := compCx X ([x, y] ++ ys) scope cl C s H fp) 0 1 hcalm hnd rfl (.inl hx2) rfl (.inl hy2) (.inr hx2) (.inr hy2), fun d hd => ?_⟩)
    (fun d hd => ?_) hclos hcell hkind hnames hcl (has_of hhas) cp.len cp.own cp.cap hcalm hs
  · obtain ⟨q, _, rfl⟩ := List.mem_map.mp hd
    exact ⟨_, _, rfl⟩
  · obtain ⟨q, hq, rfl⟩ := List.mem_map.mp hd
    exact hb C s H fp q hq
  · obtain ⟨q, hq, rfl⟩ := List.mem_map.mp hd
    refine ⟨by show (((rhoC ρ [x, y] js).set 0 _).set 1 _).length = _; rw [List.length_set, List.length_set], fun i r hr => ?_, fun i r h o => ?_⟩
    · match i, hr with
      | 0, hr => exact .inl (Option.some.inj hr).symm
      | 1, hr => exact .inl (Option.some.inj hr).symm
      | i + 2, hr => exact .inr hr
    · match i, h with
      | 0, h =>
        rw [← Option.some.inj h] at o
        exact o
      | 1, h =>
        rw [← Option.some.inj h] at o
        exact o
      | i + 2, h => exact cp.noown i r h o
/-! ### sum of a list of ints -/
def sumI : List Int → Int
  | [] => 0
  | x :: r => x + sumI r
theorem pre_sum : ∀ (ys : List (Int × Tok)) (f : Nat → Int), (∀ i, i < ys.length → f i = (ys.getD i (0, 0)).1) → preSum f ys.length = sumI (ys.map (·.1)) := by
  intro ys
  have key : ∀ (n : Nat) (zs : List Int) (f : Nat → Int), zs.length = n → (∀ i, i < n → f i = zs.getD i 0) → preSum f n = sumI zs := by
    intro n
    induction n with
    | zero => intro zs f h1 h2; rw [List.length_eq_zero_iff.mp h1]; rfl
    | succ n ih =>
      intro zs f h1 h2
      obtain ⟨ws, w, rfl⟩ : ∃ ws w, zs = ws ++ [w] := ⟨zs.dropLast, zs.getLast (fun z => by rw [z] at h1; cases h1), (List.dropLast_concat_getLast _).symm⟩
      have hl : ws.length = n := by rw [List.length_append] at h1; simpa using h1
      show preSum f n + f n = _
      rw [ih ws f hl (fun i hi => by rw [h2 i (by omega)]; simp [List.getElem?_append_left (by omega : i < ws.length)]), h2 n (by omega)]
      have e : (ws ++ [w]).getD n 0 = w := by rw [← hl]; simp
      rw [e]
      clear h1 h2 ih e hl
      induction ws with
      | nil => show (0 : Int) + w = w + 0; omega
      | cons x r ih2 => show x + sumI r + w = x + sumI (r ++ [w]); omega
  intro f h
  exact key ys.length (ys.map (·.1)) f (by rw [List.length_map]) fun i hi => by rw [h i hi]; simp [hi]
theorem pre_fit (f : Nat → Int) (n : Nat) (h : ∀ i, i < n → 0 ≤ f i ∧ f i ≤ 1073741824) : ∀ j, j ≤ n → 0 ≤ preSum f j ∧ preSum f j ≤ 1073741824 * j
  | 0, _ => ⟨Int.le_refl _, Int.le_refl _⟩
  | j + 1, hj => by
    have ih := pre_fit f n h j (by omega)
    have := h j (by omega)
    show 0 ≤ preSum f j + f j ∧ preSum f j + f j ≤ _
    omega
theorem call_sumL (hc : X.calm = true) : CallR X (.builtin "sum") (fun xs H Q => ∃ p ns, xs = [.ref p] ∧ SqL X.K H p (ns.map V.int) ∧ (∀ n ∈ ns, 0 ≤ n ∧ n ≤ 1073741824) ∧ ns.length ≤ 1048576 ∧ Q (.int (sumI ns)) H) := by
  intro pins s σ H xs us Q I r ⟨q, ns, e, hq, hb, hl, k⟩
  subst e
  obtain ⟨u, rfl, rx⟩ := vals1 r
  cases rx
  obtain ⟨its, rv, pl, hz⟩ := I.list hq
  have hi := intsAre_of rv
  obtain ⟨ys, e⟩ := hi.allInts.items
  have hns : ns = ys.toList.map (·.1) := by rw [← hi.numsOf, ← nums_intItems, ← e]
  have hlist := pl.isList
  rw [e] at hlist
  have hsz : ys.size = ns.length := by rw [hns, List.length_map, Array.length_toList]
  have hnum : ∀ i, i < ys.size → numAt ys i = (ys.toList.getD i (0, 0)).1 := fun i hi => by simp [numAt, hi]
  have hfit : ∀ i, i < ys.size → 0 ≤ numAt ys i ∧ numAt ys i ≤ 1073741824 := fun i hi => by
    rw [hnum i hi]
    refine hb _ ?_
    rw [hns]
    refine List.mem_map.mpr ⟨ys[i], by simp, ?_⟩
    simp [hi]
  have hp := pre_fit (numAt ys) ys.size hfit
  refine sum_intList (I.ok.hd hc) hlist (fun j hj => ?_) fun h' tk t' kp => ?_
  · have a1 := hfit j hj
    have a2 := hp (j + 1) hj
    refine ⟨⟨by omega, by omega⟩, by omega, ?_⟩
    have : ((j + 1 : Nat) : Int) ≤ 1048576 := by omega
    omega
  · refine ⟨.int (sumI ns), H, I.kept kp, ⟨t', ?_⟩, k⟩
    rw [hns, ← pre_sum ys.toList (numAt ys) (fun i hi => hnum i (by simpa using hi)), Array.length_toList]
theorem ev_sumL {ns : List Int} {x : Str} (ha : EV X L ρ a (.lst (ns.map D.int))) (hb : ∀ n ∈ ns, 0 ≤ n ∧ n ≤ 1073741824) (hl : ns.length ≤ 1048576) (hm : X.mg x = none) (hx : x = "sum" := by rfl) (hg : Gl X x := by rfl) (hc : X.calm = true := by rfl) (he : starEach [a] X.env = (false, eval a X.env) :: starEach [] X.env := by rfl) : EV X L ρ (.Call (.Name x p) [a] [] pos) (.int (sumI ns)) := by
  subst hx
  refine ev_callB (call_sumL hc) (fun G H vs s r Q kk => ?_) hm (by decide +kernel) (evs_cons ha evs_nil he) hg (he := he)
  obtain ⟨v, rfl, h⟩ := RpA.one r
  cases h with
  | lst hq hr =>
    have e := hr.of_ints
    subst e
    exact ⟨_, ns, rfl, Same.seq s hq, hb, hl, kk _ G H (.refl s) (.int _)⟩
end
end Z

namespace M
/-! ### the st-th cell of a ring -/
def rx (s st : Int) : Int := sx s (st / s) (st % s)
def ry (s st : Int) : Int := sy s (st / s) (st % s)
theorem rx_told {s d al : Int} (h1 : 1 ≤ s) (h2 : 0 ≤ d) (h3 : d < 6) (h4 : 1 ≤ al) (h5 : al ≤ s) : rx s (d * s + al) = sx s d al ∧ ry s (d * s + al) = sy s d al := by
  have h := At.told (p := lastP (s - 1) + d * s + al) ⟨h1, h2, h3, h4, h5, rfl⟩
  rw [show lastP (s - 1) + d * s + al - lastP (s - 1) = d * s + al by omega] at h
  exact h
theorem st_size {s st : Int} (h1 : 1 ≤ s) (h2 : 1 ≤ st) (h3 : st ≤ 6 * s) : SizeOf (lastP (s - 1) + st) s := by
  have e := lastP_step s
  have h0 : 0 ≤ lastP (s - 1) := by have := lastP_ge (s := s - 1) (by omega); omega
  exact ⟨by omega, by omega, by omega, .inr (by omega)⟩
theorem st_at {s st : Int} (h1 : 1 ≤ s) (h2 : 1 ≤ st) (h3 : st ≤ 6 * s) : ∃ d al, At (lastP (s - 1) + st) s d al ∧ rx s st = sx s d al ∧ ry s st = sy s d al := by
  obtain ⟨d, al, h⟩ := At.of_size (st_size h1 h2 h3) (by omega)
  have e := h.told
  rw [show lastP (s - 1) + st - lastP (s - 1) = st by omega] at e
  exact ⟨d, al, h, e⟩
theorem st_dist {s st : Int} (h1 : 1 ≤ s) (h2 : 1 ≤ st) (h3 : st ≤ 6 * s) : dist (rx s st) (ry s st) = s := by
  obtain ⟨d, al, h, e1, e2⟩ := st_at h1 h2 h3
  rw [e1, e2]
  exact side_dist h.d0 h.d1 h.a1 h.a2
theorem st_step {s st : Int} (h1 : 1 ≤ s) (h2 : 0 ≤ st) (h3 : st < 6 * s) : rx s (st + 1) = rx s st + wx ((st / s + 1) % 6) ∧ ry s (st + 1) = ry s st + wy ((st / s + 1) % 6) := by
  have e := Int.emod_add_mul_ediv st s
  have b1 := Int.emod_nonneg st (b := s) (by omega)
  have b2 := Int.emod_lt_of_pos st (b := s) (by omega)
  have hq0 : 0 ≤ st / s := Int.ediv_nonneg h2 (by omega)
  have hq6 : st / s < 6 := by
    rcases Int.lt_or_le (st / s) 6 with hd | hd
    · exact hd
    · have : s * 6 ≤ s * (st / s) := Int.mul_le_mul_of_nonneg_left hd (by omega)
      omega
  unfold rx ry
  have e' : st + 1 = (st % s + 1) + s * (st / s) := by omega
  by_cases hm : st % s + 1 < s
  · have d1 : (st + 1) / s = st / s := by rw [e', Int.add_mul_ediv_left _ _ (by omega), Int.ediv_eq_zero_of_lt (by omega) hm, Int.zero_add]
    have d2 : (st + 1) % s = st % s + 1 := by rw [e', Int.add_mul_emod_self_left, Int.emod_eq_of_lt (by omega) hm]
    rw [d1, d2]
    unfold sx sy
    rw [Int.add_mul, Int.add_mul]
    omega
  · have hs : st % s + 1 = s := by omega
    have d1 : (st + 1) / s = st / s + 1 := by rw [e', hs, Int.add_mul_ediv_left _ _ (by omega), Int.ediv_self (by omega), Int.add_comm]
    have d2 : (st + 1) % s = 0 := by rw [e', hs, Int.add_mul_emod_self_left, Int.emod_self]
    obtain ⟨c1, c2⟩ := corner (s := s) hq0 hq6
    rw [d1, d2, c1, c2]
    have hs' : st % s = s - 1 := by omega
    rw [hs']
    unfold sx sy
    rw [Int.sub_mul, Int.sub_mul]
    omega
theorem st_first {s : Int} (h1 : 1 ≤ s) : rx s 1 = s ∧ ry s 1 = 1 - s := by
  have h := rx_told (s := s) (d := 0) (al := 1) h1 (by omega) (by omega) (by omega) h1
  rw [show 0 * s + 1 = 1 by omega] at h
  rw [h.1, h.2]
  simp [sx, sy, wx, wy]
  omega
theorem st_last {s : Int} (h1 : 1 ≤ s) : rx s (6 * s) = s ∧ ry s (6 * s) = -s := by
  unfold rx ry
  rw [Int.mul_ediv_cancel _ (by omega), Int.mul_emod_left]
  simp [sx, sy, wx, wy]
end M

set_option maxHeartbeats 4000000
namespace M
/-! ### motions by their form -/
def rtx (t a b : Int) : Int := if t = 0 then a else if t = 1 then -b else if t = 2 then -a - b else if t = 3 then -a else if t = 4 then b else a + b
def rty (t a b : Int) : Int := if t = 0 then b else if t = 1 then a + b else if t = 2 then a else if t = 3 then -b else if t = 4 then -a - b else -a
structure Fm where
  fl : Bool
  t : Int
  x : Int
  y : Int
def Fm.ok (f : Fm) : Prop := 0 ≤ f.t ∧ f.t < 6
def carry (f : Fm) (c : Int × Int) : Int × Int :=
  if f.fl = true then (rtx f.t c.2 c.1 + f.x, rty f.t c.2 c.1 + f.y) else (rtx f.t c.1 c.2 + f.x, rty f.t c.1 c.2 + f.y)
def join (f g : Fm) : Fm := ⟨f.fl != g.fl, ((if g.fl = true then -f.t else f.t) + g.t) % 6, (carry g (f.x, f.y)).1, (carry g (f.x, f.y)).2⟩
def plainF : Fm := ⟨false, 0, 0, 0⟩
def backF (f : Fm) : Fm :=
  let u := join (join plainF ⟨false, 0, 0 + -1 * f.x, 0 + -1 * f.y⟩) ⟨false, -f.t % 6, 0, 0⟩
  if f.fl = true then join u ⟨true, 0, 0, 0⟩ else u
theorem tc {t : Int} (h : 0 ≤ t ∧ t < 6) : t = 0 ∨ t = 1 ∨ t = 2 ∨ t = 3 ∨ t = 4 ∨ t = 5 := by omega
theorem join_ok (f g : Fm) : (join f g).ok := by unfold Fm.ok join; exact ⟨Int.emod_nonneg _ (by omega), Int.emod_lt_of_pos _ (by omega)⟩
theorem plain_ok : plainF.ok := by unfold Fm.ok plainF; decide
theorem back_ok (f : Fm) : (backF f).ok := by unfold backF; dsimp only; split <;> exact join_ok _ _
/-! a turn, again and again -/
def rot1 (c : Int × Int) : Int × Int := (-c.2, c.1 + c.2)
def swp (c : Int × Int) : Int × Int := (c.2, c.1)
def pls (c d : Int × Int) : Int × Int := (c.1 + d.1, c.2 + d.2)
def rotN : Nat → Int × Int → Int × Int
  | 0, c => c
  | n + 1, c => rot1 (rotN n c)
theorem rot_add (m : Nat) (c : Int × Int) : ∀ n, rotN (m + n) c = rotN n (rotN m c)
  | 0 => rfl
  | n + 1 => by
    show rot1 (rotN (m + n) c) = rot1 (rotN n (rotN m c))
    rw [rot_add m c n]
theorem rot_six (c : Int × Int) : rotN 6 c = c := by
  obtain ⟨a, b⟩ := c
  simp only [rotN, rot1]
  congr 1 <;> omega
theorem rot_mul : ∀ (k : Nat) (c : Int × Int), rotN (6 * k) c = c
  | 0, _ => rfl
  | k + 1, c => by rw [Nat.mul_add, rot_add, rot_mul k, Nat.mul_one, rot_six]
theorem rot_mod (n : Nat) (c : Int × Int) : rotN (n % 6) c = rotN n c := by
  have h : rotN n c = rotN (6 * (n / 6) + n % 6) c := by rw [Nat.div_add_mod]
  rw [h, rot_add, rot_mul]
theorem rot_pls : ∀ (n : Nat) (c d : Int × Int), rotN n (pls c d) = pls (rotN n c) (rotN n d)
  | 0, _, _ => rfl
  | n + 1, c, d => by
    show rot1 (rotN n (pls c d)) = pls (rot1 (rotN n c)) (rot1 (rotN n d))
    rw [rot_pls n]
    simp only [rot1, pls]
    congr 1 <;> omega
theorem swp_rot1 (c : Int × Int) : swp (rot1 c) = rotN 5 (swp c) := by
  obtain ⟨a, b⟩ := c
  simp only [rotN, rot1, swp]
  congr 1 <;> omega
theorem swp_rot : ∀ (n : Nat) (c : Int × Int), swp (rotN n c) = rotN (5 * n) (swp c)
  | 0, _ => rfl
  | n + 1, c => by
    show swp (rot1 (rotN n c)) = _
    rw [swp_rot1, swp_rot n, ← rot_add]
    rfl
theorem rt_rot {t : Int} (h : 0 ≤ t ∧ t < 6) (a b : Int) : (rtx t a b, rty t a b) = rotN t.toNat (a, b) := by
  rcases tc h with rfl | rfl | rfl | rfl | rfl | rfl <;> simp [rtx, rty, rotN, rot1] <;> omega
theorem carry_rot {f : Fm} (hf : f.ok) (c : Int × Int) : carry f c = pls (rotN f.t.toNat (if f.fl = true then swp c else c)) (f.x, f.y) := by
  unfold carry
  split
  · rw [show swp c = (c.2, c.1) from rfl, ← rt_rot hf]
    rfl
  · rw [show c = (c.1, c.2) from rfl, ← rt_rot hf]
    rfl
theorem pls_assoc (a b c : Int × Int) : pls (pls a b) c = pls a (pls b c) := by simp only [pls]; congr 1 <;> omega
theorem swp_pls (a b : Int × Int) : swp (pls a b) = pls (swp a) (swp b) := rfl
theorem carry_join {f g : Fm} (hf : f.ok) (hg : g.ok) (c : Int × Int) : carry (join f g) c = carry g (carry f c) := by
  rw [carry_rot (join_ok f g), carry_rot hf, carry_rot hg]
  obtain ⟨fl, t, x, y⟩ := f
  obtain ⟨fl', t', x', y'⟩ := g
  unfold Fm.ok at hf hg
  dsimp only at hf hg
  have hp : ((join ⟨fl, t, x, y⟩ ⟨fl', t', x', y'⟩).x, (join ⟨fl, t, x, y⟩ ⟨fl', t', x', y'⟩).y) = pls (rotN t'.toNat (if fl' = true then swp (x, y) else (x, y))) (x', y') := carry_rot (f := ⟨fl', t', x', y'⟩) hg (x, y)
  rw [hp]
  show pls (rotN (((if fl' = true then -t else t) + t') % 6).toNat (if (fl != fl') = true then swp c else c)) _ = pls (rotN t'.toNat (if fl' = true then swp (pls (rotN t.toNat (if fl = true then swp c else c)) (x, y)) else pls (rotN t.toNat (if fl = true then swp c else c)) (x, y))) (x', y')
  cases fl' with
  | false =>
    have e : ((t + t') % 6).toNat = (t.toNat + t'.toNat) % 6 := by omega
    simp only [Bool.false_eq_true, if_false, Bool.bne_false]
    rw [e, rot_mod, rot_add, rot_pls, ← pls_assoc]
  | true =>
    have e : ((-t + t') % 6).toNat = (5 * t.toNat + t'.toNat) % 6 := by omega
    simp only [if_true]
    rw [e, rot_mod, rot_add, swp_pls, rot_pls, ← pls_assoc, swp_rot]
    cases fl <;> rfl
theorem carry_plain (c : Int × Int) : carry plainF c = c := by
  obtain ⟨a, b⟩ := c
  simp [carry, plainF, rtx, rty]
theorem carry_back {f : Fm} (hf : f.ok) (c : Int × Int) : carry (backF f) (carry f c) = c := by
  obtain ⟨fl, t, x, y⟩ := f
  obtain ⟨a, b⟩ := c
  unfold Fm.ok at hf
  dsimp only at hf
  rcases tc hf with rfl | rfl | rfl | rfl | rfl | rfl <;> cases fl <;> simp [backF, plainF, join, carry, rtx, rty] <;> omega
theorem dist_rot1 (c d : Int × Int) : dist ((rot1 c).1 - (rot1 d).1) ((rot1 c).2 - (rot1 d).2) = dist (c.1 - d.1) (c.2 - d.2) := by
  obtain ⟨a, b⟩ := c
  obtain ⟨e, g⟩ := d
  have hab : ∀ i, ab i = max i (-i) := fun i => by unfold ab; split <;> omega
  simp only [rot1, dist, mx, hab]
  omega
theorem dist_rot : ∀ (n : Nat) (c d : Int × Int), dist ((rotN n c).1 - (rotN n d).1) ((rotN n c).2 - (rotN n d).2) = dist (c.1 - d.1) (c.2 - d.2)
  | 0, _, _ => rfl
  | n + 1, c, d => by
    rw [← dist_rot n c d]
    exact dist_rot1 _ _
theorem dist_swap (a b : Int) : dist b a = dist a b := by
  simp only [dist, mx]
  rw [Int.add_comm b a]
  omega
theorem carry_dist {f : Fm} (hf : f.ok) (c d : Int × Int) : dist ((carry f c).1 - (carry f d).1) ((carry f c).2 - (carry f d).2) = dist (c.1 - d.1) (c.2 - d.2) := by
  rw [carry_rot hf, carry_rot hf]
  have e : ∀ u v p : Int × Int, dist ((pls u p).1 - (pls v p).1) ((pls u p).2 - (pls v p).2) = dist (u.1 - v.1) (u.2 - v.2) := fun u v p => by
    simp only [pls]
    rw [show u.1 + p.1 - (v.1 + p.1) = u.1 - v.1 by omega, show u.2 + p.2 - (v.2 + p.2) = u.2 - v.2 by omega]
  rw [e, dist_rot]
  split
  · exact dist_swap _ _
  · rfl
/-! ### deeds -/
inductive Dd where
  | turn (n : Int) | mirror | shift (x y : Int)
def Dd.fm : Dd → Fm
  | .turn n => ⟨false, n % 6, 0, 0⟩
  | .mirror => ⟨true, 0, 0, 0⟩
  | .shift x y => ⟨false, 0, x, y⟩
theorem Dd.ok (d : Dd) : d.fm.ok := by
  cases d <;> unfold Fm.ok Dd.fm <;> dsimp only <;> omega
def Dd.act (d : Dd) (c : Int × Int) : Int × Int := match d with
  | .turn n => (rtx (n % 6) c.1 c.2, rty (n % 6) c.1 c.2)
  | .mirror => (c.2, c.1)
  | .shift x y => (c.1 + x, c.2 + y)
theorem Dd.carry (d : Dd) (c : Int × Int) : M.carry d.fm c = d.act c := by
  obtain ⟨a, b⟩ := c
  cases d with
  | turn n => simp [M.carry, Dd.fm, Dd.act]
  | mirror => simp [M.carry, Dd.fm, Dd.act, rtx, rty]
  | shift x y => simp [M.carry, Dd.fm, Dd.act, rtx, rty]
def acts (c : Int × Int) (l : List Dd) : Int × Int := l.foldl (fun c d => d.act c) c
def formsF (l : List Fm) : Fm := l.foldl join plainF
theorem fold_ok : ∀ (l : List Fm) (g : Fm), g.ok → (l.foldl join g).ok
  | [], _, h => h
  | f :: r, g, _ => fold_ok r _ (join_ok g f)
theorem formsF_ok (l : List Fm) : (formsF l).ok := fold_ok l _ plain_ok
theorem fold_carry : ∀ (l : List Fm) (g : Fm) (c : Int × Int), g.ok → (∀ f ∈ l, f.ok) → carry (l.foldl join g) c = l.foldl (fun c f => carry f c) (carry g c)
  | [], _, _, _, _ => rfl
  | f :: r, g, c, h, hl => by
    rw [List.foldl_cons, List.foldl_cons, fold_carry r (join g f) c (join_ok g f) fun x hx => hl x (List.mem_cons_of_mem _ hx), carry_join h (hl f List.mem_cons_self)]
theorem formsF_carry (l : List Fm) (c : Int × Int) (hl : ∀ f ∈ l, f.ok) : carry (formsF l) c = l.foldl (fun c f => carry f c) c := by
  unfold formsF
  rw [fold_carry l _ _ plain_ok hl, carry_plain]
theorem acts_append (c : Int × Int) (l r : List Dd) : acts c (l ++ r) = acts (acts c l) r := by unfold acts; rw [List.foldl_append]
end M

set_option maxHeartbeats 4000000
set_option exponentiation.threshold 2000
namespace K09
open PySem L2 Z M
def top (i : Nat) : Stmt := PySem.Challenge.pw_sixcells_k09_whole_sight_moved.main.body.getD i (.Pass ⟨0, 0, 0, 0⟩)
/-- what the top has laid -/
structure Top (K : PySem.W.Frag) (mg : Str → Option Value) (L : Kl) : Prop where
  b_max : mg "max" = none
  b_list : mg "list" = none
  b_range : mg "range" = none
  b_sum : mg "sum" = none
  b_isinstance : mg "isinstance" = none
  b_int : mg "int" = none
  b_tuple : mg "tuple" = none
  b_abs : mg "abs" = none
  b_enumerate : mg "enumerate" = none
  b_sorted : mg "sorted" = none
  b_len : mg "len" = none
  b_bool : mg "bool" = none
  c_MIDDLE : ∃ a, mg "MIDDLE" = some (.ref a) ∧ ∀ G, Rp K L G (.ref a) (.tup [(.int 0), (.int 0)])
  c_WAYS : ∃ a, mg "WAYS" = some (.ref a) ∧ ∀ G, Rp K L G (.ref a) (.tup [(.tup [(.int 1), (.int 0)]), (.tup [(.int 0), (.int 1)]), (.tup [(.int (-1)), (.int 1)]), (.tup [(.int (-1)), (.int 0)]), (.tup [(.int 0), (.int (-1))]), (.tup [(.int 1), (.int (-1))])])
  c_PLAIN : ∃ a, mg "PLAIN" = some (.ref a) ∧ ∀ G, Rp K L G (.ref a) (.tup [(.bl false), (.int 0), (.tup [(.int 0), (.int 0)])])
  p__wall : GDef K mg "_wall" (top 0) ["k"]
  p_is_whole : GDef K mg "is_whole" (top 9) ["thing"]
  p_is_count : GDef K mg "is_count" (top 10) ["thing"]
  p_is_cell : GDef K mg "is_cell" (top 11) ["thing"]
  p_plus : ∃ t0, GDefD K mg "plus" (top 12) ["one", "other", "times"] [.int 1 t0]
  p_distance : GDef K mg "distance" (top 13) ["one", "other"]
  p_near_numbers : GDef K mg "near_numbers" (top 15) ["part", "whole"]
  p_nearest : GDef K mg "nearest" (top 16) ["one", "other", "at"]
  p_check_size : GDef K mg "check_size" (top 18) ["size"]
  p_side_cell : GDef K mg "side_cell" (top 19) ["size", "side", "along"]
  p_ring : GDef K mg "ring" (top 20) ["middle", "size"]
  p_stretched : GDef K mg "stretched" (top 22) ["places"]
  p_turned : GDef K mg "turned" (top 26) ["cell", "times"]
  p_carried : GDef K mg "carried" (top 27) ["cell", "form"]
  p_joined : GDef K mg "joined" (top 28) ["first", "second"]
  l_cell_at : GDef K mg "_law_cell_at" (top 35) ["_law_script", "_law_k"]
  l_whole : GDef K mg "_law_whole" (top 36) ["_law_found"]
  l_cell : GDef K mg "_law_cell" (top 37) ["_law_found"]
  l_number_by : GDef K mg "_law_number_by" (top 38) ["_law_cell_here"]
  l_reach : GDef K mg "_law_reach" (top 39) ["_law_one", "_law_other"]
  l_deed : GDef K mg "_law_deed" (top 40) ["_law_cell_here"]
  l_motion : GDef K mg "_law_motion" (top 41) ["_law_deed_here"]
  l_image : GDef K mg "_law_image" (top 42) ["_law_spot", "_law_deeds"]
  l_sorted_once : GDef K mg "_law_sorted_once" (top 43) ["_law_floor", "_law_shuts"]
  l_free_at : GDef K mg "_law_free_at" (top 44) ["_law_one", "_law_other", "_law_at", "_law_shuts"]
  l_seen : GDef K mg "_law_seen" (top 45) ["_law_one", "_law_other", "_law_shuts"]
  l_cells : GDef K mg "_law_cells" (top 46) ["_law_middle", "_law_size"]
  l_stretches : GDef K mg "_law_stretches" (top 47) ["_law_found"]
  l_due : GDef K mg "_law_due" (top 48) ["_law_middle", "_law_size", "_law_shuts"]
  l_many : GDef K mg "_law_many" (top 49) ["_law_stretches_here"]
  l_meets : GDef K mg "_law_meets" (top 50) ["_law_floor", "_law_one", "_law_other", "_law_there", "_law_deeds"]
  l_balls : GDef K mg "_law_balls" (top 51) ["_law_floor", "_law_one", "_law_other", "_law_size", "_law_shuts"]
  law : GDef K mg "law" (top 52) ["_law_script"]
  nm_Motion : L.nm 0 = []
  m_Motion : mg "Motion" = some (.ref (L.cls 0))
  k_Motion : KCls K L 0
  i_Motion : ClsI K (L.cls 0)
  t_Motion_Motion : PySem.W.kitOne K (.ref (L.cls 0)) (.ref (L.cls 0)) = some true
  d_Motion_form : MDef K L "form" "Motion.form" (inClass (top 29) 0) ["self"] [0]
  d_Motion_image : MDef K L "image" "Motion.image" (inClass (top 29) 1) ["self", "cell"] [0, 1, 2, 3, 4]
  d_Motion_back : MDef K L "back" "Motion.back" (inClass (top 29) 2) ["self"] [0, 1, 2, 3, 4]
  b_Motion : Bare K mg L "Motion" 0
  nm_Turn : L.nm 1 = [("times" : Str)]
  m_Turn : mg "Turn" = some (.ref (L.cls 1))
  k_Turn : KCls K L 1
  i_Turn : ClsI K (L.cls 1)
  t_Turn_Motion : PySem.W.kitOne K (.ref (L.cls 1)) (.ref (L.cls 0)) = some true
  d_Turn_init : ∃ t0, IDef K mg L "Turn" "Turn.__init__" 1 (inClass (top 30) 0) ["self", "times"] [.int 1 t0]
  d_Turn_form : MDef K L "form" "Turn.form" (inClass (top 30) 1) ["self"] [1]
  nm_Mirror : L.nm 2 = []
  m_Mirror : mg "Mirror" = some (.ref (L.cls 2))
  k_Mirror : KCls K L 2
  i_Mirror : ClsI K (L.cls 2)
  t_Mirror_Motion : PySem.W.kitOne K (.ref (L.cls 2)) (.ref (L.cls 0)) = some true
  d_Mirror_form : MDef K L "form" "Mirror.form" (inClass (top 31) 0) ["self"] [2]
  b_Mirror : Bare K mg L "Mirror" 2
  nm_Shift : L.nm 3 = [("by" : Str)]
  m_Shift : mg "Shift" = some (.ref (L.cls 3))
  k_Shift : KCls K L 3
  i_Shift : ClsI K (L.cls 3)
  t_Shift_Motion : PySem.W.kitOne K (.ref (L.cls 3)) (.ref (L.cls 0)) = some true
  d_Shift_init : IDef K mg L "Shift" "Shift.__init__" 3 (inClass (top 32) 0) ["self", "by"] []
  d_Shift_form : MDef K L "form" "Shift.form" (inClass (top 32) 1) ["self"] [3]
  nm_Chain : L.nm 4 = [("whole" : Str)]
  m_Chain : mg "Chain" = some (.ref (L.cls 4))
  k_Chain : KCls K L 4
  i_Chain : ClsI K (L.cls 4)
  t_Chain_Motion : PySem.W.kitOne K (.ref (L.cls 4)) (.ref (L.cls 0)) = some true
  d_Chain_init : IDef K mg L "Chain" "Chain.__init__" 4 (inClass (top 33) 0) ["self", "motions"] []
  d_Chain_form : MDef K L "form" "Chain.form" (inClass (top 33) 1) ["self"] [4]
  nm_Floor : L.nm 5 = [("standing" : Str)]
  m_Floor : mg "Floor" = some (.ref (L.cls 5))
  k_Floor : KCls K L 5
  i_Floor : ClsI K (L.cls 5)
  t_Floor_Floor : PySem.W.kitOne K (.ref (L.cls 5)) (.ref (L.cls 5)) = some true
  d_Floor_init : IDef K mg L "Floor" "Floor.__init__" 5 (inClass (top 23) 0) ["self", "walls"] []
  d_Floor_walls : MDef K L "walls" "Floor.walls" (inClass (top 23) 1) ["self"] [5]
  d_Floor_free_cells : MDef K L "free_cells" "Floor.free_cells" (inClass (top 23) 2) ["self", "one", "other", "at"] [5]
  d_Floor_barred : MDef K L "barred" "Floor.barred" (inClass (top 23) 3) ["self", "one", "other"] [5]
  d_Floor_sees : MDef K L "sees" "Floor.sees" (inClass (top 23) 4) ["self", "one", "other"] [5]
  d_Floor_free_row : MDef K L "free_row" "Floor.free_row" (inClass (top 23) 5) ["self", "one", "other"] [5]
  d_Floor_stretches : MDef K L "stretches" "Floor.stretches" (inClass (top 23) 6) ["self", "middle", "size"] [5]
  d_Floor_moved : MDef K L "moved" "Floor.moved" (inClass (top 23) 7) ["self", "motion"] [5]
section
variable {P : Program} {w : World} {K : PySem.W.Frag} {mg : Str → Option Value} {base : Heap} {L : Kl}
theorem Top.ev_MIDDLE (T : Top K mg L) {X : Cx} {ρ : List Sl} {pos : Pos} (hK : X.K = K := by rfl) (hm : X.mg = mg := by rfl) (hg : Gl X "MIDDLE" := by rfl) : EV X L ρ (.Name "MIDDLE" pos) (.tup [(.int 0), (.int 0)]) := by
  subst hK hm
  obtain ⟨a, h1, h2⟩ := T.c_MIDDLE
  exact ev_glob (v := .ref a) h1 rfl h2 hg
theorem Top.ev_WAYS (T : Top K mg L) {X : Cx} {ρ : List Sl} {pos : Pos} (hK : X.K = K := by rfl) (hm : X.mg = mg := by rfl) (hg : Gl X "WAYS" := by rfl) : EV X L ρ (.Name "WAYS" pos) (.tup [(.tup [(.int 1), (.int 0)]), (.tup [(.int 0), (.int 1)]), (.tup [(.int (-1)), (.int 1)]), (.tup [(.int (-1)), (.int 0)]), (.tup [(.int 0), (.int (-1))]), (.tup [(.int 1), (.int (-1))])]) := by
  subst hK hm
  obtain ⟨a, h1, h2⟩ := T.c_WAYS
  exact ev_glob (v := .ref a) h1 rfl h2 hg
theorem Top.ev_PLAIN (T : Top K mg L) {X : Cx} {ρ : List Sl} {pos : Pos} (hK : X.K = K := by rfl) (hm : X.mg = mg := by rfl) (hg : Gl X "PLAIN" := by rfl) : EV X L ρ (.Name "PLAIN" pos) (.tup [(.bl false), (.int 0), (.tup [(.int 0), (.int 0)])]) := by
  subst hK hm
  obtain ⟨a, h1, h2⟩ := T.c_PLAIN
  exact ev_glob (v := .ref a) h1 rfl h2 hg
/-! is_whole -/
def c_is_whole (ds : List D) (r : D) : Prop := ∃ i, ds = [.int i] ∧ r = .bl true
theorem sc_is_whole : FnScope ["thing"] ["thing"] (defScope (top 9)) := ⟨rfl, rfl, rfl, by decide +kernel, rfl, by decide +kernel, by decide +kernel⟩
theorem f_is_whole (T : Top K mg L) : Fn P w K mg base L "is_whole" 1 c_is_whole := by
  refine fn_def T.p_is_whole sc_is_whole (by rintro ds r ⟨i, rfl, _⟩; rfl) fun f cdv A outer s H E hr ds r hc => ?_
  obtain ⟨i, rfl, rfl⟩ := hc
  refine sv_ret (ev_and (ev_isiT (ev_var 0) (by constructor) (kii _) T.b_isinstance T.b_int) (fun _ => (ev_one (ev_not (ev_isiT (ev_var 0) (by constructor) (kib _) T.b_isinstance T.b_bool))))) ?_
  rfl
/-! is_count -/
def c_is_count (ds : List D) (r : D) : Prop := ∃ i : Int, ds = [.int i] ∧ r = .bl (decide (0 ≤ i))
theorem sc_is_count : FnScope ["thing"] ["thing"] (defScope (top 10)) := ⟨rfl, rfl, rfl, by decide +kernel, rfl, by decide +kernel, by decide +kernel⟩
theorem f_is_count (T : Top K mg L) : Fn P w K mg base L "is_count" 2 c_is_count := by
  refine fn_def T.p_is_count sc_is_count (by rintro ds r ⟨_, rfl, _⟩; rfl) fun f cdv A outer s H E hr ds r hc => ?_
  obtain ⟨i, rfl, rfl⟩ := hc
  refine sv_ret (ev_and (ev_call (f_is_whole T) hr (evs_cons (ev_var 0) evs_nil) ⟨_, rfl, rfl⟩) (fun _ => (ev_one (ev_ge (ev_var 0) ev_int)))) ?_
  rfl
/-! plus -/
def c_plus (ds : List D) (r : D) : Prop := ∃ a b c d t, ds = [cell a b, cell c d, .int t] ∧ IntMulOk t c ∧ IntMulOk t d ∧ r = cell (a + t * c) (b + t * d)
theorem sc_plus : FnScope ["one", "other", "times"] ["one", "other", "times"] (defScope (top 12)) := ⟨rfl, rfl, rfl, by decide +kernel, rfl, by decide +kernel, by decide +kernel⟩
theorem f_plus (T : Top K mg L) : Fn P w K mg base L "plus" 1 c_plus ∧ Fn P w K mg base L "plus" 1 (fun ds r => c_plus (ds ++ [.int 1]) r) := by
  obtain ⟨t0, hp⟩ := T.p_plus
  refine fn_defD (dvs := [.int 1]) (dds := [.int 1]) hp (.cons ⟨_, rfl⟩ .nil) (fun G => .cons (.int 1) .nil) sc_plus (by rintro ds r ⟨_, _, _, _, _, rfl, _⟩; rfl) fun f cdv A outer s H E hr ds r hc => ?_
  obtain ⟨a, b, c, d, t, rfl, h1, h2, rfl⟩ := hc
  refine sv_ret (ev_tup (evs_cons (ev_add (ev_t0 (ev_var 0) ev_int) (ev_mul (ev_var 2) (ev_t0 (ev_var 1) ev_int) h1)) (evs_cons (ev_add (ev_t1 (ev_var 0) ev_int) (ev_mul (ev_var 2) (ev_t1 (ev_var 1) ev_int) h2)) evs_nil))) ?_
  rfl
/-! distance -/
def c_distance (ds : List D) (r : D) : Prop := ∃ a b c d : Int, ds = [cell a b, cell c d] ∧ r = .int (dist (a - c) (b - d))
theorem sc_distance : FnScope ["one", "other", "gap"] ["one", "other"] (defScope (top 13)) := ⟨rfl, rfl, rfl, by decide +kernel, rfl, by decide +kernel, by decide +kernel⟩
theorem f_distance (T : Top K mg L) : Fn P w K mg base L "distance" 2 c_distance := by
  refine fn_def T.p_distance sc_distance (by rintro ds r ⟨_, _, _, _, rfl, _⟩; rfl) fun f cdv A outer s H E hr ds r hc => ?_
  obtain ⟨a, b, c, d, rfl, rfl⟩ := hc
  have hN := sc_distance.nd
  refine sv_set 2 (ev_call (f_plus T).1 hr (evs_cons (ev_var 0) (evs_cons (ev_var 1) (evs_cons (ev_neg ev_int) evs_nil))) ⟨_, _, _, _, _, rfl, mul_m1 _, mul_m1 _, rfl⟩) ?_
  refine sv_ret (ev_max3 (ev_abs (ev_t0 (ev_var 2) ev_int) T.b_abs) (ev_abs (ev_t1 (ev_var 2) ev_int) T.b_abs) (ev_abs (ev_add (ev_t0 (ev_var 2) ev_int) (ev_t1 (ev_var 2) ev_int)) T.b_abs) T.b_max) ?_
  have e1 : a + -1 * c = a - c := by omega
  have e2 : b + -1 * d = b - d := by omega
  show D.int _ = D.int _
  rw [e1, e2]
  rfl
/-! near_numbers -/
def c_near_numbers (ds : List D) (r : D) : Prop := ∃ p w : Int, ds = [.int p, .int w] ∧ 0 < w ∧ w < 2 ^ 500 ∧ r = .lst ((nn p w).map .int)
theorem sc_near_numbers : FnScope ["part", "whole", "least", "most"] ["part", "whole"] (defScope (top 15)) := ⟨rfl, rfl, rfl, by decide +kernel, rfl, by decide +kernel, by decide +kernel⟩
theorem f_near_numbers (T : Top K mg L) : Fn P w K mg base L "near_numbers" 1 c_near_numbers := by
  refine fn_def T.p_near_numbers sc_near_numbers (by rintro ds r ⟨_, _, rfl, _⟩; rfl) fun f cdv A outer s H E hr ds r hc => ?_
  obtain ⟨p, w, rfl, h0, h1, rfl⟩ := hc
  have hN := sc_near_numbers.nd
  have hb : 2 * w < 2 ^ 1024 := by omega
  have e := nn_least (p := p) h0
  have hl := nn_len (p := p) h0
  rw [e, List.length_map, List.length_range] at hl
  refine sv_set 2 (ev_neg (ev_fdivB (ev_sub (ev_var 1) (ev_mul ev_int (ev_var 0) (mul_l (by decide) (by decide)))) (ev_mul ev_int (ev_var 1) (mul_l (by decide) (by decide))) (by omega) hb)) ?_
  refine sv_set 3 (ev_fdivB (ev_add (ev_mul ev_int (ev_var 0) (mul_l (by decide) (by decide))) (ev_var 1)) (ev_mul ev_int (ev_var 1) (mul_l (by decide) (by decide))) (by omega) hb) ?_
  refine sv_ret (EL.ev (el_listRange (ev_var 2) (ev_add (ev_var 3) ev_int) (by omega) T.b_list T.b_range)) ?_
  rw [e]
/-! nearest -/
/-- the nearest cells of a point between two cells -/
def nearL (a b p q k : Int) : List (Int × Int) := if dist (a - p) (b - q) = 0 then [(a, b)] else (near (dist (a - p) (b - q)) (k * (p - a)) (k * (q - b))).map fun c => (a + c.1, b + c.2)
def Mid (i : Int) : Prop := -(2 ^ 200) < i ∧ i < 2 ^ 200
theorem Mid.dist {i j : Int} (h1 : Mid i) (h2 : Mid j) : dist i j < 2 ^ 201 := by
  unfold Mid at h1 h2
  unfold M.dist mx ab
  split <;> split <;> split <;> omega
theorem Mid.neg {i : Int} (h : Mid i) : Mid (-i) := by unfold Mid at h ⊢; omega
theorem Mid.mul {i k : Int} (h : Mid i) (h0 : 0 ≤ k) (h1 : k < 2 ^ 201) : -(2 ^ 402) < k * i ∧ k * i < 2 ^ 402 := by
  unfold Mid at h
  have a1 : k * i ≤ k * 2 ^ 200 := Int.mul_le_mul_of_nonneg_left (by omega) h0
  have a2 : k * (-(2 ^ 200)) ≤ k * i := Int.mul_le_mul_of_nonneg_left (by omega) h0
  omega
theorem nn_bound {p w x : Int} (hw : 0 < w) (hw2 : w < 2 ^ 201) (h1 : -(2 ^ 402) < p) (h2 : p < 2 ^ 402) (hx : x ∈ nn p w) : -(2 ^ 403) < x ∧ x < 2 ^ 403 := by
  have h := nn_mem hw hx
  by_cases hs : 0 ≤ x
  · have : 1 * x ≤ w * x := Int.mul_le_mul_of_nonneg_right (by omega) hs
    omega
  · have : w * x ≤ 1 * x := Int.mul_le_mul_of_nonpos_right (by omega) (by omega)
    omega
theorem len_flat {α β : Type} {g : α → List β} {n : Nat} : ∀ {l : List α}, (∀ x, (g x).length ≤ n) → (l.flatMap g).length ≤ n * l.length
  | [], _ => by simp
  | x :: r, h => by
    rw [List.flatMap_cons, List.length_append, List.length_cons, Nat.mul_add]
    have := len_flat (l := r) h
    have := h x
    omega
def c_nearest (ds : List D) (r : D) : Prop := ∃ a b p q k : Int, ds = [cell a b, cell p q, .int k] ∧ 0 ≤ k ∧ k ≤ dist (a - p) (b - q) ∧ Mid (a - p) ∧ Mid (b - q) ∧ r = .lst ((nearL a b p q k).map cellP)
theorem sc_nearest : FnScope ["one", "other", "at", "far", "point", "cells", "x", "y"] ["one", "other", "at"] (defScope (top 16)) := ⟨rfl, rfl, rfl, by decide +kernel, rfl, by decide +kernel, by decide +kernel⟩
theorem f_nearest (T : Top K mg L) : Fn P w K mg base L "nearest" 3 c_nearest := by
  refine fn_def T.p_nearest sc_nearest (by rintro ds r ⟨_, _, _, _, _, rfl, _⟩; rfl) fun f cdv A outer s H E hr ds r hc => ?_
  obtain ⟨a, b, p, q, k, rfl, h0, h1, m1, m2, rfl⟩ := hc
  have hN := sc_nearest.nd
  refine sv_set 3 (ev_call (f_distance T) hr (evs_cons (ev_var 0) (evs_cons (ev_var 1) evs_nil)) ⟨_, _, _, _, rfl, rfl⟩) ?_
  have hfar := m1.dist m2
  have hd := dist_nonneg (a - p) (b - q)
  generalize hF : dist (a - p) (b - q) = far at *
  refine sv_if (WV.tv (wv_or (tv_not (tv_val (ev_call (f_is_count T) hr (evs_cons (ev_var 2) evs_nil) ⟨_, rfl, rfl⟩))) (fun _ => (wv_or1 (tv_gt (ev_var 2) (ev_var 3)))))) (fun c => ?_) (fun c => ?_)
  · simp at c
    omega
  refine sv_nil ?_
  refine sv_if (tv_eq hr (ev_var 3) ev_int) (fun c => ?_) (fun c => ?_)
  · rw [eqD_int] at c
    refine sv_ret (ev_lst (evs_cons (ev_var 0) evs_nil)) ?_
    have c' : far = 0 := of_decide_eq_true c
    unfold nearL
    rw [hF, if_pos c']
    rfl
  rw [eqD_int] at c
  have c' : ¬ far = 0 := of_decide_eq_false c
  refine sv_nil ?_
  have e1 : p + -1 * a = p - a := by omega
  have e2 : q + -1 * b = q - b := by omega
  have n1 : Mid (p - a) := by have := m1.neg; rw [show -(a - p) = p - a by omega] at this; exact this
  have n2 : Mid (q - b) := by have := m2.neg; rw [show -(b - q) = q - b by omega] at this; exact this
  have okm : ∀ i, Mid i → IntMulOk k i := fun i hi => by unfold Mid at hi; exact mulB (by omega) (by omega) (by omega) (by omega)
  refine sv_set 4 (ev_call (f_plus T).1 (hr.mono (by decide)) (evs_cons T.ev_MIDDLE (evs_cons (ev_call (f_plus T).1 (hr.mono (by decide)) (evs_cons (ev_var 1) (evs_cons (ev_var 0) (evs_cons (ev_neg ev_int) evs_nil))) ⟨_, _, _, _, _, rfl, mul_m1 _, mul_m1 _, rfl⟩) (evs_cons (ev_var 2) evs_nil))) ⟨_, _, _, _, _, rfl, by rw [e1]; exact okm _ n1, by rw [e2]; exact okm _ n2, rfl⟩) ?_
  have b1 := n1.mul h0 (by omega)
  have b2 := n2.mul h0 (by omega)
  have hnear : nearL a b p q k = (near far (k * (p - a)) (k * (q - b))).map fun c => (a + c.1, b + c.2) := by
    unfold nearL
    rw [hF, if_neg c']
  rw [hnear, e1, e2, Int.zero_add, Int.zero_add]
  generalize k * (p - a) = u at *
  generalize k * (q - b) = v at *
  have hw : 0 < far := by omega
  let sh : Int × Int → Int × Int := fun c => (a + c.1, b + c.2)
  let cnd : Int → Int → Bool := fun x y => decide (2 * dist (far * x - u) (far * y - v) ≤ far)
  let g : Int → List (Int × Int) := fun x => ((nn v far).filter (cnd x)).map fun y => (x, y)
  have g2 : ∀ x, (g x).length ≤ 2 := fun x => by
    show (((nn v far).filter (cnd x)).map fun y => (x, y)).length ≤ 2
    rw [List.length_map]
    exact Nat.le_trans (List.length_filter_le _ _) (nn_len hw)
  refine sv_new 5 evs_nil (by decide) ?_
  refine sv_for_seq (fun i ρ => ∃ r6 r7, ρ = [.v (cell a b), .v (cell p q), .v (.int k), .v (.int far), .v (cell u v), .own (((((nn u far).take i).flatMap g).map sh).map cellP), r6, r7]) (ev_call (f_near_numbers T) (hr.mono (by decide)) (evs_cons (ev_t0 (ev_var 4) ev_int) (evs_cons (ev_var 3) evs_nil)) ⟨_, _, rfl, hw, by omega, rfl⟩) (gv_name 6) (fun _ _ => trivial) ⟨_, _, rfl⟩ ?_ ?_
  · rintro i d ρ' hdi ⟨r6, r7, rfl⟩
    rw [List.getElem?_map] at hdi
    cases hx : (nn u far)[i]? with
    | none => rw [hx] at hdi; cases hdi
    | some x =>
      rw [hx] at hdi
      cases hdi
      have hxm := List.mem_of_getElem? hx
      have hxb := nn_bound hw hfar b1.1 b1.2 hxm
      have len1 : (((nn u far).take i).flatMap g).length ≤ 4 := by
        have := len_flat (l := (nn u far).take i) g2
        have h2 : ((nn u far).take i).length ≤ 2 := Nat.le_trans (List.length_take_le' _ _) (nn_len hw)
        omega
      refine sv_for_seq (fun j ρ => ∃ r7, ρ = [.v (cell a b), .v (cell p q), .v (.int k), .v (.int far), .v (cell u v), .own ((((((nn u far).take i).flatMap g) ++ (((nn v far).take j).filter (cnd x)).map fun y => (x, y)).map sh).map cellP), .v (.int x), r7]) (ev_call (f_near_numbers T) (hr.mono (by decide)) (evs_cons (ev_t1 (ev_var 4) ev_int) (evs_cons (ev_var 3) evs_nil)) ⟨_, _, rfl, hw, by omega, rfl⟩) (gv_name 7) (fun _ _ => trivial) ⟨_, by simp; rfl⟩ ?_ ?_
      · rintro j d ρ' hdj ⟨r7', rfl⟩
        rw [List.getElem?_map] at hdj
        cases hy : (nn v far)[j]? with
        | none => rw [hy] at hdj; cases hdj
        | some y =>
          rw [hy] at hdj
          cases hdj
          have hyb := nn_bound hw hfar b2.1 b2.2 (List.mem_of_getElem? hy)
          have tk : ((nn v far).take (j + 1)).filter (cnd x) = ((nn v far).take j).filter (cnd x) ++ (if cnd x y then [y] else []) := by
            rw [take_snoc hy, List.filter_append, List.filter_cons]
            split <;> simp_all
          refine sv_if (tv_le (ev_mul ev_int (ev_call (f_distance T) hr (evs_cons (ev_tup (evs_cons (ev_mul (ev_var 3) (ev_var 6) (mulB (by omega) (by omega) (by omega) (by omega))) (evs_cons (ev_mul (ev_var 3) (ev_var 7) (mulB (by omega) (by omega) (by omega) (by omega))) evs_nil))) (evs_cons (ev_var 4) evs_nil)) ⟨_, _, _, _, rfl, rfl⟩) (mul_l (by decide) (by decide))) (ev_var 3)) (fun c => ?_) (fun c => ?_)
          · have c : cnd x y = true := c
            refine sv_append 5 rfl (ev_call (f_plus T).2 (hr.mono (by decide)) (evs_cons (ev_var 0) (evs_cons (ev_tup (evs_cons (ev_var 6) (evs_cons (ev_var 7) evs_nil))) evs_nil)) ⟨_, _, _, _, _, rfl, mul_1 _, mul_1 _, rfl⟩) ?_ ?_
            · refine small63 ?_
              have h3 : (((nn v far).take j).filter (cnd x)).length ≤ 2 := Nat.le_trans (List.length_filter_le _ _) (Nat.le_trans (List.length_take_le' _ _) (nn_len hw))
              rw [List.length_map, List.length_map, List.length_append, List.length_map]
              omega
            refine sv_nil (sv_nil ⟨.v (.int y), ?_⟩)
            rw [tk, c, if_pos rfl]
            simp only [List.map_append, List.map_cons, List.map_nil, List.append_assoc, sh, cellP, Int.one_mul]
            rfl
          · have c : cnd x y = false := c
            refine sv_nil (sv_nil ⟨.v (.int y), ?_⟩)
            rw [tk, c, if_neg (by decide), List.append_nil]
            rfl
      · rintro ρ' ⟨r7', rfl⟩
        refine sv_nil ⟨.v (.int x), r7', ?_⟩
        rw [List.length_map, List.take_length, take_snoc hx, List.flatMap_append]
        simp only [List.flatMap_cons, List.flatMap_nil, List.append_nil]
        rfl
  · rintro ρ' ⟨r6, r7, rfl⟩
    refine sv_freeze 5 rfl ?_
    refine sv_ret (ev_var 5) ?_
    rw [List.length_map, List.take_length]
    rfl
/-! +near -/
/-- from the other end -/
theorem nearL_back {a b p q k : Int} : nearL p q a b (dist (a - p) (b - q) - k) = nearL a b p q k ∨ (dist (a - p) (b - q) = 0 ∧ a = p ∧ b = q) := by
  have e : dist (p - a) (q - b) = dist (a - p) (b - q) := by rw [← dist_neg (a - p) (b - q), show -(a - p) = p - a by omega, show -(b - q) = q - b by omega]
  unfold nearL
  rw [e]
  generalize hF : dist (a - p) (b - q) = far
  by_cases h : far = 0
  · refine .inr ⟨h, ?_⟩
    rw [h] at hF
    unfold dist mx ab at hF
    split at hF <;> split at hF <;> split at hF <;> omega
  · have hw : 0 < far := by have := dist_nonneg (a - p) (b - q); omega
    refine .inl ?_
    rw [if_neg h, if_neg h]
    have e1 : (far - k) * (a - p) = k * (p - a) + far * (a - p) := by rw [Int.sub_mul, show k * (p - a) = -(k * (a - p)) by rw [← Int.mul_neg]; congr 1; omega]; omega
    have e2 : (far - k) * (b - q) = k * (q - b) + far * (b - q) := by rw [Int.sub_mul, show k * (q - b) = -(k * (b - q)) by rw [← Int.mul_neg]; congr 1; omega]; omega
    rw [e1, e2, near_shift hw, List.map_map]
    congr 1
    funext c
    simp only [Function.comp]
    congr 1 <;> omega
theorem nearL_sym {a b p q k : Int} : nearL p q a b (dist (a - p) (b - q) - k) = nearL a b p q k := by
  rcases nearL_back (a := a) (b := b) (p := p) (q := q) (k := k) with h | ⟨h, rfl, rfl⟩
  · exact h
  · unfold nearL
    rw [h, if_pos rfl, if_pos rfl]
/-! side_cell -/
def sideC (s d al : Int) : D := cell (sx s d al) (sy s d al)
def c_side_cell (ds : List D) (r : D) : Prop := ∃ s d al : Int, ds = [.int s, .int d, .int al] ∧ r = sideC s d al
theorem sc_side_cell : FnScope ["size", "side", "along", "corner"] ["size", "side", "along"] (defScope (top 19)) := ⟨rfl, rfl, rfl, by decide +kernel, rfl, by decide +kernel, by decide +kernel⟩
theorem f_side_cell (T : Top K mg L) : Fn P w K mg base L "side_cell" 2 c_side_cell := by
  refine fn_def T.p_side_cell sc_side_cell (by rintro ds r ⟨_, _, _, rfl, _⟩; rfl) fun f cdv A outer s H E hr ds r hc => ?_
  obtain ⟨s, d, al, rfl, rfl⟩ := hc
  have hN := sc_side_cell.nd
  have m5 : 0 ≤ (d + 5) % 6 ∧ (d + 5) % 6 < 6 := by omega
  have m1 : 0 ≤ (d + 1) % 6 ∧ (d + 1) % 6 < 6 := by omega
  obtain ⟨a1, a2, a3, a4⟩ := w_small ((d + 5) % 6)
  obtain ⟨b1, b2, b3, b4⟩ := w_small ((d + 1) % 6)
  refine sv_set 3 (ev_call (f_plus T).1 hr (evs_cons T.ev_MIDDLE (evs_cons (ev_ix T.ev_WAYS (ev_mod (ev_add (ev_var 1) ev_int) ev_int (by decide)) rfl (ways_at m5)) (evs_cons (ev_var 0) evs_nil))) ⟨_, _, _, _, _, rfl, mul_r a1 a2, mul_r a3 a4, rfl⟩) ?_
  refine sv_ret (ev_call (f_plus T).1 hr (evs_cons (ev_var 3) (evs_cons (ev_ix T.ev_WAYS (ev_mod (ev_add (ev_var 1) ev_int) ev_int (by decide)) rfl (ways_at m1)) (evs_cons (ev_var 2) evs_nil))) ⟨_, _, _, _, _, rfl, mul_r b1 b2, mul_r b3 b4, rfl⟩) ?_
  rw [Int.zero_add, Int.zero_add]
  rfl
/-! check_size -/
def c_check_size (ds : List D) (r : D) : Prop := ∃ s : Int, ds = [.int s] ∧ 0 ≤ s ∧ r = .non
theorem sc_check_size : FnScope ["size"] ["size"] (defScope (top 18)) := ⟨rfl, rfl, rfl, by decide +kernel, rfl, by decide +kernel, by decide +kernel⟩
theorem f_check_size (T : Top K mg L) : Fn P w K mg base L "check_size" 3 c_check_size := by
  refine fn_def T.p_check_size sc_check_size (by rintro ds r ⟨_, rfl, _⟩; rfl) fun f cdv A outer s H E hr ds r hc => ?_
  obtain ⟨s, rfl, h0, rfl⟩ := hc
  refine sv_if (tv_not (tv_val (ev_call (f_is_count T) hr (evs_cons (ev_var 0) evs_nil) ⟨_, rfl, rfl⟩))) (fun c => ?_) (fun c => ?_)
  · simp at c
    omega
  · exact sv_nil (sv_nil rfl)
/-! ring -/
/-- the first n cells of the ring of size s about (a, b) -/
def ringL (a b s : Int) (n : Nat) : List (Int × Int) := (List.range n).map fun j : Nat => (a + rx s (j + 1), b + ry s (j + 1))
def ringD (a b s : Int) : List (Int × Int) := if s = 0 then [(a, b)] else ringL a b s (6 * s.toNat)
def c_ring (ds : List D) (r : List D) : Prop := ∃ a b s : Int, ds = [cell a b, .int s] ∧ 0 ≤ s ∧ s ≤ 100 ∧ r = (ringD a b s).map cellP
def sideE (a b s d : Int) : D → D
  | .int al => cell (a + 1 * sx s d al) (b + 1 * sy s d al)
  | _ => .non
theorem ringL_more {a b s : Int} (hs : 1 ≤ s) {i : Nat} (hi : i < 6) : (ringL a b s ((i + 1) * s.toNat)).map cellP = (ringL a b s (i * s.toNat)).map cellP ++ ((intsFrom 1 s.toNat).map D.int).map (sideE a b s i) := by
  unfold ringL
  rw [Nat.add_mul, Nat.one_mul, List.range_add, List.map_append, List.map_append]
  congr 1
  rw [List.map_map, List.map_map, List.map_map, List.map_map]
  refine List.map_congr_left fun j hj => ?_
  rw [List.mem_range] at hj
  simp only [Function.comp, sideE, cellP]
  have e : ((i * s.toNat + j : Nat) : Int) + 1 = (i : Int) * s + (1 + (j : Int)) := by
    push_cast
    rw [show ((s.toNat : Nat) : Int) = s by omega]
    omega
  obtain ⟨e1, e2⟩ := rx_told (s := s) (d := i) (al := 1 + (j : Int)) hs (by omega) (by omega) (by omega) (by omega)
  rw [e, e1, e2, Int.one_mul, Int.one_mul]
theorem sc_ring : FnScope ["middle", "size", "cells", "side"] ["middle", "size"] (defScope (top 20)) := ⟨rfl, rfl, rfl, by decide +kernel, rfl, by decide +kernel, by decide +kernel⟩
theorem f_ring (T : Top K mg L) : FnL P w K mg base L "ring" 4 c_ring := by
  refine fnL_def T.p_ring sc_ring (by rintro ds r ⟨_, _, _, rfl, _⟩; rfl) fun f cdv A outer s H E hr ds r hc => ?_
  obtain ⟨a, b, z, rfl, h0, h1, rfl⟩ := hc
  have hN := sc_ring.nd
  refine sv_expr (ev_call (f_check_size T) hr (evs_cons (ev_var 1) evs_nil) ⟨_, rfl, h0, rfl⟩) ?_
  refine sv_if (tv_eq hr (ev_var 1) ev_int) (fun c => ?_) (fun c => ?_)
  · rw [eqD_int] at c
    have c' : z = 0 := of_decide_eq_true c
    refine sv_retE (el_lst (evs_cons (ev_var 0) evs_nil)) ?_
    unfold ringD
    rw [if_pos c']
    rfl
  rw [eqD_int] at c
  have c' : ¬ z = 0 := of_decide_eq_false c
  refine sv_nil ?_
  refine sv_new 2 evs_nil (by decide) ?_
  refine sv_for_range (fun i ρ => ∃ r3, ρ = [.v (cell a b), .v (.int z), .own ((ringL a b z (i * z.toNat)).map cellP), r3]) ev_int (by decide) T.b_range rfl (gv_name 3) (fun _ => trivial) ⟨.no, by simp [ringL]; rfl⟩ ?_ ?_
  · rintro i ρ' hi ⟨r3, rfl⟩
    have hi6 : i < 6 := by simpa using hi
    have hlen : (ringL a b z (i * z.toNat)).length ≤ 600 := by
      unfold ringL
      rw [List.length_map, List.length_range]
      have : i * z.toNat ≤ 6 * 100 := Nat.mul_le_mul (by omega) (by omega)
      omega
    refine sv_extend 2 rfl (el_mapN (cl := [("size", s.heap.objs.size + 2), ("side", s.heap.objs.size + 3), ("middle", s.heap.objs.size + 1)]) (sideE a b z i) (cap1 0 (cap1 3 (cap1 1 .nil))) (src_range2 ev_int (ev_add (ev_var 1) ev_int) (by decide) (by omega) T.b_range) ?_ (fun C s2 H2 fp d hd => ?_) (hcl := subs_of ⟨rfl, rfl, rfl, trivial⟩)) ?_ ?_
    · rw [intsFrom_len]
      exact small63 (by omega)
    · obtain ⟨al, _, rfl⟩ := List.mem_map.mp hd
      exact ev_call (f_plus T).2 (hr.mono (by decide)) (evs_cons (ev_var 1) (evs_cons (ev_call (f_side_cell T) (hr.mono (by decide)) (evs_cons (ev_var 3) (evs_cons (ev_var 2) (evs_cons (ev_var 0) evs_nil))) ⟨_, _, _, rfl, rfl⟩) evs_nil)) ⟨_, _, _, _, _, rfl, mul_1 _, mul_1 _, rfl⟩
    · rw [List.length_map, List.length_map, intsFrom_len]
      exact Nat.le_of_lt (small63 (by omega))
    · refine sv_nil ⟨.v (.int i), ?_⟩
      rw [ringL_more (by omega) hi6, show (z + 1 - 1).toNat = z.toNat by omega]
      rfl
  · rintro ρ' ⟨r3, rfl⟩
    refine sv_retOwn 2 rfl ?_
    unfold ringD
    rw [if_neg c']
    rfl
/-! turned -/
def c_turned (ds : List D) (r : D) : Prop := ∃ a b t : Int, ds = [cell a b, .int t] ∧ (0 ≤ t ∧ t < 6) ∧ r = cell (rtx t a b) (rty t a b)
theorem sc_turned : FnScope ["cell", "times", "turn"] ["cell", "times"] (defScope (top 26)) := ⟨rfl, rfl, rfl, by decide +kernel, rfl, by decide +kernel, by decide +kernel⟩
theorem rt_step {i : Nat} (a b : Int) (h : i < 5) : rtx ((i + 1 : Nat) : Int) a b = -rty i a b ∧ rty ((i + 1 : Nat) : Int) a b = rtx i a b + rty i a b := by
  match i, h with
  | 0, _ => simp [rtx, rty]
  | 1, _ => simp [rtx, rty]; omega
  | 2, _ => simp [rtx, rty]; omega
  | 3, _ => simp [rtx, rty]; omega
  | 4, _ => simp [rtx, rty]; omega
theorem f_turned (T : Top K mg L) : Fn P w K mg base L "turned" 1 c_turned := by
  refine fn_def T.p_turned sc_turned (by rintro ds r ⟨_, _, _, rfl, _⟩; rfl) fun f cdv A outer s H E hr ds r hc => ?_
  obtain ⟨a, b, t, rfl, ht, rfl⟩ := hc
  have hN := sc_turned.nd
  refine sv_for_range (fun i ρ => ∃ r2, ρ = [.v (cell (rtx i a b) (rty i a b)), .v (.int t), r2]) (ev_var 1) (by omega) T.b_range rfl (gv_name 2) (fun _ => trivial) ⟨.no, rfl⟩ ?_ ?_
  · rintro i ρ' hi ⟨r2, rfl⟩
    obtain ⟨e1, e2⟩ := rt_step (i := i) a b (by omega)
    refine sv_set 0 (ev_tup (evs_cons (ev_neg (ev_t1 (ev_var 0) ev_int)) (evs_cons (ev_add (ev_t0 (ev_var 0) ev_int) (ev_t1 (ev_var 0) ev_int)) evs_nil))) ?_
    refine sv_nil ⟨.v (.int i), ?_⟩
    rw [e1, e2]
    rfl
  · rintro ρ' ⟨r2, rfl⟩
    refine sv_ret (ev_var 0) ?_
    rw [show ((t.toNat : Nat) : Int) = t by omega]
/-! carried -/
abbrev formD (f : Fm) : D := .tup [.bl f.fl, .int f.t, cell f.x f.y]
def c_carried (ds : List D) (r : D) : Prop := ∃ (c : Int × Int) (f : Fm), ds = [cellP c, formD f] ∧ f.ok ∧ r = cellP (carry f c)
theorem sc_carried : FnScope ["cell", "form"] ["cell", "form"] (defScope (top 27)) := ⟨rfl, rfl, rfl, by decide +kernel, rfl, by decide +kernel, by decide +kernel⟩
theorem f_carried (T : Top K mg L) : Fn P w K mg base L "carried" 2 c_carried := by
  refine fn_def T.p_carried sc_carried (by rintro ds r ⟨_, _, rfl, _⟩; rfl) fun f cdv A outer s H E hr ds r hc => ?_
  obtain ⟨⟨a, b⟩, ⟨fl, t, x, y⟩, rfl, hf, rfl⟩ := hc
  have hN := sc_carried.nd
  refine sv_if (tv_val (ev_t0 (ev_var 1) ev_int)) (fun c => ?_) (fun c => ?_)
  · refine sv_set 0 (ev_tup (evs_cons (ev_t1 (ev_var 0) ev_int) (evs_cons (ev_t0 (ev_var 0) ev_int) evs_nil))) ?_
    refine sv_nil ?_
    refine sv_ret (ev_call (f_plus T).2 hr (evs_cons (ev_call (f_turned T) hr (evs_cons (ev_var 0) (evs_cons (ev_t1 (ev_var 1) ev_int) evs_nil)) ⟨_, _, _, rfl, hf, rfl⟩) (evs_cons (ev_t2 (ev_var 1) ev_int) evs_nil)) ⟨_, _, _, _, _, rfl, mul_1 _, mul_1 _, rfl⟩) ?_
    dsimp only at c
    subst c
    simp only [carry, if_true, Int.one_mul]
  · refine sv_nil ?_
    refine sv_ret (ev_call (f_plus T).2 hr (evs_cons (ev_call (f_turned T) hr (evs_cons (ev_var 0) (evs_cons (ev_t1 (ev_var 1) ev_int) evs_nil)) ⟨_, _, _, rfl, hf, rfl⟩) (evs_cons (ev_t2 (ev_var 1) ev_int) evs_nil)) ⟨_, _, _, _, _, rfl, mul_1 _, mul_1 _, rfl⟩) ?_
    dsimp only at c
    subst c
    simp only [carry, Bool.false_eq_true, if_false, Int.one_mul]
/-! joined -/
theorem eqD_bl (a b : Bool) : eqD (.bl a) (.bl b) = (a == b) := by cases a <;> cases b <;> rfl
def c_joined (ds : List D) (r : D) : Prop := ∃ f g : Fm, ds = [formD f, formD g] ∧ g.ok ∧ r = formD (join f g)
theorem sc_joined : FnScope ["first", "second", "times"] ["first", "second"] (defScope (top 28)) := ⟨rfl, rfl, rfl, by decide +kernel, rfl, by decide +kernel, by decide +kernel⟩
theorem f_joined (T : Top K mg L) : Fn P w K mg base L "joined" 3 c_joined := by
  refine fn_def T.p_joined sc_joined (by rintro ds r ⟨_, _, rfl, _⟩; rfl) fun f cdv A outer s H E hr ds r hc => ?_
  obtain ⟨f1, g, rfl, hg, rfl⟩ := hc
  have hN := sc_joined.nd
  refine sv_set 2 (ev_t1 (ev_var 0) ev_int) ?_
  refine sv_ifJ [.v (formD f1), .v (formD g), .v (.int (if g.fl = true then -f1.t else f1.t))] (tv_val (ev_t0 (ev_var 1) ev_int)) (fun c => ?_) (fun c => ?_) ?_
  · refine sv_set 2 (ev_neg (ev_var 2)) ?_
    refine sv_nil ?_
    rw [if_pos c]
    rfl
  · refine sv_nil ?_
    rw [if_neg (by rw [c]; decide)]
    rfl
  refine sv_ret (ev_tup (evs_cons (ev_ne hr (ev_t0 (ev_var 0) ev_int) (ev_t0 (ev_var 1) ev_int)) (evs_cons (ev_mod (ev_add (ev_var 2) (ev_t1 (ev_var 1) ev_int)) ev_int (by decide)) (evs_cons (ev_call (f_carried T) hr (evs_cons (ev_t2 (ev_var 0) ev_int) (evs_cons (ev_var 1) evs_nil)) ⟨(f1.x, f1.y), g, rfl, hg, rfl⟩) evs_nil)))) ?_
  rw [eqD_bl]
  rfl
/-! +forms -/
/-- a motion and its form -/
inductive Mo : Nat → List D → Fm → Prop where
  | plain : Mo 0 [] plainF
  | turn (t : Int) : Mo 1 [.int t] ⟨false, t % 6, 0, 0⟩
  | mirror : Mo 2 [] ⟨true, 0, 0, 0⟩
  | shift (x y : Int) : Mo 3 [cell x y] ⟨false, 0, x, y⟩
  | chain {f : Fm} (h : f.ok) : Mo 4 [formD f] f
theorem Mo.ok {c : Nat} {ds : List D} {f : Fm} (h : Mo c ds f) : f.ok := by
  cases h with
  | plain => exact plain_ok
  | turn t => exact (Dd.turn t).ok
  | mirror => exact Dd.mirror.ok
  | shift x y => exact (Dd.shift x y).ok
  | chain h => exact h
theorem sc_m0 : FnScope ["self"] ["self"] (defScope (inClass (top 29) 0)) := ⟨rfl, rfl, rfl, by decide +kernel, rfl, by decide +kernel, by decide +kernel⟩
theorem sc_m1 : FnScope ["self"] ["self"] (defScope (inClass (top 30) 1)) := ⟨rfl, rfl, rfl, by decide +kernel, rfl, by decide +kernel, by decide +kernel⟩
theorem sc_m2 : FnScope ["self"] ["self"] (defScope (inClass (top 31) 0)) := ⟨rfl, rfl, rfl, by decide +kernel, rfl, by decide +kernel, by decide +kernel⟩
theorem sc_m3 : FnScope ["self"] ["self"] (defScope (inClass (top 32) 1)) := ⟨rfl, rfl, rfl, by decide +kernel, rfl, by decide +kernel, by decide +kernel⟩
theorem sc_m4 : FnScope ["self"] ["self"] (defScope (inClass (top 33) 1)) := ⟨rfl, rfl, rfl, by decide +kernel, rfl, by decide +kernel, by decide +kernel⟩
def c_form (c : Nat) (ds : List D) (r : D) : Prop := ∃ fs f, ds = [.obj c fs] ∧ Mo c fs f ∧ r = formD f
theorem fld0 {l : List Str} {f : Str} (h : l = [f]) : l[0]? = some f := by rw [h]; rfl
theorem m_form0 (T : Top K mg L) : Mt P w K mg base L 0 "form" 1 (c_form 0) := by
  refine mt_def T.d_Motion_form sc_m0 (by rintro ds r ⟨_, _, rfl, _⟩; rfl) (fun f cdv A outer s H E hr ds r hc => ?_) 0 (by simp)
  obtain ⟨fs, fm, rfl, h, rfl⟩ := hc
  cases h
  exact sv_ret T.ev_PLAIN rfl
theorem m_form1 (T : Top K mg L) : Mt P w K mg base L 1 "form" 1 (c_form 1) := by
  refine mt_def T.d_Turn_form sc_m1 (by rintro ds r ⟨_, _, rfl, _⟩; rfl) (fun f cdv A outer s H E hr ds r hc => ?_) 1 (by simp)
  obtain ⟨fs, fm, rfl, h, rfl⟩ := hc
  cases h
  exact sv_ret (ev_tup (evs_cons ev_bl (evs_cons (ev_mod (ev_fld 0 T.k_Turn (ev_var 0) (fld0 T.nm_Turn) rfl) ev_int (by decide)) (evs_cons T.ev_MIDDLE evs_nil)))) rfl
theorem m_form2 (T : Top K mg L) : Mt P w K mg base L 2 "form" 1 (c_form 2) := by
  refine mt_def T.d_Mirror_form sc_m2 (by rintro ds r ⟨_, _, rfl, _⟩; rfl) (fun f cdv A outer s H E hr ds r hc => ?_) 2 (by simp)
  obtain ⟨fs, fm, rfl, h, rfl⟩ := hc
  cases h
  exact sv_ret (ev_tup (evs_cons ev_bl (evs_cons ev_int (evs_cons T.ev_MIDDLE evs_nil)))) rfl
theorem m_form3 (T : Top K mg L) : Mt P w K mg base L 3 "form" 1 (c_form 3) := by
  refine mt_def T.d_Shift_form sc_m3 (by rintro ds r ⟨_, _, rfl, _⟩; rfl) (fun f cdv A outer s H E hr ds r hc => ?_) 3 (by simp)
  obtain ⟨fs, fm, rfl, h, rfl⟩ := hc
  cases h
  exact sv_ret (ev_tup (evs_cons ev_bl (evs_cons ev_int (evs_cons (ev_fld 0 T.k_Shift (ev_var 0) (fld0 T.nm_Shift) rfl) evs_nil)))) rfl
theorem m_form4 (T : Top K mg L) : Mt P w K mg base L 4 "form" 1 (c_form 4) := by
  refine mt_def T.d_Chain_form sc_m4 (by rintro ds r ⟨_, _, rfl, _⟩; rfl) (fun f cdv A outer s H E hr ds r hc => ?_) 4 (by simp)
  obtain ⟨fs, fm, rfl, h, rfl⟩ := hc
  cases h
  exact sv_ret (ev_fld 0 T.k_Chain (ev_var 0) (fld0 T.nm_Chain) rfl) rfl
/-- m.form() of whatever motion -/
theorem ev_form (T : Top K mg L) {X : Cx} {ρ : List Sl} {o : Expr} {apos pos : Pos} {c : Nat} {ds : List D} {f : Fm} {k : Nat} (hP : X.mg = mg) (hK : X.K = K) (hr : Room k X.A) (hk : 1 ≤ k) (ho : EV X L ρ o (.obj c ds)) (h : Mo c ds f) {pl : Sem Bool}
    (ht : eval (.Call (.Attribute o "form" apos) [] [] pos) X.env = (do
      let ov ← eval o X.env
      standAt apos.atName
      let (f, first) ← holding [ov] (getMethod ov "form" pl)
      callWith pos f first (backTo pos (starEach [] X.env)) (backToKw pos (keywordEach [] X.env))) := by rfl) : EV X L ρ (.Call (.Attribute o "form" apos) [] [] pos) (formD f) := by
  subst hP hK
  cases h with
  | plain => exact ev_meth0 T.k_Motion (m_form0 T) (hr.mono hk) ho ⟨_, _, rfl, .plain, rfl⟩ (by rw [T.nm_Motion]; decide +kernel) ht
  | turn t => exact ev_meth0 T.k_Turn (m_form1 T) (hr.mono hk) ho ⟨_, _, rfl, .turn t, rfl⟩ (by rw [T.nm_Turn]; decide +kernel) ht
  | mirror => exact ev_meth0 T.k_Mirror (m_form2 T) (hr.mono hk) ho ⟨_, _, rfl, .mirror, rfl⟩ (by rw [T.nm_Mirror]; decide +kernel) ht
  | shift x y => exact ev_meth0 T.k_Shift (m_form3 T) (hr.mono hk) ho ⟨_, _, rfl, .shift x y, rfl⟩ (by rw [T.nm_Shift]; decide +kernel) ht
  | chain h => exact ev_meth0 T.k_Chain (m_form4 T) (hr.mono hk) ho ⟨_, _, rfl, .chain h, rfl⟩ (by rw [T.nm_Chain]; decide +kernel) ht
/-! +image -/
theorem sc_image : FnScope ["self", "cell"] ["self", "cell"] (defScope (inClass (top 29) 1)) := ⟨rfl, rfl, rfl, by decide +kernel, rfl, by decide +kernel, by decide +kernel⟩
def c_image (ds : List D) (r : D) : Prop := ∃ c fs f p, ds = [.obj c fs, cellP p] ∧ Mo c fs f ∧ r = cellP (carry f p)
theorem m_image (T : Top K mg L) : ∀ c ∈ [0, 1, 2, 3, 4], Mt P w K mg base L c "image" 3 c_image := by
  refine mt_def T.d_Motion_image sc_image (by rintro ds r ⟨_, _, _, _, rfl, _⟩; rfl) (fun f cdv A outer s H E hr ds r hc => ?_)
  obtain ⟨c, fs, fm, p, rfl, h, rfl⟩ := hc
  exact sv_ret (ev_call (f_carried T) hr (evs_cons (ev_var 1) (evs_cons (ev_form T rfl rfl hr (by decide) (ev_var 0) h) evs_nil)) ⟨_, _, rfl, h.ok, rfl⟩) rfl
theorem Mo.five {c : Nat} {ds : List D} {f : Fm} (h : Mo c ds f) : c ∈ [0, 1, 2, 3, 4] := by cases h <;> simp
theorem kcls_of (T : Top K mg L) {c : Nat} (h : c ∈ [0, 1, 2, 3, 4]) : KCls K L c ∧ ClsI K (L.cls c) ∧ PySem.W.kitOne K (.ref (L.cls c)) (.ref (L.cls 0)) = some true ∧ ("image" : Str) ∉ L.nm c ∧ ("back" : Str) ∉ L.nm c := by
  simp at h
  rcases h with rfl | rfl | rfl | rfl | rfl
  · exact ⟨T.k_Motion, T.i_Motion, T.t_Motion_Motion, by rw [T.nm_Motion]; decide +kernel, by rw [T.nm_Motion]; decide +kernel⟩
  · exact ⟨T.k_Turn, T.i_Turn, T.t_Turn_Motion, by rw [T.nm_Turn]; decide +kernel, by rw [T.nm_Turn]; decide +kernel⟩
  · exact ⟨T.k_Mirror, T.i_Mirror, T.t_Mirror_Motion, by rw [T.nm_Mirror]; decide +kernel, by rw [T.nm_Mirror]; decide +kernel⟩
  · exact ⟨T.k_Shift, T.i_Shift, T.t_Shift_Motion, by rw [T.nm_Shift]; decide +kernel, by rw [T.nm_Shift]; decide +kernel⟩
  · exact ⟨T.k_Chain, T.i_Chain, T.t_Chain_Motion, by rw [T.nm_Chain]; decide +kernel, by rw [T.nm_Chain]; decide +kernel⟩
/-! +makers -/
theorem sc_i1 : FnScope ["self", "times"] ["self", "times"] (defScope (inClass (top 30) 0)) := ⟨rfl, rfl, rfl, by decide +kernel, rfl, by decide +kernel, by decide +kernel⟩
theorem sc_i3 : FnScope ["self", "by"] ["self", "by"] (defScope (inClass (top 32) 0)) := ⟨rfl, rfl, rfl, by decide +kernel, rfl, by decide +kernel, by decide +kernel⟩
theorem sc_i4 : FnScope ["self", "motions", "whole", "motion"] ["self", "motions"] (defScope (inClass (top 33) 0)) := ⟨rfl, rfl, rfl, by decide +kernel, rfl, by decide +kernel, by decide +kernel⟩
theorem f_Turn (T : Top K mg L) : Mkr P w K mg base L "Turn" 1 1 (fun ds rs => ∃ t, ds = [.int t] ∧ rs = [.int t]) ∧ Mkr P w K mg base L "Turn" 1 1 (fun ds rs => ∃ t, ds ++ [.int 1] = [.int t] ∧ rs = [.int t]) := by
  obtain ⟨t0, hp⟩ := T.d_Turn_init
  refine mkr_def (dvs := [.int 1]) (dds := [.int 1]) (C := fun ds rs => ∃ t, ds = [.int t] ∧ rs = [.int t]) hp (.cons ⟨_, rfl⟩ .nil) (fun G => .cons (.int 1) .nil) sc_i1 (by rintro ds r ⟨_, rfl, _⟩; rfl) (by rintro ds r ⟨_, _, rfl⟩; rw [T.nm_Turn]; rfl) fun f cdv A outer s H E hr q ds rs hc => ?_
  obtain ⟨t, rfl, rfl⟩ := hc
  exact sv_fld 0 T.k_Turn rfl (ev_var 1) (fld0 T.nm_Turn) (sv_nil rfl)
theorem f_Shift (T : Top K mg L) : Mkr P w K mg base L "Shift" 3 1 (fun ds rs => ∃ x y, ds = [cell x y] ∧ rs = [cell x y]) := by
  refine (mkr_def (dvs := []) (dds := []) (C := fun ds rs => ∃ x y, ds = [cell x y] ∧ rs = [cell x y]) T.d_Shift_init .nil (fun G => .nil) sc_i3 (by rintro ds r ⟨_, _, rfl, _⟩; rfl) (by rintro ds r ⟨_, _, _, rfl⟩; rw [T.nm_Shift]; rfl) fun f cdv A outer s H E hr q ds rs hc => ?_).1
  obtain ⟨x, y, rfl, rfl⟩ := hc
  exact sv_fld 0 T.k_Shift rfl (ev_var 1) (fld0 T.nm_Shift) (sv_nil rfl)
/-- a list of motions, their forms -/
def Mos (ds : List D) (fs : List Fm) : Prop := ds.length = fs.length ∧ ∀ (i : Nat) (d : D), ds[i]? = some d → ∃ c xs f, d = .obj c xs ∧ fs[i]? = some f ∧ Mo c xs f
theorem f_Chain (T : Top K mg L) : Mkr P w K mg base L "Chain" 4 4 (fun ds rs => ∃ ms fs, ds = [.lst ms] ∧ Mos ms fs ∧ rs = [formD (formsF fs)]) := by
  refine (mkr_def (dvs := []) (dds := []) (C := fun ds rs => ∃ ms fs, ds = [.lst ms] ∧ Mos ms fs ∧ rs = [formD (formsF fs)]) T.d_Chain_init .nil (fun G => .nil) sc_i4 (by rintro ds r ⟨_, _, rfl, _⟩; rfl) (by rintro ds r ⟨_, _, _, _, rfl⟩; rw [T.nm_Chain]; rfl) fun f cdv A outer s H E hr q ds rs hc => ?_).1
  obtain ⟨ms, fs, rfl, ⟨hl, hm⟩, rfl⟩ := hc
  have hN := sc_i4.nd
  refine sv_set 2 T.ev_PLAIN ?_
  refine sv_for_seq (fun i ρ => ∃ r3, ρ = [.ob q 4 [], .v (.lst ms), .v (formD (formsF (fs.take i))), r3]) (ev_var 1) (gv_name 3) (fun _ _ => trivial) ⟨.no, rfl⟩ ?_ ?_
  · rintro i d ρ' hd ⟨r3, rfl⟩
    obtain ⟨c, xs, g, rfl, hg, h⟩ := hm i d hd
    refine sv_set 2 (ev_call (f_joined T) hr (evs_cons (ev_var 2) (evs_cons (ev_form T rfl rfl hr (by decide) (ev_var 3) h) evs_nil)) ⟨_, _, rfl, h.ok, rfl⟩) ?_
    refine sv_nil ⟨.v (.obj c xs), ?_⟩
    rw [take_snoc hg]
    unfold formsF
    rw [List.foldl_append]
    rfl
  · rintro ρ' ⟨r3, rfl⟩
    rw [hl, List.take_length]
    exact sv_fld 0 T.k_Chain rfl (ev_var 2) (fld0 T.nm_Chain) (sv_nil rfl)
/-! +back -/
theorem sc_back : FnScope ["self", "form", "undone"] ["self"] (defScope (inClass (top 29) 2)) := ⟨rfl, rfl, rfl, by decide +kernel, rfl, by decide +kernel, by decide +kernel⟩
def c_back (ds : List D) (r : D) : Prop := ∃ c fs f, ds = [.obj c fs] ∧ Mo c fs f ∧ r = .obj 4 [formD (backF f)]
theorem mos_nil : Mos [] [] := ⟨rfl, fun i d h => by simp at h⟩
theorem mos_cons {c : Nat} {xs : List D} {f : Fm} {ds : List D} {fs : List Fm} (h : Mo c xs f) (hs : Mos ds fs) : Mos (.obj c xs :: ds) (f :: fs) := ⟨by rw [List.length_cons, List.length_cons, hs.1], fun i d hd => by
  cases i with
  | zero => cases hd; exact ⟨_, _, _, rfl, rfl, h⟩
  | succ i => exact hs.2 i d hd⟩
theorem m_back (T : Top K mg L) : ∀ c ∈ [0, 1, 2, 3, 4], Mt P w K mg base L c "back" 6 c_back := by
  refine mt_def T.d_Motion_back sc_back (by rintro ds r ⟨_, _, _, rfl, _⟩; rfl) (fun f cdv A outer s H E hr ds r hc => ?_)
  obtain ⟨c, fs, fm, rfl, h, rfl⟩ := hc
  have hN := sc_back.nd
  refine sv_set 1 (ev_form T rfl rfl hr (by decide) (ev_var 0) h) ?_
  refine sv_new 2 (evs_cons (ev_make (f_Shift T) (hr.mono (by decide)) (evs_cons (ev_call (f_plus T).1 (hr.mono (by decide)) (evs_cons T.ev_MIDDLE (evs_cons (ev_t2 (ev_var 1) ev_int) (evs_cons (ev_neg ev_int) evs_nil))) ⟨_, _, _, _, _, rfl, mul_m1 _, mul_m1 _, rfl⟩) evs_nil) ⟨_, _, rfl, rfl⟩) (evs_cons (ev_make (f_Turn T).1 (hr.mono (by decide)) (evs_cons (ev_neg (ev_t1 (ev_var 1) ev_int)) evs_nil) ⟨_, rfl, rfl⟩) evs_nil)) (Nat.le_of_lt (small63 (by simp))) ?_
  have h2 : Mos [.obj 3 [cell (0 + -1 * fm.x) (0 + -1 * fm.y)], .obj 1 [.int (-fm.t)]] [⟨false, 0, 0 + -1 * fm.x, 0 + -1 * fm.y⟩, ⟨false, -fm.t % 6, 0, 0⟩] := mos_cons (.shift _ _) (mos_cons (.turn _) mos_nil)
  refine sv_if (tv_val (ev_t0 (ev_var 1) ev_int)) (fun c => ?_) (fun c => ?_)
  · refine sv_append 2 rfl (ev_bare T.b_Mirror) (small63 (by simp)) ?_
    refine sv_nil ?_
    refine sv_freeze 2 rfl ?_
    refine sv_ret (ev_make (f_Chain T) hr (evs_cons (ev_var 2) evs_nil) ⟨_, _, rfl, mos_cons (.shift _ _) (mos_cons (.turn _) (mos_cons .mirror mos_nil)), rfl⟩) ?_
    unfold backF
    rw [if_pos c]
    rfl
  · refine sv_nil ?_
    refine sv_freeze 2 rfl ?_
    refine sv_ret (ev_make (f_Chain T) hr (evs_cons (ev_var 2) evs_nil) ⟨_, _, rfl, h2, rfl⟩) ?_
    unfold backF
    rw [if_neg (by rw [c]; decide)]
    rfl
/-- m.image(p), m.back() of whatever motion -/
theorem ev_image (T : Top K mg L) {X : Cx} {ρ : List Sl} {o e : Expr} {apos pos : Pos} {c : Nat} {ds : List D} {f : Fm} {p : Int × Int} {k : Nat} (hP : X.mg = mg) (hK : X.K = K) (hr : Room k X.A) (hk : 3 ≤ k) (ho : EV X L ρ o (.obj c ds)) (h : Mo c ds f) (he : EV X L ρ e (cellP p)) (hst : starEach [e] X.env = (false, eval e X.env) :: starEach [] X.env := by rfl) {pl : Sem Bool}
    (ht : eval (.Call (.Attribute o "image" apos) [e] [] pos) X.env = (do
      let ov ← eval o X.env
      standAt apos.atName
      let (f, first) ← holding [ov] (getMethod ov "image" pl)
      callWith pos f first (backTo pos (starEach [e] X.env)) (backToKw pos (keywordEach [] X.env))) := by rfl) : EV X L ρ (.Call (.Attribute o "image" apos) [e] [] pos) (cellP (carry f p)) := by
  subst hP hK
  obtain ⟨k1, _, _, k4, _⟩ := kcls_of T h.five
  exact ev_meth k1 (m_image T c h.five) (hr.mono hk) ho (evs_cons he evs_nil hst) ⟨c, ds, f, p, rfl, h, rfl⟩ k4 hst rfl ht
theorem ev_back (T : Top K mg L) {X : Cx} {ρ : List Sl} {o : Expr} {apos pos : Pos} {c : Nat} {ds : List D} {f : Fm} {k : Nat} (hP : X.mg = mg) (hK : X.K = K) (hr : Room k X.A) (hk : 6 ≤ k) (ho : EV X L ρ o (.obj c ds)) (h : Mo c ds f) {pl : Sem Bool}
    (ht : eval (.Call (.Attribute o "back" apos) [] [] pos) X.env = (do
      let ov ← eval o X.env
      standAt apos.atName
      let (f, first) ← holding [ov] (getMethod ov "back" pl)
      callWith pos f first (backTo pos (starEach [] X.env)) (backToKw pos (keywordEach [] X.env))) := by rfl) : EV X L ρ (.Call (.Attribute o "back" apos) [] [] pos) (.obj 4 [formD (backF f)]) := by
  subst hP hK
  obtain ⟨k1, _, _, _, k5⟩ := kcls_of T h.five
  exact ev_meth0 k1 (m_back T c h.five) (hr.mono hk) ho ⟨c, ds, f, rfl, h, rfl⟩ k5 ht
/-! is_cell -/
def c_is_cell (ds : List D) (r : D) : Prop := ∃ a b : Int, ds = [cell a b] ∧ r = .bl true
theorem sc_is_cell : FnScope ["thing"] ["thing"] (defScope (top 11)) := ⟨rfl, rfl, rfl, by decide +kernel, rfl, by decide +kernel, by decide +kernel⟩
theorem f_is_cell (T : Top K mg L) : Fn P w K mg base L "is_cell" 2 c_is_cell := by
  refine fn_def T.p_is_cell sc_is_cell (by rintro ds r ⟨_, _, rfl, _⟩; rfl) fun f cdv A outer s H E hr ds r hc => ?_
  obtain ⟨a, b, rfl, rfl⟩ := hc
  refine sv_ret (ev_and (ev_isiT (ev_var 0) (by constructor) (ktt _) T.b_isinstance T.b_tuple) (fun _ => (ev_and (ev_eq hr (ev_len (ev_var 0) rfl T.b_len) ev_int) (fun _ => (ev_and (ev_call (f_is_whole T) hr (evs_cons (ev_t0 (ev_var 0) ev_int) evs_nil) ⟨_, rfl, rfl⟩) (fun _ => (ev_one (ev_call (f_is_whole T) hr (evs_cons (ev_t1 (ev_var 0) ev_int) evs_nil) ⟨_, rfl, rfl⟩)))))))) ?_
  rfl
/-! stretched -/
/-- the stretches, one place more -/
def strS (acc : List (Int × Int)) (p : Int) : List (Int × Int) := match acc.getLast? with
  | some c => if c.2 = p - 1 then acc.dropLast ++ [(c.1, p)] else acc ++ [(p, p)]
  | none => [(p, p)]
def strL (ps : List Int) : List (Int × Int) := ps.foldl strS []
theorem strS_snoc (xs : List (Int × Int)) (c : Int × Int) (p : Int) : strS (xs ++ [c]) p = if c.2 = p - 1 then xs ++ [(c.1, p)] else xs ++ [c] ++ [(p, p)] := by
  unfold strS
  rw [List.getLast?_concat]
  dsimp only
  rw [List.dropLast_concat]
theorem strS_len (xs : List (Int × Int)) (p : Int) : (strS xs p).length ≤ xs.length + 1 := by
  rcases List.eq_nil_or_concat xs with rfl | ⟨ys, c, rfl⟩
  · simp [strS]
  · rw [List.concat_eq_append, strS_snoc]
    split <;> simp
theorem strL_len (ps : List Int) : (strL ps).length ≤ ps.length := by
  have key : ∀ (ps : List Int) (acc : List (Int × Int)), (ps.foldl strS acc).length ≤ acc.length + ps.length := by
    intro ps
    induction ps with
    | nil => intro acc; simp
    | cons p ps ih =>
      intro acc
      have := ih (strS acc p)
      have := strS_len acc p
      rw [List.foldl_cons, List.length_cons]
      omega
  have := key ps []
  simpa [strL] using this
theorem atI_snoc {α : Type} (xs : List α) (x : α) : atI (xs ++ [x]) (-1) = some x := by
  unfold atI ixN
  have e : (xs ++ [x]).length = xs.length + 1 := by simp
  rw [if_neg (by decide), if_pos (by rw [e]; omega), e]
  show (xs ++ [x])[(-1 + ((xs.length + 1 : Nat) : Int)).toNat]? = some x
  rw [show (-1 + ((xs.length + 1 : Nat) : Int)).toNat = xs.length by omega]
  simp
theorem ixN_snoc (n : Nat) : ixN (n + 1) (-1) = some n := by
  unfold ixN
  rw [if_neg (by decide), if_pos (by omega)]
  congr 1
  omega
def c_stretched (ds : List D) (rs : List D) : Prop := ∃ ps : List Int, ds = [.lst (ps.map .int)] ∧ ps.length ≤ 1000 ∧ rs = (strL ps).map cellP
theorem sc_stretched : FnScope ["places", "found", "place"] ["places"] (defScope (top 22)) := ⟨rfl, rfl, rfl, by decide +kernel, rfl, by decide +kernel, by decide +kernel⟩
theorem f_stretched (T : Top K mg L) : FnL P w K mg base L "stretched" 1 c_stretched := by
  refine fnL_def T.p_stretched sc_stretched (by rintro ds r ⟨_, rfl, _⟩; rfl) fun f cdv A outer s H E hr ds rs hc => ?_
  obtain ⟨ps, rfl, hl, rfl⟩ := hc
  have hN := sc_stretched.nd
  refine sv_new 1 evs_nil (by decide) ?_
  refine sv_for_seq (fun i ρ => ∃ r2, ρ = [.v (.lst (ps.map .int)), .own ((strL (ps.take i)).map cellP), r2]) (ev_var 0) (gv_name 2) (fun _ _ => trivial) ⟨.no, rfl⟩ ?_ ?_
  · rintro i d ρ' hd ⟨r2, rfl⟩
    rw [List.getElem?_map] at hd
    cases hx : ps[i]? with
    | none => rw [hx] at hd; cases hd
    | some p =>
      rw [hx] at hd
      cases hd
      have next : strL (ps.take (i + 1)) = strS (strL (ps.take i)) p := by
        unfold strL
        rw [take_snoc hx, List.foldl_append]
        rfl
      have hlen : (strL (ps.take i)).length ≤ 1000 := Nat.le_trans (strL_len _) (Nat.le_trans (List.length_take_le' _ _) hl)
      rw [next]
      generalize strL (ps.take i) = acc at hlen ⊢
      rcases List.eq_nil_or_concat acc with rfl | ⟨xs, c, e⟩
      · refine sv_if (WV.tv (wv_and (u := false) (tv_share 1 (tv_lst (ev_var 1))) (fun z => by simp at z))) (fun z => by simp at z) (fun _ => ?_)
        refine sv_append 1 rfl (ev_tup (evs_cons (ev_var 2) (evs_cons (ev_var 2) evs_nil))) (small63 (by simp)) ?_
        exact sv_nil (sv_nil ⟨.v (.int p), rfl⟩)
      · rw [List.concat_eq_append] at e
        subst e
        have ix : atI ((xs ++ [c]).map cellP) (-1) = some (cellP c) := by rw [List.map_append]; exact atI_snoc _ _
        have he : (!((xs ++ [c]).map cellP).isEmpty) = true := by simp
        refine sv_if (WV.tv (wv_and (tv_share 1 (tv_lst (ev_var 1))) (fun z => wv_and1 (tv_share 1 (tv_eq hr (ev_t1 (ev_ix (ev_var 1) (ev_neg ev_int) rfl ix) ev_int) (ev_sub (ev_var 2) ev_int)))))) (fun z => ?_) (fun z => ?_)
        · rw [he, Bool.true_and, eqD_int] at z
          have z' : c.2 = p - 1 := of_decide_eq_true z
          refine sv_setL 1 rfl (ev_share 1 (ev_tup (evs_cons (ev_t0 (ev_ix (ev_var 1) (ev_neg ev_int) rfl ix) ev_int) (evs_cons (ev_var 2) evs_nil)))) (ev_neg ev_int) (j := xs.length) (by rw [List.length_map, List.length_append]; exact ixN_snoc _) ?_
          refine sv_nil (sv_nil ⟨.v (.int p), ?_⟩)
          rw [strS_snoc, if_pos z']
          simp only [List.map_append, List.map_cons, List.map_nil]
          rw [List.set_append_right _ _ (by rw [List.length_map]; exact Nat.le_refl _)]
          simp
        · rw [he, Bool.true_and, eqD_int] at z
          have z' : ¬ c.2 = p - 1 := of_decide_eq_false z
          refine sv_append 1 rfl (ev_tup (evs_cons (ev_var 2) (evs_cons (ev_var 2) evs_nil))) (small63 (by rw [List.length_map]; omega)) ?_
          refine sv_nil (sv_nil ⟨.v (.int p), ?_⟩)
          rw [strS_snoc, if_neg z']
          simp only [List.map_append, List.map_cons, List.map_nil]
          rfl
  · rintro ρ' ⟨r2, rfl⟩
    refine sv_retOwn 1 rfl ?_
    rw [List.length_map, List.take_length]
/-! +floor -/
def ddp (cs : List (Int × Int)) : List (Int × Int) := cs.foldl ins []
theorem ddp_len (cs : List (Int × Int)) : (ddp cs).length ≤ cs.length := by
  have key : ∀ (cs acc : List (Int × Int)), (cs.foldl ins acc).length ≤ acc.length + cs.length := by
    intro cs
    induction cs with
    | nil => intro acc; simp
    | cons p cs ih =>
      intro acc
      have := ih (ins acc p)
      have := ins_len acc p
      rw [List.foldl_cons, List.length_cons]
      omega
  have := key cs []
  simpa [ddp] using this
theorem sc_F0 : FnScope ["self", "walls", "standing", "at", "thing"] ["self", "walls"] (defScope (inClass (top 23) 0)) := ⟨rfl, rfl, rfl, by decide +kernel, rfl, by decide +kernel, by decide +kernel⟩
theorem f_Floor (T : Top K mg L) : Mkr P w K mg base L "Floor" 5 3 (fun ds rs => ∃ cs : List (Int × Int), ds = [.lst (cs.map cellP)] ∧ cs.length ≤ 1000 ∧ rs = [.dct (ddp cs)]) := by
  refine (mkr_def (dvs := []) (dds := []) (C := fun ds rs => ∃ cs : List (Int × Int), ds = [.lst (cs.map cellP)] ∧ cs.length ≤ 1000 ∧ rs = [.dct (ddp cs)]) T.d_Floor_init .nil (fun G => .nil) sc_F0 (by rintro ds r ⟨_, rfl, _⟩; rfl) (by rintro ds r ⟨_, _, _, rfl⟩; rw [T.nm_Floor]; rfl) fun f cdv A outer s H E hr q ds rs hc => ?_).1
  obtain ⟨cs, rfl, hl, rfl⟩ := hc
  have hN := sc_F0.nd
  refine sv_newD 2 ?_
  refine sv_for_enum (fun i ρ => ∃ r3 r4, ρ = [.ob q 5 [], .v (.lst (cs.map cellP)), .dic (ddp (cs.take i)), r3, r4]) (ev_var 1) T.b_enumerate rfl (gv_pair 3 4) (fun i d _ => ⟨_, _, rfl⟩) ⟨.no, .no, rfl⟩ ?_ ?_
  · rintro i d ρ' hd ⟨r3, r4, rfl⟩
    rw [List.getElem?_map] at hd
    cases hx : cs[i]? with
    | none => rw [hx] at hd; cases hd
    | some c =>
      rw [hx] at hd
      cases hd
      refine sv_if (tv_not (tv_val (ev_call (f_is_cell T) hr (evs_cons (ev_var 4) evs_nil) ⟨_, _, rfl, rfl⟩))) (fun z => by simp at z) (fun _ => ?_)
      refine sv_nil ?_
      have h1 := ddp_len (cs.take i)
      have h2 : (cs.take i).length ≤ 1000 := Nat.le_trans (List.length_take_le' _ _) hl
      refine sv_put 2 hr rfl ev_bl (ev_var 4) (small63 (by omega)) ?_
      refine sv_nil ⟨.v (.int i), .v (cellP c), ?_⟩
      have next : ddp (cs.take (i + 1)) = ins (ddp (cs.take i)) c := by
        unfold ddp
        rw [take_snoc hx, List.foldl_append]
        rfl
      rw [next]
      rfl
  · rintro ρ' ⟨r3, r4, rfl⟩
    rw [List.length_map, List.take_length]
    refine sv_freezeD 2 rfl ?_
    exact sv_fld 0 T.k_Floor rfl (ev_var 2) (fld0 T.nm_Floor) (sv_nil rfl)
/-- a floor with these walls -/
abbrev flo (cs : List (Int × Int)) : D := .obj 5 [.dct cs]
theorem sc_F1 : FnScope ["self"] ["self"] (defScope (inClass (top 23) 1)) := ⟨rfl, rfl, rfl, by decide +kernel, rfl, by decide +kernel, by decide +kernel⟩
theorem m_walls (T : Top K mg L) : MtL P w K mg base L 5 "walls" 1 (fun ds rs => ∃ cs, ds = [flo cs] ∧ cs.length < 64 ∧ rs = (srt cs).map cellP) := by
  refine mtL_def T.d_Floor_walls sc_F1 (by rintro ds r ⟨_, rfl, _⟩; rfl) (fun f cdv A outer s H E hr ds rs hc => ?_) 5 (by simp)
  obtain ⟨cs, rfl, h64, rfl⟩ := hc
  exact sv_retE (el_sortedD (ev_fld 0 T.k_Floor (ev_var 0) (fld0 T.nm_Floor) rfl) h64 T.b_sorted) rfl
def freeB (cs : List (Int × Int)) (c : Int × Int) : Bool := !decide (c ∈ cs)
def freeL (cs : List (Int × Int)) (a b p q k : Int) : List (Int × Int) := (nearL a b p q k).filter (freeB cs)
def pzC (cs : List (Int × Int)) : D → Bool
  | .tup [.int x, .int y] => freeB cs (x, y)
  | _ => false
theorem filt_cells (cs : List (Int × Int)) : ∀ l : List (Int × Int), (((l.map cellP).filter (pzC cs)).map fun d => d) = (l.filter (freeB cs)).map cellP
  | [] => rfl
  | c :: l => by
    have ih := filt_cells cs l
    rw [List.map_cons, List.filter_cons, List.filter_cons]
    show List.map _ (if freeB cs c = true then _ else _) = _
    by_cases h : freeB cs c = true
    · rw [if_pos h, if_pos h, List.map_cons, List.map_cons, ih]
    · rw [if_neg h, if_neg h, ih]
theorem nearL_len (a b p q k : Int) : (nearL a b p q k).length ≤ 4 := by
  unfold nearL
  split
  · simp
  · rename_i h
    have h0 := dist_nonneg (a - p) (b - q)
    rw [List.length_map]
    unfold near
    refine Nat.le_trans (len_flat (n := 2) fun x => ?_) ?_
    · rw [List.length_map]
      exact Nat.le_trans (List.length_filter_le _ _) (nn_len (by omega))
    · have := nn_len (p := k * (p - a)) (w := dist (a - p) (b - q)) (by omega)
      omega
theorem sc_F2 : FnScope ["self", "one", "other", "at"] ["self", "one", "other", "at"] (defScope (inClass (top 23) 2)) := ⟨rfl, rfl, rfl, by decide +kernel, rfl, by decide +kernel, by decide +kernel⟩
theorem m_free (T : Top K mg L) : Mt P w K mg base L 5 "free_cells" 4 (fun ds r => ∃ cs a b p q k, ds = [flo cs, cell a b, cell p q, .int k] ∧ 0 ≤ k ∧ k ≤ dist (a - p) (b - q) ∧ Mid (a - p) ∧ Mid (b - q) ∧ r = .lst ((freeL cs a b p q k).map cellP)) := by
  refine mt_def T.d_Floor_free_cells sc_F2 (by rintro ds r ⟨_, _, _, _, _, _, rfl, _⟩; rfl) (fun f cdv A outer s H E hr ds r hc => ?_) 5 (by simp)
  obtain ⟨cs, a, b, p, q, k, rfl, h0, h1, m1, m2, rfl⟩ := hc
  have hn := nearL_len a b p q k
  refine sv_ret (EL.ev (el_compNS (cl := [("self", s.heap.objs.size + 1)]) (fun d => d) (pzC cs) rfl (cap1 0 .nil) (src_seq (ev_call (f_nearest T) (hr.mono (by decide)) (evs_cons (ev_var 1) (evs_cons (ev_var 2) (evs_cons (ev_var 3) evs_nil))) ⟨_, _, _, _, _, rfl, h0, h1, m1, m2, rfl⟩) rfl) (small63 (by rw [List.length_map]; omega)) (fun C s2 H2 fp d hd => ?_))) ?_
  · obtain ⟨c, hc, rfl⟩ := List.mem_map.mp hd
    exact ⟨tests_one (tv_notInD hr (ev_var 0) (ev_fld 0 T.k_Floor (ev_var 1) (fld0 T.nm_Floor) rfl)), fun _ => ev_var 0⟩
  · rw [filt_cells]
    rfl

/-- the points between two cells that have walls alone -/
def blk (cs : List (Int × Int)) (a b p q k : Int) : Bool := (freeL cs a b p q k).isEmpty
/-- the first of the points 1 + i, i < n, that has walls alone -/
def barN (cs : List (Int × Int)) (a b p q : Int) (n : Nat) : Option Nat := (List.range n).find? fun i => blk cs a b p q (1 + (i : Int))
def bar (cs : List (Int × Int)) (a b p q : Int) : Option Nat := barN cs a b p q (dist (a - p) (b - q) - 1).toNat
def barD : Option Nat → D
  | some i => .int (1 + (i : Int))
  | none => .non
theorem sc_F3 : FnScope ["self", "one", "other", "at"] ["self", "one", "other"] (defScope (inClass (top 23) 3)) := ⟨rfl, rfl, rfl, by decide +kernel, rfl, by decide +kernel, by decide +kernel⟩
theorem m_barred (T : Top K mg L) : Mt P w K mg base L 5 "barred" 5 (fun ds r => ∃ cs a b p q, ds = [flo cs, cell a b, cell p q] ∧ Mid (a - p) ∧ Mid (b - q) ∧ dist (a - p) (b - q) ≤ 1000 ∧ r = barD (bar cs a b p q)) := by
  refine mt_def T.d_Floor_barred sc_F3 (by rintro ds r ⟨_, _, _, _, _, rfl, _⟩; rfl) (fun f cdv A outer s H E hr ds r hc => ?_) 5 (by simp)
  obtain ⟨cs, a, b, p, q, rfl, m1, m2, hd, rfl⟩ := hc
  have hN := sc_F3.nd
  have h0 := dist_nonneg (a - p) (b - q)
  refine sv_for_range2 (fun i ρ => ∃ r3, ρ = [.v (flo cs), .v (cell a b), .v (cell p q), r3] ∧ ∀ j, j < i → blk cs a b p q (1 + (j : Int)) = false) ev_int (ev_call (f_distance T) (hr.mono (by decide)) (evs_cons (ev_var 1) (evs_cons (ev_var 2) evs_nil)) ⟨_, _, _, _, rfl, rfl⟩) (by decide) (by omega) T.b_range rfl (gv_name 3) (fun _ => trivial) ⟨.no, rfl, fun j hj => by omega⟩ ?_ ?_
  · rintro i ρ' hi ⟨r3, rfl, hb⟩
    refine sv_if (tv_not (tv_lst (ev_meth T.k_Floor (m_free T) hr (ev_var 0) (evs_cons (ev_var 1) (evs_cons (ev_var 2) (evs_cons (ev_var 3) evs_nil))) ⟨cs, a, b, p, q, 1 + (i : Int), rfl, by omega, by omega, m1, m2, rfl⟩ (by rw [T.nm_Floor]; decide +kernel)))) (fun z => ?_) (fun z => ?_)
    · refine sv_ret (ev_var 3) ?_
      have z' : blk cs a b p q (1 + (i : Int)) = true := by unfold blk; simpa using z
      have e : bar cs a b p q = some i := by
        unfold bar barN
        rw [List.find?_range_eq_some]
        exact ⟨z', by simpa using hi, fun j hj => by simpa using hb j hj⟩
      rw [e]
      rfl
    · refine sv_nil (sv_nil ⟨_, rfl, fun j hj => ?_⟩)
      by_cases e : j = i
      · subst e
        unfold blk
        simpa using z
      · exact hb j (by omega)
  · rintro ρ' ⟨r3, rfl, hb⟩
    refine sv_ret ev_non ?_
    have e : bar cs a b p q = none := by
      unfold bar barN
      rw [List.find?_eq_none]
      intro j hj
      rw [hb j (by simpa using hj)]
      simp
    rw [e]
    rfl
theorem sc_F4 : FnScope ["self", "one", "other"] ["self", "one", "other"] (defScope (inClass (top 23) 4)) := ⟨rfl, rfl, rfl, by decide +kernel, rfl, by decide +kernel, by decide +kernel⟩
def seen (cs : List (Int × Int)) (a b p q : Int) : Bool := (bar cs a b p q).isNone
theorem m_sees (T : Top K mg L) : Mt P w K mg base L 5 "sees" 6 (fun ds r => ∃ cs a b p q, ds = [flo cs, cell a b, cell p q] ∧ Mid (a - p) ∧ Mid (b - q) ∧ dist (a - p) (b - q) ≤ 1000 ∧ r = .bl (seen cs a b p q)) := by
  refine mt_def T.d_Floor_sees sc_F4 (by rintro ds r ⟨_, _, _, _, _, rfl, _⟩; rfl) (fun f cdv A outer s H E hr ds r hc => ?_) 5 (by simp)
  obtain ⟨cs, a, b, p, q, rfl, m1, m2, hd, rfl⟩ := hc
  refine sv_ret (ev_isN (ev_meth T.k_Floor (m_barred T) hr (ev_var 0) (evs_cons (ev_var 1) (evs_cons (ev_var 2) evs_nil)) ⟨cs, a, b, p, q, rfl, m1, m2, hd, rfl⟩ (by rw [T.nm_Floor]; decide +kernel)) ev_non) ?_
  unfold seen
  cases bar cs a b p q <;> rfl
theorem sc_F7 : FnScope ["self", "motion"] ["self", "motion"] (defScope (inClass (top 23) 7)) := ⟨rfl, rfl, rfl, by decide +kernel, rfl, by decide +kernel, by decide +kernel⟩
def imgD (f : Fm) : D → D
  | .tup [.int x, .int y] => cellP (carry f (x, y))
  | _ => .non
theorem img_cells (f : Fm) (l : List (Int × Int)) : (l.map cellP).map (imgD f) = (l.map (carry f)).map cellP := by
  rw [List.map_map, List.map_map]
  rfl
theorem m_moved (T : Top K mg L) : Mt P w K mg base L 5 "moved" 5 (fun ds r => ∃ cs c fs f, ds = [flo cs, .obj c fs] ∧ cs.length < 64 ∧ Mo c fs f ∧ r = flo (ddp ((srt cs).map (carry f)))) := by
  refine mt_def T.d_Floor_moved sc_F7 (by rintro ds r ⟨_, _, _, _, rfl, _⟩; rfl) (fun f cdv A outer s H E hr ds r hc => ?_) 5 (by simp)
  obtain ⟨cs, c, fs, fm, rfl, h64, hm, rfl⟩ := hc
  have hl : (srt cs).length = cs.length := (srt_perm cs).length_eq
  refine sv_ret (ev_make (f_Floor T) hr (evs_cons (EL.ev (el_mapN (cl := [("motion", s.heap.objs.size + 1)]) (imgD fm) (cap1 1 .nil) (src_seq (EL.ev (el_meth0 T.k_Floor (m_walls T) (hr.mono (by decide)) (ev_var 0) ⟨cs, rfl, h64, rfl⟩ (by rw [T.nm_Floor]; decide +kernel))) rfl) (small63 (by rw [List.length_map]; omega)) (fun C s2 H2 fp d hd => ?_))) evs_nil) ⟨(srt cs).map (carry fm), by rw [img_cells], by rw [List.length_map]; omega, rfl⟩) ?_
  · obtain ⟨p, hp, rfl⟩ := List.mem_map.mp hd
    exact ev_image T rfl rfl hr (by decide) (ev_var 1) hm (ev_var 0)
  · rfl
/-! +stretches -/
def ballL (a b : Int) (n : Nat) : List (Int × Int) := (List.range n).flatMap fun o : Nat => ringD a b (o : Int)
theorem ballL_succ (a b : Int) (n : Nat) : ballL a b (n + 1) = ballL a b n ++ ringD a b (n : Int) := by
  unfold ballL
  rw [List.range_succ, List.flatMap_append]
  simp
theorem ringD_len {a b s : Int} (h0 : 0 ≤ s) (h : s ≤ 4) : (ringD a b s).length ≤ 24 := by
  unfold ringD
  split
  · simp
  · unfold ringL
    rw [List.length_map, List.length_range]
    omega
theorem ballL_len (a b : Int) : ∀ n : Nat, n ≤ 5 → (ballL a b n).length ≤ 24 * n
  | 0, _ => by simp [ballL]
  | n + 1, h => by
    rw [ballL_succ, List.length_append]
    have := ballL_len a b n (by omega)
    have := ringD_len (a := a) (b := b) (s := n) (by omega) (by omega)
    omega
theorem dist_small {i j k : Int} (h : dist i j ≤ k) : -k ≤ i ∧ i ≤ k ∧ -k ≤ j ∧ j ≤ k := by
  unfold M.dist mx ab at h
  split at h <;> split at h <;> split at h <;> omega
theorem ringD_near {a b s : Int} (h0 : 0 ≤ s) (h : s ≤ 4) {c : Int × Int} (hc : c ∈ ringD a b s) : dist (a - c.1) (b - c.2) ≤ 4 := by
  unfold ringD at hc
  split at hc
  · rw [List.mem_singleton] at hc
    subst hc
    simp only [Int.sub_self]
    decide
  · rename_i h1
    unfold ringL at hc
    obtain ⟨j, hj, rfl⟩ := List.mem_map.mp hc
    rw [List.mem_range] at hj
    dsimp only
    rw [show a - (a + rx s (↑j + 1)) = -(rx s (↑j + 1)) by omega, show b - (b + ry s (↑j + 1)) = -(ry s (↑j + 1)) by omega, dist_neg, st_dist (by omega) (by omega) (by omega)]
    exact h
theorem ballL_near {a b : Int} {n : Nat} (hn : n ≤ 5) {c : Int × Int} (hc : c ∈ ballL a b n) : dist (a - c.1) (b - c.2) ≤ 4 := by
  unfold ballL at hc
  obtain ⟨o, ho, hc⟩ := List.mem_flatMap.mp hc
  rw [List.mem_range] at ho
  exact ringD_near (by omega) (by omega) hc
theorem near_mid {a b p q : Int} (h : dist (a - p) (b - q) ≤ 1000) : Mid (a - p) ∧ Mid (b - q) := by
  have := dist_small h
  unfold Mid
  omega
/-- the places in the list l of the cells that are seen -/
def plL (cs : List (Int × Int)) (a b : Int) (l : List (Int × Int)) : List Int := (l.zipIdx.filter fun q => seen cs a b q.1.1 q.1.2).map fun q => ((q.2 : Nat) : Int)
def seenP (cs : List (Int × Int)) (a b : Int) : D × D → Bool
  | (_, .tup [.int x, .int y]) => seen cs a b x y
  | _ => false
theorem pl_eq (cs : List (Int × Int)) (a b : Int) (l : List (Int × Int)) : ((enumP (l.map cellP)).filter (seenP cs a b)).map (fun q => q.1) = (plL cs a b l).map .int := by
  have key : ∀ (l : List (Int × Int)) (k : Nat), ((((l.map cellP).zipIdx k).map fun q => ((D.int (q.2 : Nat), q.1) : D × D)).filter (seenP cs a b)).map (fun q => q.1) = (((l.zipIdx k).filter fun q => seen cs a b q.1.1 q.1.2).map fun q => ((q.2 : Nat) : Int)).map D.int := by
    intro l
    induction l with
    | nil => intro k; rfl
    | cons c l ih =>
      intro k
      have := ih (k + 1)
      rw [List.map_cons, List.zipIdx_cons, List.zipIdx_cons, List.map_cons, List.filter_cons, List.filter_cons]
      show List.map _ (if seen cs a b c.1 c.2 = true then _ else _) = List.map _ (List.map _ (if seen cs a b c.1 c.2 = true then _ else _))
      by_cases h : seen cs a b c.1 c.2 = true
      · rw [if_pos h, if_pos h, List.map_cons, List.map_cons, List.map_cons, this]
      · rw [if_neg h, if_neg h, this]
  exact key l 0
theorem plL_len (cs : List (Int × Int)) (a b : Int) (l : List (Int × Int)) : (plL cs a b l).length ≤ l.length := by
  unfold plL
  rw [List.length_map]
  exact Nat.le_trans (List.length_filter_le _ _) (by simp)
def strB (cs : List (Int × Int)) (a b z : Int) : List (Int × Int) := strL (plL cs a b (ballL a b (z + 1).toNat))
theorem sc_F6 : FnScope ["self", "middle", "size", "cells", "out"] ["self", "middle", "size"] (defScope (inClass (top 23) 6)) := ⟨rfl, rfl, rfl, by decide +kernel, rfl, by decide +kernel, by decide +kernel⟩
theorem m_stretches (T : Top K mg L) : MtL P w K mg base L 5 "stretches" 7 (fun ds rs => ∃ cs a b z, ds = [flo cs, cell a b, .int z] ∧ 0 ≤ z ∧ z ≤ 4 ∧ rs = (strB cs a b z).map cellP) := by
  refine mtL_def T.d_Floor_stretches sc_F6 (by rintro ds r ⟨_, _, _, _, rfl, _⟩; rfl) (fun f cdv A outer s H E hr ds rs hc => ?_) 5 (by simp)
  obtain ⟨cs, a, b, z, rfl, h0, h4, rfl⟩ := hc
  have hN := sc_F6.nd
  refine sv_expr (ev_call (f_check_size T) (hr.mono (by decide)) (evs_cons (ev_var 2) evs_nil) ⟨_, rfl, h0, rfl⟩) ?_
  refine sv_new 3 evs_nil (by decide) ?_
  refine sv_for_range (fun i ρ => ∃ r4, ρ = [.v (flo cs), .v (cell a b), .v (.int z), .own ((ballL a b i).map cellP), r4]) (ev_add (ev_var 2) ev_int) (by omega) T.b_range rfl (gv_name 4) (fun _ => trivial) ⟨.no, rfl⟩ ?_ ?_
  · rintro i ρ' hi ⟨r4, rfl⟩
    have l1 := ballL_len a b i (by omega)
    have l2 := ringD_len (a := a) (b := b) (s := (i : Int)) (by omega) (by omega)
    refine sv_extend 3 rfl (el_call (f_ring T) (hr.mono (by decide)) (evs_cons (ev_var 1) (evs_cons (ev_var 4) evs_nil)) ⟨a, b, i, rfl, by omega, by omega, rfl⟩) (Nat.le_of_lt (small63 (by rw [List.length_map, List.length_map]; omega))) ?_
    refine sv_nil ⟨.v (.int i), ?_⟩
    rw [ballL_succ, List.map_append]
    rfl
  · rintro ρ' ⟨r4, rfl⟩
    have l1 := ballL_len a b (z + 1).toNat (by omega)
    have l2 := plL_len cs a b (ballL a b (z + 1).toNat)
    refine sv_freeze 3 rfl ?_
    refine sv_retE (el_call (f_stretched T) (hr.mono (by decide)) (evs_cons (EL.ev (el_compPS (cl := [("self", s.heap.objs.size + 1), ("middle", s.heap.objs.size + 2)]) (fun q => q.1) (seenP cs a b) rfl (cap1 0 (cap1 1 .nil)) (src_enum (ev_var 3) T.b_enumerate) (small63 (by rw [enumP_len, List.length_map]; omega)) (fun C s2 H2 fp q hq => ?_) (hcl := subs_of ⟨rfl, rfl, trivial⟩))) evs_nil) ⟨plL cs a b (ballL a b (z + 1).toNat), by rw [pl_eq], by omega, rfl⟩) rfl
    unfold enumP at hq
    obtain ⟨⟨d, n⟩, hq', rfl⟩ := List.mem_map.mp hq
    obtain ⟨c, hc, rfl⟩ := List.mem_map.mp (List.fst_mem_of_mem_zipIdx hq')
    have hd := ballL_near (by omega) hc
    obtain ⟨m1, m2⟩ := near_mid (Int.le_trans hd (by decide))
    exact ⟨tests_one (tv_val (ev_meth T.k_Floor (m_sees T) (hr.mono (by decide)) (ev_var 2) (evs_cons (ev_var 3) (evs_cons (ev_var 1) evs_nil)) ⟨cs, a, b, c.1, c.2, rfl, m1, m2, Int.le_trans hd (by decide), rfl⟩ (by rw [T.nm_Floor]; decide +kernel))), fun _ => ev_var 0⟩
/-! _law_cell_at -/
def c_l_cell_at (ds : List D) (r : D) : Prop := ∃ (ns : List Int) (k : Nat), ds = [.lst (ns.map .int), .int k] ∧ r = .int (ns.getD k 0)
theorem sc_l_cell_at : FnScope ["_law_script", "_law_k"] ["_law_script", "_law_k"] (defScope (top 35)) := ⟨rfl, rfl, rfl, by decide +kernel, rfl, by decide +kernel, by decide +kernel⟩
theorem fl_cell_at (T : Top K mg L) : Fn P w K mg base L "_law_cell_at" 1 c_l_cell_at := by
  refine fn_def T.l_cell_at sc_l_cell_at (by rintro ds r ⟨_, _, rfl, _⟩; rfl) fun f cdv A outer s H E hr ds r hc => ?_
  obtain ⟨ns, k, rfl, rfl⟩ := hc
  refine sv_if (tv_lt (ev_var 1) (ev_len (ev_var 0) rfl T.b_len)) (fun c => ?_) (fun c => ?_)
  · have hk : k < ns.length := by simpa using c
    refine sv_ret (ev_ix (ev_var 0) (ev_var 1) rfl (atI_nat (v := .int ns[k]) (by simp [hk]))) ?_
    simp [hk]
  · have hk : ¬ k < ns.length := by simpa using c
    refine sv_nil ?_
    refine sv_ret ev_int ?_
    simp [List.getD_eq_getElem?_getD, List.getElem?_eq_none (Nat.le_of_not_lt hk)]
/-! _law_whole -/
def c_l_whole (ds : List D) (r : D) : Prop := ∃ i, ds = [.int i] ∧ r = .bl true
theorem sc_l_whole : FnScope ["_law_found"] ["_law_found"] (defScope (top 36)) := ⟨rfl, rfl, rfl, by decide +kernel, rfl, by decide +kernel, by decide +kernel⟩
theorem fl_whole (T : Top K mg L) : Fn P w K mg base L "_law_whole" 1 c_l_whole := by
  refine fn_def T.l_whole sc_l_whole (by rintro ds r ⟨i, rfl, _⟩; rfl) fun f cdv A outer s H E hr ds r hc => ?_
  obtain ⟨i, rfl, rfl⟩ := hc
  refine sv_ret (ev_and (ev_isiT (ev_var 0) (by constructor) (kii _) T.b_isinstance T.b_int) (fun _ => (ev_one (ev_not (ev_isiT (ev_var 0) (by constructor) (kib _) T.b_isinstance T.b_bool))))) ?_
  rfl
/-! _law_cell -/
def c_l_cell (ds : List D) (r : D) : Prop := ∃ a b : Int, ds = [cell a b] ∧ r = .bl true
theorem sc_l_cell : FnScope ["_law_found"] ["_law_found"] (defScope (top 37)) := ⟨rfl, rfl, rfl, by decide +kernel, rfl, by decide +kernel, by decide +kernel⟩
theorem fl_cell (T : Top K mg L) : Fn P w K mg base L "_law_cell" 2 c_l_cell := by
  refine fn_def T.l_cell sc_l_cell (by rintro ds r ⟨_, _, rfl, _⟩; rfl) fun f cdv A outer s H E hr ds r hc => ?_
  obtain ⟨a, b, rfl, rfl⟩ := hc
  refine sv_ret (ev_and (ev_isiT (ev_var 0) (by constructor) (ktt _) T.b_isinstance T.b_tuple) (fun _ => (ev_and (ev_eq hr (ev_len (ev_var 0) rfl T.b_len) ev_int) (fun _ => (ev_and (ev_call (fl_whole T) hr (evs_cons (ev_t0 (ev_var 0) ev_int) evs_nil) ⟨_, rfl, rfl⟩) (fun _ => (ev_one (ev_call (fl_whole T) hr (evs_cons (ev_t1 (ev_var 0) ev_int) evs_nil) ⟨_, rfl, rfl⟩)))))))) ?_
  rfl
/-! _law_number_by -/
def c_l_number_by (ds : List D) (r : D) : Prop := ∃ c : Int, ds = [.int c] ∧ r = .int (num c)
theorem sc_l_number_by : FnScope ["_law_cell_here"] ["_law_cell_here"] (defScope (top 38)) := ⟨rfl, rfl, rfl, by decide +kernel, rfl, by decide +kernel, by decide +kernel⟩
theorem fl_number_by (T : Top K mg L) : Fn P w K mg base L "_law_number_by" 1 c_l_number_by := by
  refine fn_def T.l_number_by sc_l_number_by (by rintro ds r ⟨_, rfl, _⟩; rfl) fun f cdv A outer s H E hr ds r hc => ?_
  obtain ⟨c, rfl, rfl⟩ := hc
  refine sv_if (tv_eq hr (ev_mod (ev_var 0) ev_int (by decide)) ev_int) (fun h => ?_) (fun h => ?_)
  · refine sv_ret (ev_sub (ev_mod (ev_fdiv (ev_var 0) ev_int ⟨by decide, by decide⟩) ev_int (by decide)) ev_int) ?_
    rw [eqD_int] at h
    have h' : c % 2 = 0 := of_decide_eq_true h
    show D.int _ = D.int _
    unfold num
    rw [if_pos h']
  · refine sv_nil ?_
    refine sv_ret (ev_add (ev_sub (ev_mod (ev_mul (ev_fdiv (ev_var 0) ev_int ⟨by decide, by decide⟩) ev_int (mul_r (by decide) (by decide))) (ev_sub (ev_mul ev_int (ev_pow ev_int ev_int ⟨by decide, by decide, by decide⟩) (mul_l (by decide) (by decide))) ev_int) (by decide)) (ev_pow ev_int ev_int ⟨by decide, by decide, by decide⟩)) ev_int) ?_
    rw [eqD_int] at h
    have h' : ¬ c % 2 = 0 := of_decide_eq_false h
    show D.int _ = D.int _
    unfold num
    rw [if_neg h']
    rfl
end
end K09

set_option maxHeartbeats 4000000
set_option exponentiation.threshold 2000
namespace K09
open PySem L2 Z M
section
variable {P : Program} {w : World} {K : PySem.W.Frag} {mg : Str → Option Value} {base : Heap} {L : Kl}
/-! +to -/
theorem EL.to {X : Cx} {L : Kl} {ρ : List Sl} {e : Expr} {ds ds' : List D} (h : EL X L ρ e ds) (q : ds = ds') : EL X L ρ e ds' := q ▸ h
theorem Src.to {X : Cx} {L : Kl} {ρ : List Sl} {tg e : Expr} {ds ds' : List D} (h : Src X L ρ tg e ds) (q : ds = ds') : Src X L ρ tg e ds' := q ▸ h
/-! _law_reach -/
def c_l_reach (ds : List D) (r : D) : Prop := ∃ a b p q : Int, ds = [cell a b, cell p q] ∧ r = .int (dist (p - a) (q - b))
theorem sc_l_reach : FnScope ["_law_one", "_law_other", "_law_a", "_law_b"] ["_law_one", "_law_other"] (defScope (top 39)) := ⟨rfl, rfl, rfl, by decide +kernel, rfl, by decide +kernel, by decide +kernel⟩
theorem fl_reach (T : Top K mg L) : Fn P w K mg base L "_law_reach" 1 c_l_reach := by
  refine fn_def T.l_reach sc_l_reach (by rintro ds r ⟨_, _, _, _, rfl, _⟩; rfl) fun f cdv A outer s H E hr ds r hc => ?_
  obtain ⟨a, b, p, q, rfl, rfl⟩ := hc
  have hN := sc_l_reach.nd
  refine sv_set 2 (ev_sub (ev_t0 (ev_var 1) ev_int) (ev_t0 (ev_var 0) ev_int)) ?_
  refine sv_set 3 (ev_sub (ev_t1 (ev_var 1) ev_int) (ev_t1 (ev_var 0) ev_int)) ?_
  generalize p - a = u
  generalize q - b = v
  refine sv_ret (ev_maxL (ns := [u, -u, v, -v, u + v, -u - v]) (ev_lst (evs_cons (ev_var 2) (evs_cons (ev_neg (ev_var 2)) (evs_cons (ev_var 3) (evs_cons (ev_neg (ev_var 3)) (evs_cons (ev_add (ev_var 2) (ev_var 3)) (evs_cons (ev_sub (ev_neg (ev_var 2)) (ev_var 3)) evs_nil))))))) (by simp) T.b_max) ?_
  rw [rc_dist]
/-! _law_deed -/
def deedD : Dd → D
  | .turn n => .tup [.str "turn", .int n]
  | .mirror => .tup [.str "mirror", .int 0]
  | .shift x y => .tup [.str "shift", cell x y]
def deed9 (c : Int) : Dd := if c % 3 = 0 then .turn (num (c / 3)) else if c % 3 = 1 then .mirror else .shift (num (c / 3)) (num (c / 3 * 69621 % 2147483629))
def c_l_deed (ds : List D) (r : D) : Prop := ∃ c : Int, ds = [.int c] ∧ r = deedD (deed9 c)
theorem sc_l_deed : FnScope ["_law_cell_here", "_law_number"] ["_law_cell_here"] (defScope (top 40)) := ⟨rfl, rfl, rfl, by decide +kernel, rfl, by decide +kernel, by decide +kernel⟩
theorem fl_deed (T : Top K mg L) : Fn P w K mg base L "_law_deed" 2 c_l_deed := by
  refine fn_def T.l_deed sc_l_deed (by rintro ds r ⟨_, rfl, _⟩; rfl) fun f cdv A outer s H E hr ds r hc => ?_
  obtain ⟨c, rfl, rfl⟩ := hc
  have hN := sc_l_deed.nd
  refine sv_set 1 (ev_call (fl_number_by T) hr (evs_cons (ev_fdiv (ev_var 0) ev_int ⟨by decide, by decide⟩) evs_nil) ⟨_, rfl, rfl⟩) ?_
  refine sv_if (tv_eq hr (ev_mod (ev_var 0) ev_int (by decide)) ev_int) (fun q => ?_) (fun q => ?_)
  · rw [eqD_int] at q
    refine sv_ret (ev_tup (evs_cons ev_str (evs_cons (ev_var 1) evs_nil))) ?_
    unfold deed9
    rw [if_pos (of_decide_eq_true q)]
    rfl
  rw [eqD_int] at q
  have q0 := of_decide_eq_false q
  refine sv_nil ?_
  refine sv_if (tv_eq hr (ev_mod (ev_var 0) ev_int (by decide)) ev_int) (fun q => ?_) (fun q => ?_)
  · rw [eqD_int] at q
    refine sv_ret (ev_tup (evs_cons ev_str (evs_cons ev_int evs_nil))) ?_
    unfold deed9
    rw [if_neg q0, if_pos (of_decide_eq_true q)]
    rfl
  rw [eqD_int] at q
  have q1 := of_decide_eq_false q
  refine sv_nil ?_
  refine sv_ret (ev_tup (evs_cons ev_str (evs_cons (ev_tup (evs_cons (ev_var 1) (evs_cons (ev_call (fl_number_by T) hr (evs_cons (ev_mod (ev_mul (ev_fdiv (ev_var 0) ev_int ⟨by decide, by decide⟩) ev_int (mul_r (by decide) (by decide))) ev_int (by decide)) evs_nil) ⟨_, rfl, rfl⟩) evs_nil))) evs_nil))) ?_
  unfold deed9
  rw [if_neg q0, if_neg q1]
  rfl
/-! _law_motion -/
def moD : Dd → D
  | .turn n => .obj 1 [.int n]
  | .mirror => .obj 2 []
  | .shift x y => .obj 3 [cell x y]
theorem ok_turn : okq (.str "turn") = true := by decide +kernel
theorem ok_mirror : okq (.str "mirror") = true := by decide +kernel
theorem ok_shift : okq (.str "shift") = true := by decide +kernel
theorem str_tm : eqD (.str "mirror") (.str "turn") = false := by decide +kernel
theorem str_ts : eqD (.str "shift") (.str "turn") = false := by decide +kernel
theorem str_ms : eqD (.str "shift") (.str "mirror") = false := by decide +kernel
theorem str_sm : eqD (.str "mirror") (.str "shift") = false := by decide +kernel
theorem str_mt : eqD (.str "turn") (.str "mirror") = false := by decide +kernel
theorem str_st : eqD (.str "turn") (.str "shift") = false := by decide +kernel
def c_l_motion (ds : List D) (r : D) : Prop := ∃ d : Dd, ds = [deedD d] ∧ r = moD d
theorem sc_l_motion : FnScope ["_law_deed_here"] ["_law_deed_here"] (defScope (top 41)) := ⟨rfl, rfl, rfl, by decide +kernel, rfl, by decide +kernel, by decide +kernel⟩
theorem fl_motion (T : Top K mg L) : Fn P w K mg base L "_law_motion" 3 c_l_motion := by
  refine fn_def T.l_motion sc_l_motion (by rintro ds r ⟨_, rfl, _⟩; rfl) fun f cdv A outer s H E hr ds r hc => ?_
  obtain ⟨d, rfl, rfl⟩ := hc
  cases d with
  | turn n =>
    refine sv_if (tv_eq hr (ev_t0 (d := .str "turn") (xs := [.int n]) (ev_var 0) ev_int) ev_str ok_turn ok_turn) (fun c => ?_) (fun c => ?_)
    · exact sv_ret (ev_make (f_Turn T).1 hr (evs_cons (ev_t1 (d0 := .str "turn") (d := .int n) (xs := []) (ev_var 0) ev_int) evs_nil) ⟨_, rfl, rfl⟩) rfl
    · rw [eqD_self] at c
      cases c
  | mirror =>
    refine sv_if (tv_eq hr (ev_t0 (d := .str "mirror") (xs := [.int 0]) (ev_var 0) ev_int) ev_str ok_mirror ok_turn) (fun c => ?_) (fun c => ?_)
    · rw [str_tm] at c
      cases c
    refine sv_nil ?_
    refine sv_if (tv_eq hr (ev_t0 (d := .str "mirror") (xs := [.int 0]) (ev_var 0) ev_int) ev_str ok_mirror ok_mirror) (fun c => ?_) (fun c => ?_)
    · exact sv_ret (ev_bare T.b_Mirror) rfl
    · rw [eqD_self] at c
      cases c
  | shift x y =>
    refine sv_if (tv_eq hr (ev_t0 (d := .str "shift") (xs := [cell x y]) (ev_var 0) ev_int) ev_str ok_shift ok_turn) (fun c => ?_) (fun c => ?_)
    · rw [str_ts] at c
      cases c
    refine sv_nil ?_
    refine sv_if (tv_eq hr (ev_t0 (d := .str "shift") (xs := [cell x y]) (ev_var 0) ev_int) ev_str ok_shift ok_mirror) (fun c => ?_) (fun c => ?_)
    · rw [str_ms] at c
      cases c
    refine sv_nil ?_
    exact sv_ret (ev_make (f_Shift T) hr (evs_cons (ev_t1 (d0 := .str "shift") (d := cell x y) (xs := []) (ev_var 0) ev_int) evs_nil) ⟨_, _, rfl, rfl⟩) rfl
theorem moD_mo (d : Dd) : ∃ k xs, moD d = .obj k xs ∧ Mo k xs d.fm := by
  cases d with
  | turn n => exact ⟨_, _, rfl, .turn n⟩
  | mirror => exact ⟨_, _, rfl, .mirror⟩
  | shift x y => exact ⟨_, _, rfl, .shift x y⟩
/-! _law_image -/
def c_l_image (ds : List D) (r : D) : Prop := ∃ (p : Int × Int) (l : List Dd), ds = [cellP p, .lst (l.map deedD)] ∧ r = cellP (acts p l)
theorem sc_l_image : FnScope ["_law_spot", "_law_deeds", "_law_deed_here", "_law_k"] ["_law_spot", "_law_deeds"] (defScope (top 42)) := ⟨rfl, rfl, rfl, by decide +kernel, rfl, by decide +kernel, by decide +kernel⟩
theorem fl_image (T : Top K mg L) : Fn P w K mg base L "_law_image" 1 c_l_image := by
  refine fn_def T.l_image sc_l_image (by rintro ds r ⟨_, _, rfl, _⟩; rfl) fun f cdv A outer s H E hr ds r hc => ?_
  obtain ⟨p, l, rfl, rfl⟩ := hc
  have hN := sc_l_image.nd
  refine sv_for_seq (fun i ρ => ∃ r2 r3, ρ = [.v (cellP (acts p (l.take i))), .v (.lst (l.map deedD)), r2, r3]) (ev_var 1) (gv_name 2) (fun _ _ => trivial) ⟨.no, .no, rfl⟩ ?_ ?_
  · rintro i d ρ' hd ⟨r2, r3, rfl⟩
    rw [List.getElem?_map] at hd
    cases hk : l[i]? with
    | none => rw [hk] at hd; cases hd
    | some k =>
      rw [hk] at hd
      cases hd
      rw [take_snoc hk, acts_append]
      generalize acts p (l.take i) = c
      obtain ⟨a, b⟩ := c
      cases k with
      | turn n =>
        refine sv_if (tv_eq hr (ev_t0 (d := .str "turn") (xs := [.int n]) (ev_var 2) ev_int) ev_str ok_turn ok_mirror) (fun c => ?_) (fun c => ?_)
        · rw [str_mt] at c
          cases c
        refine sv_nil ?_
        refine sv_if (tv_eq hr (ev_t0 (d := .str "turn") (xs := [.int n]) (ev_var 2) ev_int) ev_str ok_turn ok_shift) (fun c => ?_) (fun c => ?_)
        · rw [str_st] at c
          cases c
        refine sv_nil ?_
        refine sv_if (tv_eq hr (ev_t0 (d := .str "turn") (xs := [.int n]) (ev_var 2) ev_int) ev_str ok_turn ok_turn) (fun c => ?_) (fun c => ?_)
        · refine sv_for_range (fun i ρ => ∃ r3, ρ = [.v (cell (rtx i a b) (rty i a b)), .v (.lst (l.map deedD)), .v (deedD (.turn n)), r3]) (ev_mod (ev_t1 (d0 := .str "turn") (d := .int n) (xs := []) (ev_var 2) ev_int) ev_int (by decide)) (by omega) T.b_range rfl (gv_name 3) (fun _ => trivial) ⟨_, rfl⟩ ?_ ?_
          · rintro i ρ' hi ⟨r3, rfl⟩
            obtain ⟨e1, e2⟩ := rt_step (i := i) a b (by omega)
            refine sv_set 0 (ev_tup (evs_cons (ev_neg (ev_t1 (ev_var 0) ev_int)) (evs_cons (ev_add (ev_t0 (ev_var 0) ev_int) (ev_t1 (ev_var 0) ev_int)) evs_nil))) ?_
            refine sv_nil ⟨.v (.int i), ?_⟩
            rw [e1, e2]
            rfl
          · rintro ρ' ⟨r3, rfl⟩
            refine sv_nil (sv_nil ⟨.v (deedD (.turn n)), r3, ?_⟩)
            rw [show (((n % 6).toNat : Nat) : Int) = n % 6 by omega]
            rfl
        · rw [eqD_self] at c
          cases c
      | mirror =>
        refine sv_if (tv_eq hr (ev_t0 (d := .str "mirror") (xs := [.int 0]) (ev_var 2) ev_int) ev_str ok_mirror ok_mirror) (fun c => ?_) (fun c => ?_)
        · refine sv_set 0 (ev_tup (evs_cons (ev_t1 (ev_var 0) ev_int) (evs_cons (ev_t0 (ev_var 0) ev_int) evs_nil))) ?_
          refine sv_nil ?_
          refine sv_if (tv_eq hr (ev_t0 (d := .str "mirror") (xs := [.int 0]) (ev_var 2) ev_int) ev_str ok_mirror ok_shift) (fun c => ?_) (fun c => ?_)
          · rw [str_sm] at c
            cases c
          refine sv_nil ?_
          refine sv_if (tv_eq hr (ev_t0 (d := .str "mirror") (xs := [.int 0]) (ev_var 2) ev_int) ev_str ok_mirror ok_turn) (fun c => ?_) (fun c => ?_)
          · rw [str_tm] at c
            cases c
          exact sv_nil (sv_nil ⟨_, r3, rfl⟩)
        · rw [eqD_self] at c
          cases c
      | shift x y =>
        refine sv_if (tv_eq hr (ev_t0 (d := .str "shift") (xs := [cell x y]) (ev_var 2) ev_int) ev_str ok_shift ok_mirror) (fun c => ?_) (fun c => ?_)
        · rw [str_ms] at c
          cases c
        refine sv_nil ?_
        refine sv_if (tv_eq hr (ev_t0 (d := .str "shift") (xs := [cell x y]) (ev_var 2) ev_int) ev_str ok_shift ok_shift) (fun c => ?_) (fun c => ?_)
        · refine sv_set 0 (ev_tup (evs_cons (ev_add (ev_t0 (ev_var 0) ev_int) (ev_t0 (ev_t1 (d0 := .str "shift") (d := cell x y) (xs := []) (ev_var 2) ev_int) ev_int)) (evs_cons (ev_add (ev_t1 (ev_var 0) ev_int) (ev_t1 (ev_t1 (d0 := .str "shift") (d := cell x y) (xs := []) (ev_var 2) ev_int) ev_int)) evs_nil))) ?_
          refine sv_nil ?_
          refine sv_if (tv_eq hr (ev_t0 (d := .str "shift") (xs := [cell x y]) (ev_var 2) ev_int) ev_str ok_shift ok_turn) (fun c => ?_) (fun c => ?_)
          · rw [str_ts] at c
            cases c
          exact sv_nil (sv_nil ⟨_, r3, rfl⟩)
        · rw [eqD_self] at c
          cases c
  · rintro ρ' ⟨r2, r3, rfl⟩
    refine sv_ret (ev_var 0) ?_
    rw [List.length_map, List.take_length]
/-! _law_sorted_once -/
def c_l_sorted_once (ds : List D) (r : D) : Prop := ∃ cs shuts : List (Int × Int), ds = [flo cs, .lst (shuts.map cellP)] ∧ shuts.length ≤ 60 ∧ cs.length < 64 ∧ srt cs = srt (ddp shuts) ∧ r = .bl true
theorem sc_l_sorted_once : FnScope ["_law_floor", "_law_shuts", "_law_found", "_law_due_here", "_law_cell_here"] ["_law_floor", "_law_shuts"] (defScope (top 43)) := ⟨rfl, rfl, rfl, by decide +kernel, rfl, by decide +kernel, by decide +kernel⟩
theorem fl_sorted_once (T : Top K mg L) : Fn P w K mg base L "_law_sorted_once" 3 c_l_sorted_once := by
  refine fn_def T.l_sorted_once sc_l_sorted_once (by rintro ds r ⟨_, _, rfl, _⟩; rfl) fun f cdv A outer s H E hr ds r hc => ?_
  obtain ⟨cs, shuts, rfl, hl, h64, he, rfl⟩ := hc
  have hN := sc_l_sorted_once.nd
  refine sv_newE 2 (el_meth0 T.k_Floor (m_walls T) (hr.mono (by decide)) (ev_var 0) ⟨cs, rfl, h64, rfl⟩ (by rw [T.nm_Floor]; decide +kernel)) ?_
  refine sv_new 3 evs_nil (by decide) ?_
  refine sv_for_seq (fun i ρ => ∃ r4, ρ = [.v (flo cs), .v (.lst (shuts.map cellP)), .own ((srt cs).map cellP), .own ((ddp (shuts.take i)).map cellP), r4]) (ev_var 1) (gv_name 4) (fun _ _ => trivial) ⟨.no, rfl⟩ ?_ ?_
  · rintro i d ρ' hd ⟨r4, rfl⟩
    rw [List.getElem?_map] at hd
    cases hx : shuts[i]? with
    | none => rw [hx] at hd; cases hd
    | some c =>
      rw [hx] at hd
      cases hd
      have next : ddp (shuts.take (i + 1)) = ins (ddp (shuts.take i)) c := by
        unfold ddp
        rw [take_snoc hx, List.foldl_append]
        rfl
      have h1 := ddp_len (shuts.take i)
      have h2 : (shuts.take i).length ≤ 60 := Nat.le_trans (List.length_take_le' _ _) hl
      rw [next]
      unfold ins
      refine sv_if (tv_share 3 (tv_notInC hr (ev_var 4) (ev_var 3))) (fun z => ?_) (fun z => ?_)
      · have z' : ¬ c ∈ ddp (shuts.take i) := by simpa using z
        refine sv_append 3 rfl (ev_var 4) (small63 (by rw [List.length_map]; omega)) ?_
        refine sv_nil (sv_nil ⟨.v (cellP c), ?_⟩)
        rw [if_neg z', List.map_append]
        rfl
      · have z' : c ∈ ddp (shuts.take i) := by simpa using z
        refine sv_nil (sv_nil ⟨.v (cellP c), ?_⟩)
        rw [if_pos z']
        rfl
  · rintro ρ' ⟨r4, rfl⟩
    rw [List.length_map, List.take_length]
    have h1 := ddp_len shuts
    refine sv_if (tv_not (tv_val (ev_share 2 (ev_isiT (ev_var 2) (by constructor) (kll _) T.b_isinstance T.b_list)))) (fun z => by simp at z) (fun _ => ?_)
    refine sv_nil ?_
    refine sv_for_checkO 2 4 rfl (by decide) (fun d hd => ?_) ?_
    · obtain ⟨c, _, rfl⟩ := List.mem_map.mp hd
      exact tv_not (t := true) (tv_val (ev_call (fl_cell T) hr (evs_cons (ev_var 4) evs_nil) ⟨_, _, rfl, rfl⟩))
    refine sv_if (tv_share 2 (ds := (srt cs).map cellP) (tv_share 3 (ds := (ddp shuts).map cellP) (tv_ne hr (ev_var 2) (EL.ev (el_sortedL (cs := ddp shuts) (ev_var 3) (by omega) T.b_sorted)) (ok_cells _) (ok_cells _)))) (fun z => ?_) (fun _ => ?_)
    · rw [he] at z
      rw [eqD_self] at z
      cases z
    refine sv_nil ?_
    refine sv_clear 2 rfl ?_
    exact sv_ret ev_bl rfl
/-! _law_stretches -/
def c_l_stretches (ds : List D) (r : D) : Prop := ∃ l : List (Int × Int), ds = [.lst (l.map cellP)] ∧ (∀ c ∈ l, c.1 ≤ c.2) ∧ r = .bl true
theorem sc_l_stretches : FnScope ["_law_found", "_law_pair"] ["_law_found"] (defScope (top 47)) := ⟨rfl, rfl, rfl, by decide +kernel, rfl, by decide +kernel, by decide +kernel⟩
theorem fl_stretches (T : Top K mg L) : Fn P w K mg base L "_law_stretches" 3 c_l_stretches := by
  refine fn_def T.l_stretches sc_l_stretches (by rintro ds r ⟨_, rfl, _⟩; rfl) fun f cdv A outer s H E hr ds r hc => ?_
  obtain ⟨l, rfl, hl, rfl⟩ := hc
  have hN := sc_l_stretches.nd
  refine sv_if (tv_not (tv_val (ev_isiT (ev_var 0) (by constructor) (kll _) T.b_isinstance T.b_list))) (fun z => by simp at z) (fun _ => ?_)
  refine sv_nil ?_
  refine sv_for_seq (fun i ρ => ∃ r1, ρ = [.v (.lst (l.map cellP)), r1]) (ev_var 0) (gv_name 1) (fun _ _ => trivial) ⟨.no, rfl⟩ ?_ ?_
  · rintro i d ρ' hd ⟨r1, rfl⟩
    obtain ⟨c, hc, rfl⟩ := List.mem_map.mp (List.mem_of_getElem? hd)
    have := hl c hc
    refine sv_if (WV.tv (wv_or (tv_not (tv_val (ev_call (fl_cell T) hr (evs_cons (ev_var 1) evs_nil) ⟨_, _, rfl, rfl⟩))) (fun _ => (wv_or1 (tv_gt (ev_t0 (ev_var 1) ev_int) (ev_t1 (ev_var 1) ev_int)))))) (fun z => ?_) (fun _ => ?_)
    · simp at z
      omega
    exact sv_nil (sv_nil ⟨_, rfl⟩)
  · rintro ρ' ⟨r1, rfl⟩
    exact sv_ret ev_bl rfl
/-! _law_many -/
def manyL (l : List (Int × Int)) : Int := sumI (l.map fun c => c.2 + 1 - c.1)
def mnD : D × D → D
  | (.int a, .int b) => .int (b + 1 - a)
  | _ => .non
def c_l_many (ds : List D) (r : D) : Prop := ∃ l : List (Int × Int), ds = [.lst (l.map cellP)] ∧ l.length ≤ 1000 ∧ (∀ c ∈ l, 0 ≤ c.2 + 1 - c.1 ∧ c.2 + 1 - c.1 ≤ 1000) ∧ r = .int (manyL l)
theorem sc_l_many : FnScope ["_law_stretches_here"] ["_law_stretches_here"] (defScope (top 49)) := ⟨rfl, rfl, rfl, by decide +kernel, rfl, by decide +kernel, by decide +kernel⟩
theorem fl_many (T : Top K mg L) : Fn P w K mg base L "_law_many" 1 c_l_many := by
  refine fn_def T.l_many sc_l_many (by rintro ds r ⟨_, rfl, _⟩; rfl) fun f cdv A outer s H E hr ds r hc => ?_
  obtain ⟨l, rfl, hl, hb, rfl⟩ := hc
  have hN := sc_l_many.nd
  let ps : List (D × D) := l.map fun c => (D.int c.1, D.int c.2)
  have e1 : l.map cellP = ps.map pairD := by rw [List.map_map]; rfl
  have e2 : (ps.filter fun _ => true).map mnD = (l.map fun c => c.2 + 1 - c.1).map D.int := by
    rw [List.filter_eq_self.mpr (fun _ _ => rfl), List.map_map, List.map_map]
    rfl
  refine sv_ret (ev_sumL (ns := l.map fun c => c.2 + 1 - c.1) (EL.ev (EL.to (el_compPS (ps := ps) (cl := []) mnD (fun _ => true) rfl .nil (Src.to (src_seq (ev_var 0) rfl) e1) (small63 (by rw [List.length_map]; omega)) (fun C s2 H2 fp q hq => ?_)) e2)) (fun n hn => ?_) (by rw [List.length_map]; omega) T.b_sum) rfl
  · obtain ⟨c, hc, rfl⟩ := List.mem_map.mp hq
    exact ⟨tests_nil, fun _ => ev_sub (ev_add (ev_var 1) ev_int) (ev_var 0)⟩
  · obtain ⟨c, hc, rfl⟩ := List.mem_map.mp hn
    have := hb c hc
    omega
end
end K09

set_option maxHeartbeats 4000000
set_option exponentiation.threshold 2000
namespace K09
open PySem L2 Z M
section
variable {P : Program} {w : World} {K : PySem.W.Frag} {mg : Str → Option Value} {base : Heap} {L : Kl}
/-! +math -/
theorem nn_iff {p w x : Int} (hw : 0 < w) : x ∈ nn p w ↔ -w ≤ 2 * (w * x - p) ∧ 2 * (w * x - p) ≤ w := by
  refine ⟨nn_mem hw, fun ⟨h1, h2⟩ => ?_⟩
  obtain ⟨q, ⟨e, he⟩ | ⟨r, r1, r2, e, he⟩⟩ := nn_cases (p := p) hw
  · rw [he]
    have a1 : w * q ≤ w * x := by omega
    have a2 : w * x ≤ w * (q + 1) := by rw [Int.mul_add, Int.mul_one]; omega
    have b1 := Int.le_of_mul_le_mul_left a1 hw
    have b2 := Int.le_of_mul_le_mul_left a2 hw
    simp only [List.mem_cons, List.not_mem_nil, or_false]
    omega
  · rw [he]
    have a1 : w * q < w * x := by omega
    have a2 : w * x < w * (q + 2) := by rw [Int.mul_add]; omega
    have b1 := Int.lt_of_mul_lt_mul_left a1 (by omega)
    have b2 := Int.lt_of_mul_lt_mul_left a2 (by omega)
    simp only [List.mem_cons, List.not_mem_nil, or_false]
    omega
theorem near_iff {w u v x y : Int} (hw : 0 < w) : (x, y) ∈ near w u v ↔ 2 * dist (w * x - u) (w * y - v) ≤ w := by
  refine ⟨fun h => (near_mem hw h).2.2, fun h => ?_⟩
  obtain ⟨⟨h1, h2⟩, ⟨h3, h4⟩, _⟩ := dist_le_iff.mp h
  unfold near
  refine List.mem_flatMap.mpr ⟨x, (nn_iff hw).mpr ⟨h1, h2⟩, List.mem_map.mpr ⟨y, List.mem_filter.mpr ⟨(nn_iff hw).mpr ⟨h3, h4⟩, decide_eq_true h⟩, rfl⟩⟩
theorem nearL_iff {a b p q k : Int} (h : 0 < dist (a - p) (b - q)) {c : Int × Int} : c ∈ nearL a b p q k ↔ 2 * dist (dist (a - p) (b - q) * (c.1 - a) - k * (p - a)) (dist (a - p) (b - q) * (c.2 - b) - k * (q - b)) ≤ dist (a - p) (b - q) := by
  unfold nearL
  rw [if_neg (by omega), List.mem_map]
  constructor
  · rintro ⟨⟨x, y⟩, h1, rfl⟩
    dsimp only
    rw [show a + x - a = x by omega, show b + y - b = y by omega]
    exact (near_iff h).mp h1
  · intro h1
    exact ⟨(c.1 - a, c.2 - b), (near_iff h).mpr h1, by dsimp only; exact Prod.ext (by show a + (c.1 - a) = c.1; omega) (by show b + (c.2 - b) = c.2; omega)⟩
theorem blk_false {cs : List (Int × Int)} {a b p q k : Int} : blk cs a b p q k = false ↔ ∃ c ∈ nearL a b p q k, c ∉ cs := by
  unfold blk freeL
  constructor
  · intro h
    cases e : (nearL a b p q k).filter (freeB cs) with
    | nil => rw [e] at h; cases h
    | cons c l =>
      have hm : c ∈ (nearL a b p q k).filter (freeB cs) := by rw [e]; exact List.mem_cons_self
      obtain ⟨h1, h2⟩ := List.mem_filter.mp hm
      exact ⟨c, h1, by unfold freeB at h2; simpa using h2⟩
  · rintro ⟨c, h1, h2⟩
    have hm : c ∈ (nearL a b p q k).filter (freeB cs) := List.mem_filter.mpr ⟨h1, by unfold freeB; simpa using h2⟩
    cases e : (nearL a b p q k).filter (freeB cs) with
    | nil => rw [e] at hm; cases hm
    | cons c l => rfl
theorem bool_iff {x y : Bool} (h : x = false ↔ y = false) : x = y := by cases x <;> cases y <;> simp_all
theorem blk_congr {cs ds : List (Int × Int)} (h : ∀ c, c ∈ cs ↔ c ∈ ds) (a b p q k : Int) : blk cs a b p q k = blk ds a b p q k := by
  apply bool_iff
  rw [blk_false, blk_false]
  exact ⟨fun ⟨c, h1, h2⟩ => ⟨c, h1, fun z => h2 ((h c).mpr z)⟩, fun ⟨c, h1, h2⟩ => ⟨c, h1, fun z => h2 ((h c).mp z)⟩⟩
theorem bar_congr {cs ds : List (Int × Int)} (h : ∀ c, c ∈ cs ↔ c ∈ ds) (a b p q : Int) : bar cs a b p q = bar ds a b p q := by
  unfold bar barN
  congr 1
  funext i
  exact blk_congr h a b p q _
theorem seen_congr {cs ds : List (Int × Int)} (h : ∀ c, c ∈ cs ↔ c ∈ ds) (a b p q : Int) : seen cs a b p q = seen ds a b p q := by
  unfold seen
  rw [bar_congr h]
theorem strB_congr {cs ds : List (Int × Int)} (h : ∀ c, c ∈ cs ↔ c ∈ ds) (a b z : Int) : strB cs a b z = strB ds a b z := by
  unfold strB plL
  congr 1
  congr 1
  congr 1
  funext q
  exact seen_congr h a b q.1.1 q.1.2
theorem mem_ins {cs : List (Int × Int)} {c d : Int × Int} : d ∈ ins cs c ↔ d ∈ cs ∨ d = c := by
  unfold ins
  split
  · rename_i h
    exact ⟨.inl, fun z => z.elim id fun e => by rw [e]; exact h⟩
  · rw [List.mem_append, List.mem_singleton]
theorem mem_fold {l : List (Int × Int)} : ∀ {acc : List (Int × Int)} {d : Int × Int}, d ∈ l.foldl ins acc ↔ d ∈ acc ∨ d ∈ l := by
  induction l with
  | nil => intro acc d; simp
  | cons c l ih =>
    intro acc d
    rw [List.foldl_cons, ih, mem_ins, List.mem_cons]
    exact ⟨fun h => h.elim (fun h => h.elim .inl fun h => .inr (.inl h)) fun h => .inr (.inr h), fun h => h.elim (fun h => .inl (.inl h)) fun h => h.elim (fun h => .inl (.inr h)) .inr⟩
theorem mem_ddp {l : List (Int × Int)} {d : Int × Int} : d ∈ ddp l ↔ d ∈ l := by
  unfold ddp
  rw [mem_fold]
  simp
theorem nodup_ins {cs : List (Int × Int)} {c : Int × Int} (h : cs.Nodup) : (ins cs c).Nodup := by
  unfold ins
  split
  · exact h
  · rename_i hc
    rw [List.nodup_append]
    exact ⟨h, by simp, fun x hx y hy e => by rw [List.mem_singleton] at hy; subst hy; subst e; exact hc hx⟩
theorem nodup_ddp (l : List (Int × Int)) : (ddp l).Nodup := by
  have key : ∀ (l acc : List (Int × Int)), acc.Nodup → (l.foldl ins acc).Nodup := by
    intro l
    induction l with
    | nil => intro acc h; exact h
    | cons c l ih => intro acc h; exact ih _ (nodup_ins h)
  exact key l [] List.nodup_nil
/-- the point k between two cells, farther by far; its corners -/
theorem corner_in {w A x : Int} (hw : 0 < w) (h1 : -w ≤ 2 * (w * x - A)) (h2 : 2 * (w * x - A) ≤ w) : x = A / w ∨ x = A / w + 1 := by
  have e := Int.mul_ediv_add_emod A w
  have r0 := Int.emod_nonneg A (by omega : w ≠ 0)
  have r1 := Int.emod_lt_of_pos A hw
  have a1 : w * (A / w - 1) < w * x := by rw [Int.mul_sub, Int.mul_one]; omega
  have a2 : w * x < w * (A / w + 2) := by rw [Int.mul_add]; omega
  have b1 := Int.lt_of_mul_lt_mul_left a1 (by omega)
  have b2 := Int.lt_of_mul_lt_mul_left a2 (by omega)
  omega
def crn (A B w : Int) (i : Nat) : Int × Int := (A / w + (i : Int) % 2, B / w + (i : Int) / 2)
theorem corners {shuts : List (Int × Int)} {a b p q k : Int} (h : 0 < dist (a - p) (b - q)) :
    (∃ i, i < 4 ∧ 2 * dist (dist (a - p) (b - q) * (crn (dist (a - p) (b - q) * a + k * (p - a)) (dist (a - p) (b - q) * b + k * (q - b)) (dist (a - p) (b - q)) i).1 - (dist (a - p) (b - q) * a + k * (p - a))) (dist (a - p) (b - q) * (crn (dist (a - p) (b - q) * a + k * (p - a)) (dist (a - p) (b - q) * b + k * (q - b)) (dist (a - p) (b - q)) i).2 - (dist (a - p) (b - q) * b + k * (q - b))) ≤ dist (a - p) (b - q) ∧
      crn (dist (a - p) (b - q) * a + k * (p - a)) (dist (a - p) (b - q) * b + k * (q - b)) (dist (a - p) (b - q)) i ∉ shuts) ↔ blk shuts a b p q k = false := by
  rw [blk_false]
  have sub : ∀ (w x a k d : Int), w * x - (w * a + k * d) = w * (x - a) - k * d := fun w x a k d => by rw [Int.mul_sub]; omega
  constructor
  · rintro ⟨i, hi, h1, h2⟩
    refine ⟨_, (nearL_iff h).mpr ?_, h2⟩
    rw [sub, sub] at h1
    exact h1
  · rintro ⟨c, h1, h2⟩
    have h1' := (nearL_iff h).mp h1
    rw [← sub, ← sub] at h1'
    obtain ⟨⟨g1, g2⟩, ⟨g3, g4⟩, _⟩ := dist_le_iff.mp h1'
    generalize dist (a - p) (b - q) = w at *
    generalize w * a + k * (p - a) = A at *
    generalize w * b + k * (q - b) = B at *
    have x1 := corner_in h g1 g2
    have y1 := corner_in h g3 g4
    have ex : ∃ i, i < 4 ∧ crn A B w i = c := by
      obtain ⟨cx, cy⟩ := c
      dsimp only at x1 y1
      unfold crn
      rcases x1 with rfl | rfl <;> rcases y1 with rfl | rfl
      · exact ⟨0, by decide, by simp⟩
      · exact ⟨2, by decide, by simp⟩
      · exact ⟨1, by decide, by simp⟩
      · exact ⟨3, by decide, by simp⟩
    obtain ⟨i, hi, rfl⟩ := ex
    exact ⟨i, hi, h1', h2⟩
theorem dist_flip (a b p q : Int) : dist (p - a) (q - b) = dist (a - p) (b - q) := by rw [← dist_neg (a - p) (b - q), show -(a - p) = p - a by omega, show -(b - q) = q - b by omega]
/-! _law_free_at -/
def c_l_free_at (ds : List D) (r : D) : Prop := ∃ (a b p q k : Int) (shuts : List (Int × Int)), ds = [cell a b, cell p q, .int k, .lst (shuts.map cellP)] ∧ 0 < dist (a - p) (b - q) ∧ dist (a - p) (b - q) ≤ 1000 ∧ 0 ≤ k ∧ k ≤ 1000 ∧ r = .bl (!blk shuts a b p q k)
theorem sc_l_free_at : FnScope ["_law_one", "_law_other", "_law_at", "_law_shuts", "_law_far", "_law_a", "_law_b", "_law_k", "_law_cell_here", "_law_lack"] ["_law_one", "_law_other", "_law_at", "_law_shuts"] (defScope (top 44)) := ⟨rfl, rfl, rfl, by decide +kernel, rfl, by decide +kernel, by decide +kernel⟩
theorem fl_free_at (T : Top K mg L) : Fn P w K mg base L "_law_free_at" 2 c_l_free_at := by
  refine fn_def T.l_free_at sc_l_free_at (by rintro ds r ⟨_, _, _, _, _, _, rfl, _⟩; rfl) fun f cdv A outer s H E hr ds r hc => ?_
  obtain ⟨a, b, p, q, k, shuts, rfl, hw, hd, k0, k1, rfl⟩ := hc
  have hN := sc_l_free_at.nd
  have cor := corners (shuts := shuts) (k := k) hw
  refine sv_set 4 (ev_call (fl_reach T) hr (evs_cons (ev_var 0) (evs_cons (ev_var 1) evs_nil)) ⟨_, _, _, _, rfl, rfl⟩) ?_
  rw [dist_flip]
  generalize dist (a - p) (b - q) = far at *
  refine sv_set 5 (ev_add (ev_mul (ev_var 4) (ev_t0 (ev_var 0) ev_int) (mul_l (by omega) (by omega))) (ev_mul (ev_var 2) (ev_sub (ev_t0 (ev_var 1) ev_int) (ev_t0 (ev_var 0) ev_int)) (mul_l (by omega) (by omega)))) ?_
  refine sv_set 6 (ev_add (ev_mul (ev_var 4) (ev_t1 (ev_var 0) ev_int) (mul_l (by omega) (by omega))) (ev_mul (ev_var 2) (ev_sub (ev_t1 (ev_var 1) ev_int) (ev_t1 (ev_var 0) ev_int)) (mul_l (by omega) (by omega)))) ?_
  generalize far * a + k * (p - a) = u at *
  generalize far * b + k * (q - b) = v at *
  have hb : far < 2 ^ 1024 := by omega
  refine sv_for_range (fun i ρ => ∃ r7 r8 r9, ρ = [.v (cell a b), .v (cell p q), .v (.int k), .v (.lst (shuts.map cellP)), .v (.int far), .v (.int u), .v (.int v), r7, r8, r9] ∧ ∀ j, j < i → ¬ (2 * dist (far * (crn u v far j).1 - u) (far * (crn u v far j).2 - v) ≤ far ∧ crn u v far j ∉ shuts)) ev_int (by decide) T.b_range rfl (gv_name 7) (fun _ => trivial) ⟨.no, .no, .no, rfl, fun j hj => by omega⟩ ?_ ?_
  · rintro i ρ' hi ⟨r7, r8, r9, rfl, hno⟩
    have hi4 : i < 4 := by simpa using hi
    refine sv_set 8 (ev_tup (evs_cons (ev_add (ev_fdivB (ev_var 5) (ev_var 4) hw hb) (ev_mod (ev_var 7) ev_int (by decide))) (evs_cons (ev_add (ev_fdivB (ev_var 6) (ev_var 4) hw hb) (ev_fdiv (ev_var 7) ev_int ⟨by decide, by decide⟩)) evs_nil))) ?_
    refine sv_set 9 (ev_call (fl_reach T) hr (evs_cons (ev_tup (evs_cons (ev_var 5) (evs_cons (ev_var 6) evs_nil))) (evs_cons (ev_tup (evs_cons (ev_mul (ev_var 4) (ev_t0 (ev_var 8) ev_int) (mul_l (by omega) (by omega))) (evs_cons (ev_mul (ev_var 4) (ev_t1 (ev_var 8) ev_int) (mul_l (by omega) (by omega))) evs_nil))) evs_nil)) ⟨_, _, _, _, rfl, rfl⟩) ?_
    refine sv_if (WV.tv (wv_and (tv_le (ev_mul ev_int (ev_var 9) (mul_l (by decide) (by decide))) (ev_var 4)) (fun _ => (wv_and1 (tv_notInC (c := crn u v far i) hr (ev_var 8) (ev_var 3)))))) (fun z => ?_) (fun z => ?_)
    · refine sv_ret ev_bl ?_
      have z' : 2 * dist (far * (crn u v far i).1 - u) (far * (crn u v far i).2 - v) ≤ far ∧ crn u v far i ∉ shuts := by
        have := Bool.and_eq_true_iff.mp z
        exact ⟨of_decide_eq_true this.1, by simpa using this.2⟩
      rw [cor.mp ⟨i, hi4, z'⟩]
      rfl
    · refine sv_nil (sv_nil ⟨.v (.int i), _, _, rfl, fun j hj => ?_⟩)
      by_cases e : j = i
      · subst e
        rintro ⟨z1, z2⟩
        have z0 : (decide (2 * dist (far * (crn u v far j).1 - u) (far * (crn u v far j).2 - v) ≤ far) && !decide (crn u v far j ∈ shuts)) = false := z
        rw [decide_eq_true z1, decide_eq_false z2] at z0
        cases z0
      · exact hno j (by omega)
  · rintro ρ' ⟨r7, r8, r9, rfl, hno⟩
    refine sv_ret ev_bl ?_
    have : blk shuts a b p q k = true := by
      cases e : blk shuts a b p q k with
      | true => rfl
      | false =>
        obtain ⟨i, hi, h1⟩ := cor.mpr e
        exact absurd h1 (hno i (by simpa using hi))
    rw [this]
    rfl
/-! _law_seen -/
def c_l_seen (ds : List D) (r : D) : Prop := ∃ (a b p q : Int) (shuts : List (Int × Int)), ds = [cell a b, cell p q, .lst (shuts.map cellP)] ∧ dist (a - p) (b - q) ≤ 1000 ∧ r = .bl (seen shuts a b p q)
theorem sc_l_seen : FnScope ["_law_one", "_law_other", "_law_shuts", "_law_at"] ["_law_one", "_law_other", "_law_shuts"] (defScope (top 45)) := ⟨rfl, rfl, rfl, by decide +kernel, rfl, by decide +kernel, by decide +kernel⟩
theorem fl_seen (T : Top K mg L) : Fn P w K mg base L "_law_seen" 3 c_l_seen := by
  refine fn_def T.l_seen sc_l_seen (by rintro ds r ⟨_, _, _, _, _, rfl, _⟩; rfl) fun f cdv A outer s H E hr ds r hc => ?_
  obtain ⟨a, b, p, q, shuts, rfl, hd, rfl⟩ := hc
  have hN := sc_l_seen.nd
  have h0 := dist_nonneg (a - p) (b - q)
  have hf := dist_flip a b p q
  refine sv_for_range2 (fun i ρ => ∃ r3, ρ = [.v (cell a b), .v (cell p q), .v (.lst (shuts.map cellP)), r3] ∧ ∀ j, j < i → blk shuts a b p q (1 + (j : Int)) = false) ev_int (ev_call (fl_reach T) (hr.mono (by decide)) (evs_cons (ev_var 0) (evs_cons (ev_var 1) evs_nil)) ⟨_, _, _, _, rfl, rfl⟩) (by decide) (by omega) T.b_range rfl (gv_name 3) (fun _ => trivial) ⟨.no, rfl, fun j hj => by omega⟩ ?_ ?_
  · rintro i ρ' hi ⟨r3, rfl, hb⟩
    refine sv_if (tv_not (tv_val (ev_call (fl_free_at T) hr (evs_cons (ev_var 0) (evs_cons (ev_var 1) (evs_cons (ev_var 3) (evs_cons (ev_var 2) evs_nil)))) ⟨_, _, _, _, _, shuts, rfl, by omega, hd, by omega, by omega, rfl⟩))) (fun z => ?_) (fun z => ?_)
    · refine sv_ret ev_bl ?_
      have z' : blk shuts a b p q (1 + (i : Int)) = true := by simpa using z
      have e : bar shuts a b p q = some i := by
        unfold bar barN
        rw [List.find?_range_eq_some]
        exact ⟨z', by rw [← hf]; simpa using hi, fun j hj => by simpa using hb j hj⟩
      unfold seen
      rw [e]
      rfl
    · refine sv_nil (sv_nil ⟨_, rfl, fun j hj => ?_⟩)
      by_cases e : j = i
      · subst e
        simpa using z
      · exact hb j (by omega)
  · rintro ρ' ⟨r3, rfl, hb⟩
    refine sv_ret ev_bl ?_
    have e : bar shuts a b p q = none := by
      unfold bar barN
      rw [List.find?_eq_none]
      intro j hj
      rw [hb j (by rw [hf]; simpa using hj)]
      simp
    unfold seen
    rw [e]
    rfl
end
end K09

set_option maxHeartbeats 4000000
set_option exponentiation.threshold 2000
namespace K09
open PySem L2 Z M
section
variable {P : Program} {w : World} {K : PySem.W.Frag} {mg : Str → Option Value} {base : Heap} {L : Kl}
/-! _law_cells -/
theorem ringL_succ (a b s : Int) (j : Nat) : ringL a b s (j + 1) = ringL a b s j ++ [(a + rx s ((j : Int) + 1), b + ry s ((j : Int) + 1))] := by
  unfold ringL
  rw [List.range_succ, List.map_append]
  rfl
theorem ball_last (a b : Int) (i : Nat) : ∃ xs, ballL a b (i + 1) = xs ++ [(a + (i : Int), b - (i : Int))] := by
  rw [ballL_succ]
  unfold ringD
  by_cases h : (i : Int) = 0
  · rw [if_pos h]
    exact ⟨ballL a b i, by rw [h]; simp⟩
  · rw [if_neg h]
    obtain ⟨n, hn⟩ : ∃ n, 6 * ((i : Int)).toNat = n + 1 := ⟨6 * ((i : Int)).toNat - 1, by omega⟩
    rw [hn, ringL_succ]
    obtain ⟨e1, e2⟩ := st_last (s := (i : Int)) (by omega)
    rw [show ((n : Int) + 1) = 6 * (i : Int) by omega, e1, e2]
    exact ⟨ballL a b i ++ ringL a b (i : Int) n, by rw [List.append_assoc, show b + -(i : Int) = b - (i : Int) by omega]⟩
/-- the cell ahead of the step j of the ring n -/
def hereC (a b n : Int) (j : Nat) : Int × Int := if j = 0 then (a + (n - 1), b - (n - 1)) else (a + rx n j, b + ry n j)
def wayC (n : Int) (j : Nat) : Int := if j = 0 then 0 else ((j : Int) / n + 1) % 6
theorem way_next {a b n : Int} (h1 : 1 ≤ n) {j : Nat} (h3 : (j : Int) < 6 * n) : ((hereC a b n j).1 + wx (wayC n j), (hereC a b n j).2 + wy (wayC n j)) = (a + rx n ((j : Int) + 1), b + ry n ((j : Int) + 1)) := by
  unfold hereC wayC
  by_cases h : j = 0
  · subst h
    rw [if_pos rfl, if_pos rfl]
    obtain ⟨e1, e2⟩ := st_first h1
    have z : ((0 : Nat) : Int) + 1 = 1 := by omega
    rw [z, e1, e2]
    refine Prod.ext ?_ ?_
    · show a + (n - 1) + wx 0 = a + n
      simp [wx]
      omega
    · show b - (n - 1) + wy 0 = b + (1 - n)
      simp [wy]
      omega
  · rw [if_neg h, if_neg h]
    obtain ⟨e1, e2⟩ := st_step h1 (st := (j : Int)) (by omega) h3
    rw [e1, e2]
    refine Prod.ext ?_ ?_
    · show a + rx n j + _ = a + (rx n j + _)
      omega
    · show b + ry n j + _ = b + (ry n j + _)
      omega
theorem wayC_ok (n : Int) (j : Nat) : 0 ≤ wayC n j ∧ wayC n j < 6 := by unfold wayC; split <;> omega
def c_l_cells (ds : List D) (r : D) : Prop := ∃ a b z : Int, ds = [cell a b, .int z] ∧ 0 ≤ z ∧ z ≤ 4 ∧ r = .lst ((ballL a b (z + 1).toNat).map cellP)
theorem sc_l_cells : FnScope ["_law_middle", "_law_size", "_law_cells_here", "_law_near", "_law_cell_here", "_law_ahead", "_law_way", "_law_step"] ["_law_middle", "_law_size"] (defScope (top 46)) := ⟨rfl, rfl, rfl, by decide +kernel, rfl, by decide +kernel, by decide +kernel⟩
theorem fl_cells (T : Top K mg L) : Fn P w K mg base L "_law_cells" 1 c_l_cells := by
  refine fn_def T.l_cells sc_l_cells (by rintro ds r ⟨_, _, _, rfl, _⟩; rfl) fun f cdv A outer s H E hr ds r hc => ?_
  obtain ⟨a, b, z, rfl, h0, h4, rfl⟩ := hc
  have hN := sc_l_cells.nd
  refine sv_new 2 (evs_cons (ev_var 0) evs_nil) (Nat.le_of_lt (small63 (by simp))) ?_
  refine sv_for_range2 (fun i ρ => ∃ r3 r4 r5 r6 r7, ρ = [.v (cell a b), .v (.int z), .own ((ballL a b (i + 1)).map cellP), r3, r4, r5, r6, r7]) ev_int (ev_add (ev_var 1) ev_int) (by decide) (by omega) T.b_range rfl (gv_name 3) (fun _ => trivial) ⟨_, _, _, _, _, rfl⟩ ?_ ?_
  · rintro i ρ' hi ⟨r3, r4, r5, r6, r7, rfl⟩
    have hi4 : i < 4 := by omega
    obtain ⟨xs, hx⟩ := ball_last a b i
    have ix : atI ((ballL a b (i + 1)).map cellP) (-1) = some (cellP (a + (i : Int), b - (i : Int))) := by rw [hx, List.map_append]; exact atI_snoc _ _
    refine sv_set 4 (ev_share 2 (ev_ix (ev_var 2) (ev_neg ev_int) rfl ix)) ?_
    have hb := ballL_len a b (i + 1) (by omega)
    refine sv_for_range (fun j ρ => ∃ r5 r6 r7, ρ = [.v (cell a b), .v (.int z), .own ((ballL a b (i + 1) ++ ringL a b (1 + (i : Int)) j).map cellP), .v (.int (1 + (i : Int))), .v (cellP (hereC a b (1 + (i : Int)) j)), r5, r6, r7]) (ev_mul ev_int (ev_var 3) (mul_l (by decide) (by decide))) (by omega) T.b_range rfl (gv_name 5) (fun _ => trivial) ⟨r5, r6, r7, ?_⟩ ?_ ?_
    · unfold hereC ringL
      rw [if_pos rfl, show 1 + (i : Int) - 1 = (i : Int) by omega]
      simp
    · rintro j ρ' hj ⟨r5, r6, r7, rfl⟩
      have hj2 : (j : Int) < 6 * (1 + (i : Int)) := by omega
      have nx := way_next (a := a) (b := b) (n := 1 + (i : Int)) (by omega) hj2
      have hw := wayC_ok (1 + (i : Int)) j
      have rl : (ringL a b (1 + (i : Int)) j).length = j := by unfold ringL; simp
      rw [ringL_succ]
      generalize hereC a b (1 + (i : Int)) j = c at *
      obtain ⟨cx, cy⟩ := c
      refine sv_set 6 (ev_mod (ev_add (ev_fdiv (ev_var 5) (ev_var 3) ⟨by omega, by omega⟩) ev_int) ev_int (by decide)) ?_
      refine sv_ifJ [.v (cell a b), .v (.int z), .own ((ballL a b (i + 1) ++ ringL a b (1 + (i : Int)) j).map cellP), .v (.int (1 + (i : Int))), .v (cell cx cy), .v (.int j), .v (.int (wayC (1 + (i : Int)) j)), r7] (tv_eq hr (ev_var 5) ev_int) (fun c => ?_) (fun c => ?_) ?_
      · rw [eqD_int] at c
        have c' : (j : Int) = 0 := of_decide_eq_true c
        refine sv_set 6 ev_int ?_
        refine sv_nil ?_
        unfold wayC
        rw [if_pos (by omega)]
        rfl
      · rw [eqD_int] at c
        have c' : ¬ (j : Int) = 0 := of_decide_eq_false c
        refine sv_nil ?_
        unfold wayC
        rw [if_neg (by omega)]
        rfl
      generalize wayC (1 + (i : Int)) j = wy' at *
      refine sv_set 7 (ev_ix (da := .lst waysD) (ds := waysD) (ev_lst (LitPs.evs (by repeat constructor)) (by decide)) (ev_var 6) rfl (ways_at hw)) ?_
      refine sv_set 4 (ev_tup (evs_cons (ev_add (ev_t0 (ev_var 4) ev_int) (ev_t0 (ev_var 7) ev_int)) (evs_cons (ev_add (ev_t1 (ev_var 4) ev_int) (ev_t1 (ev_var 7) ev_int)) evs_nil))) ?_
      refine sv_append 2 rfl (ev_var 4) (small63 (by rw [List.length_map, List.length_append, rl]; omega)) ?_
      refine sv_nil ⟨.v (.int j), .v (.int wy'), .v (cell (wx wy') (wy wy')), ?_⟩
      have e : cell (cx + wx wy') (cy + wy wy') = cellP (a + rx (1 + (i : Int)) ((j : Int) + 1), b + ry (1 + (i : Int)) ((j : Int) + 1)) := by rw [← nx]
      have e2 : hereC a b (1 + (i : Int)) (j + 1) = (a + rx (1 + (i : Int)) ((j : Int) + 1), b + ry (1 + (i : Int)) ((j : Int) + 1)) := by
        unfold hereC
        rw [if_neg (by omega)]
        rfl
      rw [e2, ← nx]
      simp only [List.map_append, List.map_cons, List.map_nil, List.append_assoc]
      rfl
    · rintro ρ' ⟨r5, r6, r7, rfl⟩
      refine sv_nil ⟨.v (.int (1 + (i : Int))), .v (cellP (hereC a b (1 + (i : Int)) (6 * (1 + (i : Int))).toNat)), r5, r6, r7, ?_⟩
      rw [ballL_succ a b (i + 1)]
      unfold ringD
      rw [if_neg (by omega), show (((i + 1 : Nat) : Int)) = 1 + (i : Int) by omega, show (6 * (1 + (i : Int))).toNat = 6 * (1 + (i : Int)).toNat by omega]
  · rintro ρ' ⟨r3, r4, r5, r6, r7, rfl⟩
    refine sv_freeze 2 rfl ?_
    refine sv_ret (ev_var 2) ?_
    rw [show (z + 1 - 1).toNat + 1 = (z + 1).toNat by omega]
/-! _law_due -/
theorem plL_snoc {cs : List (Int × Int)} {a b : Int} {l : List (Int × Int)} {i : Nat} {c : Int × Int} (h : l[i]? = some c) : plL cs a b (l.take (i + 1)) = plL cs a b (l.take i) ++ (if seen cs a b c.1 c.2 = true then [(i : Int)] else []) := by
  unfold plL
  have hl : (l.take i).length = i := by
    rw [List.length_take]
    have := (List.getElem?_eq_some_iff.mp h).1
    omega
  rw [take_snoc h, List.zipIdx_append, List.filter_append, List.map_append, hl]
  congr 1
  simp only [List.zipIdx_cons, List.zipIdx_nil, List.filter_cons, List.filter_nil]
  split <;> simp
theorem eqD_nil (l : List (Int × Int)) : eqD (.lst (l.map cellP)) (.lst []) = l.isEmpty := by
  cases l with
  | nil => rfl
  | cons c l => rfl
def c_l_due (ds : List D) (r : D) : Prop := ∃ (a b z : Int) (shuts : List (Int × Int)), ds = [cell a b, .int z, .lst (shuts.map cellP)] ∧ 0 ≤ z ∧ z ≤ 4 ∧ r = .lst ((strB shuts a b z).map cellP)
theorem sc_l_due : FnScope ["_law_middle", "_law_size", "_law_shuts", "_law_due_here", "_law_cells_here", "_law_place"] ["_law_middle", "_law_size", "_law_shuts"] (defScope (top 48)) := ⟨rfl, rfl, rfl, by decide +kernel, rfl, by decide +kernel, by decide +kernel⟩
theorem fl_due (T : Top K mg L) : Fn P w K mg base L "_law_due" 4 c_l_due := by
  refine fn_def T.l_due sc_l_due (by rintro ds r ⟨_, _, _, _, rfl, _⟩; rfl) fun f cdv A outer s H E hr ds r hc => ?_
  obtain ⟨a, b, z, shuts, rfl, h0, h4, rfl⟩ := hc
  have hN := sc_l_due.nd
  have hbl := ballL_len a b (z + 1).toNat (by omega)
  have hnear : ∀ c ∈ ballL a b (z + 1).toNat, dist (a - c.1) (b - c.2) ≤ 4 := fun c hc => ballL_near (by omega) hc
  unfold strB
  refine sv_new 3 evs_nil (by decide) ?_
  refine sv_set 4 (ev_call (fl_cells T) (hr.mono (by decide)) (evs_cons (ev_var 0) (evs_cons (ev_var 1) evs_nil)) ⟨a, b, z, rfl, h0, h4, rfl⟩) ?_
  generalize ballL a b (z + 1).toNat = l at *
  refine sv_for_range (fun i ρ => ∃ r5, ρ = [.v (cell a b), .v (.int z), .v (.lst (shuts.map cellP)), .own ((strL (plL shuts a b (l.take i))).map cellP), .v (.lst (l.map cellP)), r5]) (ev_len (ev_var 4) rfl T.b_len) (by rw [List.length_map]; omega) T.b_range rfl (gv_name 5) (fun _ => trivial) ⟨.no, rfl⟩ ?_ ?_
  · rintro i ρ' hi ⟨r5, rfl⟩
    have hi' : i < l.length := by simpa using hi
    obtain ⟨c, hc⟩ : ∃ c, l[i]? = some c := ⟨l[i], by simp [hi']⟩
    have hd := hnear c (List.mem_of_getElem? hc)
    refine sv_if (tv_val (ev_call (fl_seen T) hr (evs_cons (ev_var 0) (evs_cons (ev_ix (ev_var 4) (ev_var 5) rfl (atI_nat (v := cellP c) (by simp [hc]))) (evs_cons (ev_var 2) evs_nil))) ⟨_, _, _, _, shuts, rfl, by omega, rfl⟩)) (fun z1 => ?_) (fun z1 => ?_)
    · have next : strL (plL shuts a b (l.take (i + 1))) = strS (strL (plL shuts a b (l.take i))) i := by
        rw [plL_snoc hc, if_pos z1]
        unfold strL
        rw [List.foldl_append]
        rfl
      have hlen : (strL (plL shuts a b (l.take i))).length ≤ 120 := by
        have := strL_len (plL shuts a b (l.take i))
        have := plL_len shuts a b (l.take i)
        have := List.length_take_le' i l
        omega
      rw [next]
      generalize strL (plL shuts a b (l.take i)) = acc at hlen ⊢
      rcases List.eq_nil_or_concat acc with rfl | ⟨xs, d, e⟩
      · refine sv_if (WV.tv (wv_and (u := false) (tv_share 3 (tv_ne hr (ev_var 3) (ev_lst evs_nil) (ok_cells _) rfl)) (fun z => by rw [eqD_nil] at z; cases z))) (fun z => by simp at z) (fun _ => ?_)
        refine sv_append 3 rfl (ev_tup (evs_cons (ev_var 5) (evs_cons (ev_var 5) evs_nil))) (small63 (by simp)) ?_
        exact sv_nil (sv_nil (sv_nil ⟨.v (.int i), rfl⟩))
      · rw [List.concat_eq_append] at e
        subst e
        have ix : atI ((xs ++ [d]).map cellP) (-1) = some (cellP d) := by rw [List.map_append]; exact atI_snoc _ _
        have he : (!eqD (.lst ((xs ++ [d]).map cellP)) (.lst [])) = true := by rw [eqD_nil]; simp
        refine sv_if (WV.tv (wv_and (tv_share 3 (tv_ne hr (ev_var 3) (ev_lst evs_nil) (ok_cells _) rfl)) (fun z => wv_and1 (tv_share 3 (tv_eq hr (ev_t1 (ev_ix (ev_var 3) (ev_neg ev_int) rfl ix) ev_int) (ev_sub (ev_var 5) ev_int)))))) (fun z => ?_) (fun z => ?_)
        · rw [he, Bool.true_and, eqD_int] at z
          have z' : d.2 = (i : Int) - 1 := of_decide_eq_true z
          refine sv_setL 3 rfl (ev_share 3 (ev_tup (evs_cons (ev_t0 (ev_ix (ev_var 3) (ev_neg ev_int) rfl ix) ev_int) (evs_cons (ev_var 5) evs_nil)))) (ev_neg ev_int) (j := xs.length) (by rw [List.length_map, List.length_append]; exact ixN_snoc _) ?_
          refine sv_nil (sv_nil (sv_nil ⟨.v (.int i), ?_⟩))
          rw [strS_snoc, if_pos z']
          simp only [List.map_append, List.map_cons, List.map_nil]
          rw [List.set_append_right _ _ (by rw [List.length_map]; exact Nat.le_refl _)]
          simp
        · rw [he, Bool.true_and, eqD_int] at z
          have z' : ¬ d.2 = (i : Int) - 1 := of_decide_eq_false z
          refine sv_append 3 rfl (ev_tup (evs_cons (ev_var 5) (evs_cons (ev_var 5) evs_nil))) (small63 (by rw [List.length_map]; omega)) ?_
          refine sv_nil (sv_nil (sv_nil ⟨.v (.int i), ?_⟩))
          rw [strS_snoc, if_neg z']
          simp only [List.map_append, List.map_cons, List.map_nil]
          rfl
    · refine sv_nil (sv_nil ⟨.v (.int i), ?_⟩)
      rw [plL_snoc hc, if_neg (by rw [z1]; decide), List.append_nil]
      rfl
  · rintro ρ' ⟨r5, rfl⟩
    refine sv_freeze 3 rfl ?_
    refine sv_ret (ev_var 3) ?_
    rw [show (((l.map cellP).length : Int)).toNat = l.length by simp, List.take_length]
end
end K09

set_option maxHeartbeats 4000000
set_option exponentiation.threshold 2000
namespace K09
open PySem L2 Z M
section
variable {P : Program} {w : World} {K : PySem.W.Frag} {mg : Str → Option Value} {base : Heap} {L : Kl}
/-! +moved -/
theorem carry_inj {g : Fm} (hg : g.ok) {x y : Int × Int} (h : carry g x = carry g y) : x = y := by
  have := congrArg (carry (backF g)) h
  rw [carry_back hg, carry_back hg] at this
  exact this
theorem carry_fore {f : Fm} (hf : f.ok) (d : Int × Int) : carry f (carry (backF f) d) = d := by
  apply carry_inj (back_ok f)
  rw [carry_back hf]
def smul (m : Int) (c : Int × Int) : Int × Int := (m * c.1, m * c.2)
theorem rot_smul (m : Int) : ∀ (n : Nat) (c : Int × Int), rotN n (smul m c) = smul m (rotN n c)
  | 0, _ => rfl
  | n + 1, c => by
    show rot1 (rotN n (smul m c)) = smul m (rot1 (rotN n c))
    rw [rot_smul m n c]
    unfold rot1 smul
    refine Prod.ext ?_ ?_
    · show -(m * _) = m * -_
      rw [Int.mul_neg]
    · show m * _ + m * _ = m * (_ + _)
      rw [Int.mul_add]
/-- the motion without its shift -/
def lin (f : Fm) (v : Int × Int) : Int × Int := rotN f.t.toNat (if f.fl = true then swp v else v)
theorem lin_smul (f : Fm) (m : Int) (c : Int × Int) : lin f (smul m c) = smul m (lin f c) := by
  unfold lin
  rw [← rot_smul]
  congr 1
  split <;> rfl
theorem lin_pls (f : Fm) (c d : Int × Int) : lin f (pls c d) = pls (lin f c) (lin f d) := by
  unfold lin
  rw [← rot_pls]
  congr 1
  split <;> rfl
theorem lin_dist (f : Fm) (v : Int × Int) : dist (lin f v).1 (lin f v).2 = dist v.1 v.2 := by
  have z : ∀ n, rotN n (0, 0) = (0, 0) := fun n => by
    have := rot_smul 0 n (0, 0)
    simp only [smul, Int.zero_mul] at this
    exact this
  have h := fun c => dist_rot f.t.toNat c (0, 0)
  rw [z] at h
  simp only [Int.sub_zero] at h
  unfold lin
  rw [h]
  split
  · exact dist_swap v.1 v.2
  · rfl
theorem carry_lin {f : Fm} (hf : f.ok) (c : Int × Int) : carry f c = pls (lin f c) (f.x, f.y) := carry_rot hf c
theorem carry_sub {f : Fm} (hf : f.ok) (c d : Int × Int) : ((carry f c).1 - (carry f d).1, (carry f c).2 - (carry f d).2) = lin f (c.1 - d.1, c.2 - d.2) := by
  have e : c = pls (c.1 - d.1, c.2 - d.2) d := by
    unfold pls
    exact Prod.ext (by show c.1 = c.1 - d.1 + d.1; omega) (by show c.2 = c.2 - d.2 + d.2; omega)
  have h := lin_pls f (c.1 - d.1, c.2 - d.2) d
  rw [← e] at h
  rw [carry_lin hf, carry_lin hf, h]
  unfold pls
  refine Prod.ext ?_ ?_
  · show _ + _ + f.x - (_ + f.x) = _
    omega
  · show _ + _ + f.y - (_ + f.y) = _
    omega
/-- a cell is as near to a point as its image is to the point's image -/
theorem near_carry {f : Fm} (hf : f.ok) (a b p q k : Int) (c : Int × Int) : carry f c ∈ nearL (carry f (a, b)).1 (carry f (a, b)).2 (carry f (p, q)).1 (carry f (p, q)).2 k ↔ c ∈ nearL a b p q k := by
  have hd := carry_dist hf (a, b) (p, q)
  dsimp only at hd
  by_cases h0 : dist (a - p) (b - q) = 0
  · unfold nearL
    rw [hd, if_pos h0, if_pos h0, List.mem_singleton, List.mem_singleton]
    exact ⟨fun h => carry_inj hf h, fun h => by rw [h]⟩
  · have hw : 0 < dist (a - p) (b - q) := by have := dist_nonneg (a - p) (b - q); omega
    rw [nearL_iff (by rw [hd]; exact hw), nearL_iff hw, hd]
    generalize dist (a - p) (b - q) = w
    have e1 := carry_sub hf c (a, b)
    have e2 := carry_sub hf (p, q) (a, b)
    dsimp only at e1 e2
    have key : (w * ((carry f c).1 - (carry f (a, b)).1) - k * ((carry f (p, q)).1 - (carry f (a, b)).1), w * ((carry f c).2 - (carry f (a, b)).2) - k * ((carry f (p, q)).2 - (carry f (a, b)).2)) = lin f (w * (c.1 - a) - k * (p - a), w * (c.2 - b) - k * (q - b)) := by
      have s1 : (w * (c.1 - a) - k * (p - a), w * (c.2 - b) - k * (q - b)) = pls (smul w (c.1 - a, c.2 - b)) (smul (-k) (p - a, q - b)) := by
        unfold pls smul
        refine Prod.ext ?_ ?_
        · show _ = w * (c.1 - a) + -k * (p - a)
          rw [Int.neg_mul]
          rfl
        · show _ = w * (c.2 - b) + -k * (q - b)
          rw [Int.neg_mul]
          rfl
      rw [s1, lin_pls, lin_smul, lin_smul, ← e1, ← e2]
      unfold pls smul
      refine Prod.ext ?_ ?_
      · show _ = w * _ + -k * _
        rw [Int.neg_mul]
        rfl
      · show _ = w * _ + -k * _
        rw [Int.neg_mul]
        rfl
    have h3 := lin_dist f (w * (c.1 - a) - k * (p - a), w * (c.2 - b) - k * (q - b))
    rw [← key] at h3
    dsimp only at h3
    rw [h3]
theorem blk_carry {f : Fm} (hf : f.ok) {cs cs' : List (Int × Int)} (hc : ∀ c, carry f c ∈ cs' ↔ c ∈ cs) (a b p q k : Int) : blk cs' (carry f (a, b)).1 (carry f (a, b)).2 (carry f (p, q)).1 (carry f (p, q)).2 k = blk cs a b p q k := by
  apply bool_iff
  rw [blk_false, blk_false]
  constructor
  · rintro ⟨d, h1, h2⟩
    rw [← carry_fore hf d] at h1 h2
    exact ⟨_, (near_carry hf a b p q k _).mp h1, fun z => h2 ((hc _).mpr z)⟩
  · rintro ⟨c, h1, h2⟩
    exact ⟨_, (near_carry hf a b p q k c).mpr h1, fun z => h2 ((hc c).mp z)⟩
theorem bar_carry {f : Fm} (hf : f.ok) {cs cs' : List (Int × Int)} (hc : ∀ c, carry f c ∈ cs' ↔ c ∈ cs) (a b p q : Int) : bar cs' (carry f (a, b)).1 (carry f (a, b)).2 (carry f (p, q)).1 (carry f (p, q)).2 = bar cs a b p q := by
  have hd := carry_dist hf (a, b) (p, q)
  dsimp only at hd
  unfold bar barN
  rw [hd]
  congr 1
  funext i
  exact blk_carry hf hc a b p q _
theorem seen_carry {f : Fm} (hf : f.ok) {cs cs' : List (Int × Int)} (hc : ∀ c, carry f c ∈ cs' ↔ c ∈ cs) (a b p q : Int) : seen cs' (carry f (a, b)).1 (carry f (a, b)).2 (carry f (p, q)).1 (carry f (p, q)).2 = seen cs a b p q := by
  unfold seen
  rw [bar_carry hf hc]
/-- seen both ways -/
theorem seen_iff {cs : List (Int × Int)} {a b p q : Int} : seen cs a b p q = true ↔ ∀ k : Int, 0 < k → k < dist (a - p) (b - q) → blk cs a b p q k = false := by
  have h0 := dist_nonneg (a - p) (b - q)
  unfold seen bar barN
  rw [Option.isNone_iff_eq_none, List.find?_eq_none]
  constructor
  · intro h k k0 k1
    have := h (k - 1).toNat (List.mem_range.mpr (by omega))
    rw [show 1 + (((k - 1).toNat : Nat) : Int) = k by omega] at this
    simpa using this
  · intro h i hi
    rw [List.mem_range] at hi
    rw [h (1 + (i : Int)) (by omega) (by omega)]
    simp
theorem blk_back (cs : List (Int × Int)) (a b p q k : Int) : blk cs p q a b (dist (a - p) (b - q) - k) = blk cs a b p q k := by
  unfold blk freeL
  rw [nearL_sym]
theorem seen_back (cs : List (Int × Int)) (a b p q : Int) : seen cs p q a b = seen cs a b p q := by
  have key : ∀ a b p q : Int, seen cs a b p q = true → seen cs p q a b = true := fun a b p q h => by
    rw [seen_iff] at h ⊢
    intro k k0 k1
    rw [dist_flip] at k1
    have := h (dist (a - p) (b - q) - k) (by omega) (by omega)
    rw [← this, ← blk_back cs a b p q (dist (a - p) (b - q) - k)]
    congr 1
    omega
  rw [Bool.eq_iff_iff]
  exact ⟨key p q a b, key a b p q⟩
/-! the walls -/
theorem mem_moved {f : Fm} (hf : f.ok) {cs : List (Int × Int)} (c : Int × Int) : carry f c ∈ ddp ((srt cs).map (carry f)) ↔ c ∈ cs := by
  rw [mem_ddp, List.mem_map]
  constructor
  · rintro ⟨d, h1, h2⟩
    rw [← carry_inj hf h2]
    exact (srt_perm cs).mem_iff.mp h1
  · intro h
    exact ⟨c, (srt_perm cs).mem_iff.mpr h, rfl⟩
theorem srt_ddp {xs ys : List (Int × Int)} (h : ∀ c, c ∈ xs ↔ c ∈ ys) : srt (ddp xs) = srt (ddp ys) := by
  apply srt_congr
  refine (List.perm_ext_iff_of_nodup (nodup_ddp xs) (nodup_ddp ys)).mpr fun c => ?_
  rw [mem_ddp, mem_ddp]
  exact h c
/-! how many -/
theorem sumI_append (xs ys : List Int) : sumI (xs ++ ys) = sumI xs + sumI ys := by
  induction xs with
  | nil => show sumI ys = 0 + sumI ys; omega
  | cons x xs ih => show x + sumI (xs ++ ys) = x + sumI xs + sumI ys; omega
theorem many_strS (acc : List (Int × Int)) (p : Int) : manyL (strS acc p) = manyL acc + 1 := by
  rcases List.eq_nil_or_concat acc with rfl | ⟨xs, c, rfl⟩
  · show p + 1 - p + 0 = 0 + 1
    omega
  · rw [List.concat_eq_append, strS_snoc]
    unfold manyL
    split
    · rename_i h
      simp only [List.map_append, List.map_cons, List.map_nil, sumI_append]
      show _ + (p + 1 - c.1 + 0) = _ + (c.2 + 1 - c.1 + 0) + 1
      omega
    · simp only [List.map_append, List.map_cons, List.map_nil, sumI_append]
      show _ + (p + 1 - p + 0) = _ + 1
      omega
theorem many_strL (ps : List Int) : manyL (strL ps) = ps.length := by
  have key : ∀ (ps : List Int) (acc : List (Int × Int)), manyL (ps.foldl strS acc) = manyL acc + ps.length := by
    intro ps
    induction ps with
    | nil => intro acc; simp
    | cons p ps ih =>
      intro acc
      rw [List.foldl_cons, ih, many_strS, List.length_cons]
      push_cast
      omega
  have := key ps []
  rw [show manyL [] = 0 from rfl] at this
  unfold strL
  omega
theorem strS_up {acc : List (Int × Int)} {p : Int} (h : ∀ c ∈ acc, c.1 ≤ c.2) : ∀ c ∈ strS acc p, c.1 ≤ c.2 := by
  intro c hc
  rcases List.eq_nil_or_concat acc with rfl | ⟨xs, d, rfl⟩
  · have : c = (p, p) := by simpa [strS] using hc
    rw [this]
    exact Int.le_refl _
  · rw [List.concat_eq_append] at h hc
    rw [strS_snoc] at hc
    have hd := h d (by simp)
    split at hc
    · rename_i e
      rcases List.mem_append.mp hc with hc | hc
      · exact h c (List.mem_append_left _ hc)
      · rw [List.mem_singleton] at hc
        subst hc
        show d.1 ≤ p
        omega
    · rcases List.mem_append.mp hc with hc | hc
      · exact h c hc
      · rw [List.mem_singleton] at hc
        subst hc
        exact Int.le_refl _
theorem strL_up (ps : List Int) : ∀ c ∈ strL ps, c.1 ≤ c.2 := by
  have key : ∀ (ps : List Int) (acc : List (Int × Int)), (∀ c ∈ acc, c.1 ≤ c.2) → ∀ c ∈ ps.foldl strS acc, c.1 ≤ c.2 := by
    intro ps
    induction ps with
    | nil => intro acc h; exact h
    | cons p ps ih => intro acc h; exact ih _ (strS_up h)
  exact key ps [] (fun c hc => by cases hc)
theorem many_pos : ∀ {l : List (Int × Int)}, (∀ c ∈ l, c.1 ≤ c.2) → 0 ≤ manyL l
  | [], _ => Int.le_refl _
  | e :: l, h => by
    have h1 := h e List.mem_cons_self
    have h2 := many_pos fun c hc => h c (List.mem_cons_of_mem _ hc)
    show 0 ≤ e.2 + 1 - e.1 + manyL l
    omega
theorem le_sum {l : List (Int × Int)} (h : ∀ c ∈ l, c.1 ≤ c.2) : ∀ c ∈ l, c.2 + 1 - c.1 ≤ manyL l := by
  induction l with
  | nil => intro c hc; cases hc
  | cons d l ih =>
    intro c hc
    have ih := ih fun c hc => h c (List.mem_cons_of_mem _ hc)
    have pos := many_pos fun c hc => h c (List.mem_cons_of_mem _ hc)
    have hd := h d List.mem_cons_self
    show _ ≤ d.2 + 1 - d.1 + manyL l
    rcases List.mem_cons.mp hc with rfl | hc
    · omega
    · have := ih c hc
      omega
/-! the ball -/
theorem ringD_shift (a b s : Int) : ringD a b s = (ringD 0 0 s).map fun c => (c.1 + a, c.2 + b) := by
  unfold ringD
  split
  · simp
  · unfold ringL
    rw [List.map_map]
    refine List.map_congr_left fun j _ => ?_
    simp only [Function.comp]
    exact Prod.ext (by dsimp only; omega) (by dsimp only; omega)
theorem ballL_shift (a b : Int) : ∀ n, ballL a b n = (ballL 0 0 n).map fun c => (c.1 + a, c.2 + b)
  | 0 => rfl
  | n + 1 => by rw [ballL_succ, ballL_succ, List.map_append, ballL_shift a b n, ringD_shift]
theorem plL_count (cs : List (Int × Int)) (a b : Int) (l : List (Int × Int)) : (plL cs a b l).length = (l.filter fun c => seen cs a b c.1 c.2).length := by
  unfold plL
  rw [List.length_map]
  have key : ∀ (l : List (Int × Int)) (k : Nat), ((l.zipIdx k).filter fun q => seen cs a b q.1.1 q.1.2).length = (l.filter fun c => seen cs a b c.1 c.2).length := by
    intro l
    induction l with
    | nil => intro k; rfl
    | cons c l ih =>
      intro k
      have := ih (k + 1)
      rw [List.zipIdx_cons, List.filter_cons, List.filter_cons]
      dsimp only
      split
      · rw [List.length_cons, List.length_cons, this]
      · exact this
  exact key l 0
def linT (fl : Bool) (t : Nat) (v : Int × Int) : Int × Int := rotN t (if fl = true then swp v else v)
theorem balls_turn : ∀ fl : Bool, ∀ t, t < 6 → ∀ n, n < 6 → ((ballL 0 0 n).map (linT fl t)).isPerm (ballL 0 0 n) = true := by decide +kernel
theorem ball_turn {f : Fm} (hf : f.ok) {n : Nat} (hn : n ≤ 5) : ((ballL 0 0 n).map (lin f)).Perm (ballL 0 0 n) := by
  have := balls_turn f.fl f.t.toNat (by have := hf; unfold Fm.ok at this; omega) n (by omega)
  exact List.isPerm_iff.mp this
theorem ball_carry {f : Fm} (hf : f.ok) (a b : Int) {n : Nat} (hn : n ≤ 5) : ((ballL a b n).map (carry f)).Perm (ballL (carry f (a, b)).1 (carry f (a, b)).2 n) := by
  rw [ballL_shift a b, ballL_shift (carry f (a, b)).1]
  have e : ((ballL 0 0 n).map fun c => (c.1 + a, c.2 + b)).map (carry f) = ((ballL 0 0 n).map (lin f)).map fun c => (c.1 + (carry f (a, b)).1, c.2 + (carry f (a, b)).2) := by
    rw [List.map_map, List.map_map]
    refine List.map_congr_left fun c _ => ?_
    simp only [Function.comp]
    have h := carry_sub hf (c.1 + a, c.2 + b) (a, b)
    dsimp only at h
    rw [show c.1 + a - a = c.1 by omega, show c.2 + b - b = c.2 by omega] at h
    have h1 := congrArg Prod.fst h
    have h2 := congrArg Prod.snd h
    dsimp only at h1 h2
    exact Prod.ext (by dsimp only; rw [← h1]; omega) (by dsimp only; rw [← h2]; omega)
  rw [e]
  exact (ball_turn hf hn).map _
theorem many_carry {f : Fm} (hf : f.ok) {cs cs' : List (Int × Int)} (hc : ∀ c, carry f c ∈ cs' ↔ c ∈ cs) (a b z : Int) (h4 : z ≤ 4) : manyL (strB cs' (carry f (a, b)).1 (carry f (a, b)).2 z) = manyL (strB cs a b z) := by
  unfold strB
  rw [many_strL, many_strL, plL_count, plL_count]
  have p := (ball_carry hf a b (n := (z + 1).toNat) (by omega)).symm.filter fun c => seen cs' (carry f (a, b)).1 (carry f (a, b)).2 c.1 c.2
  rw [p.length_eq, List.filter_map, List.length_map]
  have e : ((fun c : Int × Int => seen cs' (carry f (a, b)).1 (carry f (a, b)).2 c.1 c.2) ∘ carry f) = fun c : Int × Int => seen cs a b c.1 c.2 := by
    funext c
    exact seen_carry hf hc a b c.1 c.2
  rw [e]
theorem carry_shift (x y : Int) (c : Int × Int) : carry ⟨false, 0, x, y⟩ c = (c.1 + x, c.2 + y) := by
  unfold carry
  simp [rtx, rty]
theorem shift_ok (x y : Int) : (⟨false, 0, x, y⟩ : Fm).ok := (Dd.shift x y).ok
theorem strB_shift {cs cs' : List (Int × Int)} (a b z x y : Int) (hc : ∀ c, carry ⟨false, 0, x, y⟩ c ∈ cs' ↔ c ∈ cs) : strB cs' (a + x) (b + y) z = strB cs a b z := by
  unfold strB
  congr 1
  have e : ballL (a + x) (b + y) (z + 1).toNat = (ballL a b (z + 1).toNat).map (carry ⟨false, 0, x, y⟩) := by
    rw [ballL_shift, ballL_shift a b, List.map_map]
    refine List.map_congr_left fun c _ => ?_
    simp only [Function.comp]
    rw [carry_shift]
    exact Prod.ext (by dsimp only; omega) (by dsimp only; omega)
  rw [e]
  have sn : ∀ c : Int × Int, seen cs' (a + x) (b + y) (carry ⟨false, 0, x, y⟩ c).1 (carry ⟨false, 0, x, y⟩ c).2 = seen cs a b c.1 c.2 := fun c => by
    have := seen_carry (shift_ok x y) hc a b c.1 c.2
    rw [carry_shift x y (a, b)] at this
    exact this
  unfold plL
  generalize ballL a b (z + 1).toNat = l
  have key : ∀ (l : List (Int × Int)) (k : Nat), ((((l.map (carry ⟨false, 0, x, y⟩)).zipIdx k).filter fun q => seen cs' (a + x) (b + y) q.1.1 q.1.2).map fun q => ((q.2 : Nat) : Int)) = (((l.zipIdx k).filter fun q => seen cs a b q.1.1 q.1.2).map fun q => ((q.2 : Nat) : Int)) := by
    intro l
    induction l with
    | nil => intro k; rfl
    | cons c l ih =>
      intro k
      have := ih (k + 1)
      rw [List.map_cons, List.zipIdx_cons, List.zipIdx_cons, List.filter_cons, List.filter_cons]
      dsimp only
      rw [sn c]
      split
      · rw [List.map_cons, List.map_cons, this]
      · exact this
  exact key l 0
theorem acts_carry (l : List Dd) (c : Int × Int) : acts c l = carry (formsF (l.map Dd.fm)) c := by
  rw [formsF_carry _ _ (fun f hf => by obtain ⟨d, _, rfl⟩ := List.mem_map.mp hf; exact d.ok)]
  unfold acts
  rw [List.foldl_map]
  congr 1
  funext c d
  exact (d.carry c).symm
end
end K09

set_option maxHeartbeats 4000000
set_option exponentiation.threshold 2000
namespace K09
open PySem L2 Z M
section
variable {P : Program} {w : World} {K : PySem.W.Frag} {mg : Str → Option Value} {base : Heap} {L : Kl}
/-! _law_meets -/
theorem seen_bar (cs : List (Int × Int)) (a b p q : Int) : seen cs a b p q = (bar cs a b p q).isNone := rfl
def c_l_meets (ds : List D) (r : D) : Prop := ∃ (cs cs' : List (Int × Int)) (a b p q : Int) (l : List Dd), ds = [flo cs, cell a b, cell p q, flo cs', .lst (l.map deedD)] ∧ dist (a - p) (b - q) ≤ 1000 ∧ (∀ c, carry (formsF (l.map Dd.fm)) c ∈ cs' ↔ c ∈ cs) ∧ r = .bl true
theorem sc_l_meets : FnScope ["_law_floor", "_law_one", "_law_other", "_law_there", "_law_deeds", "_law_seen_here", "_law_back", "_law_at"] ["_law_floor", "_law_one", "_law_other", "_law_there", "_law_deeds"] (defScope (top 50)) := ⟨rfl, rfl, rfl, by decide +kernel, rfl, by decide +kernel, by decide +kernel⟩
theorem fl_meets (T : Top K mg L) : Fn P w K mg base L "_law_meets" 7 c_l_meets := by
  refine fn_def T.l_meets sc_l_meets (by rintro ds r ⟨_, _, _, _, _, _, _, rfl, _⟩; rfl) fun f cdv A outer s H E hr ds r hc => ?_
  obtain ⟨cs, cs', a, b, p, q, l, rfl, hd, hcs, rfl⟩ := hc
  have hN := sc_l_meets.nd
  have hF := formsF_ok (l.map Dd.fm)
  have nmF : ∀ m : Str, m ∉ [("standing" : Str)] → m ∉ L.nm 5 := fun m h => by rw [T.nm_Floor]; exact h
  obtain ⟨m1, m2⟩ := near_mid hd
  have hd' : dist (p - a) (q - b) ≤ 1000 := by rw [dist_flip]; exact hd
  obtain ⟨n1, n2⟩ := near_mid hd'
  refine sv_set 5 (ev_meth T.k_Floor (m_sees T) hr (ev_var 0) (evs_cons (ev_var 1) (evs_cons (ev_var 2) evs_nil)) ⟨cs, a, b, p, q, rfl, m1, m2, hd, rfl⟩ (nmF _ (by decide +kernel))) ?_
  refine sv_set 6 (ev_meth T.k_Floor (m_sees T) hr (ev_var 0) (evs_cons (ev_var 2) (evs_cons (ev_var 1) evs_nil)) ⟨cs, p, q, a, b, rfl, n1, n2, hd', rfl⟩ (nmF _ (by decide +kernel))) ?_
  rw [seen_back cs a b p q]
  have hbar := bar_carry hF hcs a b p q
  have hdc := carry_dist hF (a, b) (p, q)
  dsimp only at hdc
  rw [← acts_carry, ← acts_carry] at hbar hdc
  obtain ⟨k1, k2⟩ := near_mid (a := (acts (a, b) l).1) (b := (acts (a, b) l).2) (p := (acts (p, q) l).1) (q := (acts (p, q) l).2) (by rw [hdc]; exact hd)
  refine sv_if (WV.tv (wv_or (tv_not (tv_val (ev_isiT (ev_var 5) (by constructor) (kbb _) T.b_isinstance T.b_bool))) (fun _ => (wv_or (tv_not (tv_val (ev_isiT (ev_var 6) (by constructor) (kbb _) T.b_isinstance T.b_bool))) (fun _ => (wv_or1 (tv_ne hr (ev_var 5) (ev_var 6)))))))) (fun z => ?_) (fun _ => ?_)
  · rw [eqD_self] at z
    cases z
  refine sv_nil ?_
  refine sv_set 7 (ev_meth T.k_Floor (m_barred T) (hr.mono (by decide)) (ev_var 3) (evs_cons (ev_call (fl_image T) (hr.mono (by decide)) (evs_cons (ev_var 1) (evs_cons (ev_var 4) evs_nil)) ⟨(a, b), l, rfl, rfl⟩) (evs_cons (ev_call (fl_image T) (hr.mono (by decide)) (evs_cons (ev_var 2) (evs_cons (ev_var 4) evs_nil)) ⟨(p, q), l, rfl, rfl⟩) evs_nil)) ⟨cs', _, _, _, _, rfl, k1, k2, by rw [hdc]; exact hd, rfl⟩ (nmF _ (by decide +kernel))) ?_
  rw [hbar]
  rw [seen_bar]
  cases hB : bar cs a b p q with
  | none =>
    refine sv_if (tv_isN (ev_var 7) ev_non) (fun _ => ?_) (fun z => by cases z)
    refine sv_ret (ev_and (ev_var 5) (fun _ => (ev_one (ev_isN (ev_meth T.k_Floor (m_barred T) (hr.mono (by decide)) (ev_var 0) (evs_cons (ev_var 1) (evs_cons (ev_var 2) evs_nil)) ⟨cs, a, b, p, q, rfl, m1, m2, hd, rfl⟩ (nmF _ (by decide +kernel))) ev_non)))) ?_
    rw [hB]
    rfl
  | some i =>
    refine sv_if (tv_isN (ev_var 7) ev_non) (fun z => by cases z) (fun _ => ?_)
    refine sv_nil ?_
    refine sv_ret (ev_and (ev_not (ev_var 5)) (fun _ => (ev_and (ev_call (fl_whole T) (hr.mono (by decide)) (evs_cons (ev_var 7) evs_nil) ⟨_, rfl, rfl⟩) (fun _ => (ev_one (ev_eq hr (ev_var 7) (ev_meth T.k_Floor (m_barred T) (hr.mono (by decide)) (ev_var 0) (evs_cons (ev_var 1) (evs_cons (ev_var 2) evs_nil)) ⟨cs, a, b, p, q, rfl, m1, m2, hd, by rw [hB]⟩ (nmF _ (by decide +kernel))))))))) ?_
    show D.bl (true && (true && eqD _ _)) = _
    rw [eqD_self]
    rfl
/-! _law_balls -/
theorem strB_len {cs : List (Int × Int)} {a b z : Int} (h4 : z ≤ 4) : (strB cs a b z).length ≤ 120 := by
  unfold strB
  have h1 := strL_len (plL cs a b (ballL a b (z + 1).toNat))
  have h2 := plL_len cs a b (ballL a b (z + 1).toNat)
  have h3 := ballL_len a b (z + 1).toNat (by omega)
  omega
def c_l_balls (ds : List D) (r : D) : Prop := ∃ (cs shuts : List (Int × Int)) (a b p q z : Int), ds = [flo cs, cell a b, cell p q, .int z, .lst (shuts.map cellP)] ∧ 0 ≤ z ∧ z ≤ 4 ∧ (∀ c, c ∈ cs ↔ c ∈ shuts) ∧ r = .bl true
theorem sc_l_balls : FnScope ["_law_floor", "_law_one", "_law_other", "_law_size", "_law_shuts", "_law_found", "_law_due_here", "_law_middle", "_law_near", "_law_more", "_law_again"] ["_law_floor", "_law_one", "_law_other", "_law_size", "_law_shuts"] (defScope (top 51)) := ⟨rfl, rfl, rfl, by decide +kernel, rfl, by decide +kernel, by decide +kernel⟩
theorem fl_balls (T : Top K mg L) : Fn P w K mg base L "_law_balls" 8 c_l_balls := by
  refine fn_def T.l_balls sc_l_balls (by rintro ds r ⟨_, _, _, _, _, _, _, rfl, _⟩; rfl) fun f cdv A outer s H E hr ds r hc => ?_
  obtain ⟨cs, shuts, a, b, p, q, z, rfl, h0, h4, hcs, rfl⟩ := hc
  have hN := sc_l_balls.nd
  have nmF : ("stretches" : Str) ∉ L.nm 5 := by rw [T.nm_Floor]; decide +kernel
  have sc := strB_congr hcs
  have ln := fun a b z h4 => strB_len (cs := shuts) (a := a) (b := b) (z := z) h4
  refine sv_newE 5 (el_meth T.k_Floor (m_stretches T) hr (ev_var 0) (evs_cons (ev_var 1) (evs_cons (ev_var 3) evs_nil)) (rs := (strB shuts a b z).map cellP) ⟨cs, a, b, z, rfl, h0, h4, by rw [sc]⟩ nmF) ?_
  refine sv_freeze 5 rfl ?_
  refine sv_set 6 (ev_call (fl_due T) (hr.mono (by decide)) (evs_cons (ev_var 1) (evs_cons (ev_var 3) (evs_cons (ev_var 4) evs_nil))) ⟨a, b, z, shuts, rfl, h0, h4, rfl⟩) ?_
  refine sv_if (WV.tv (wv_or (tv_not (tv_val (ev_call (fl_stretches T) (hr.mono (by decide)) (evs_cons (ev_var 5) evs_nil) ⟨strB shuts a b z, rfl, strL_up _, rfl⟩))) (fun _ => (wv_or1 (tv_ne hr (ev_var 5) (ev_var 6) (ok_cells _) (ok_cells _)))))) (fun c => ?_) (fun _ => ?_)
  · rw [eqD_self] at c
    cases c
  refine sv_nil ?_
  refine sv_for_seq (fun i ρ => ∃ r7 r8 r9 r10, ρ = [.v (flo cs), .v (cell a b), .v (cell p q), .v (.int z), .v (.lst (shuts.map cellP)), .v (.lst ((strB shuts a b z).map cellP)), .v (.lst ((strB shuts a b z).map cellP)), r7, r8, r9, r10]) (ds := [.tup [cell p q, .int (1 + z % 2)], .tup [cell a b, .int ((z + 1) % 3)]]) (ev_lst (evs_cons (ev_tup (evs_cons (ev_var 2) (evs_cons (ev_add ev_int (ev_mod (ev_var 3) ev_int (by decide))) evs_nil))) (evs_cons (ev_tup (evs_cons (ev_var 1) (evs_cons (ev_mod (ev_add (ev_var 3) ev_int) ev_int (by decide)) evs_nil))) evs_nil))) (gv_pair 7 8) (fun d hd => ?_) ⟨_, _, _, _, rfl⟩ ?_ ?_
  · simp only [List.mem_cons, List.not_mem_nil, or_false] at hd
    rcases hd with rfl | rfl <;> exact ⟨_, _, rfl⟩
  · rintro i d ρ' hd ⟨r7, r8, r9, r10, rfl⟩
    obtain ⟨u, v, n, rfl, n0, n4⟩ : ∃ u v n : Int, d = .tup [cell u v, .int n] ∧ 0 ≤ n ∧ n ≤ 4 := by
      have hm := List.mem_of_getElem? hd
      simp only [List.mem_cons, List.not_mem_nil, or_false] at hm
      rcases hm with rfl | rfl
      · exact ⟨p, q, 1 + z % 2, rfl, by omega, by omega⟩
      · exact ⟨a, b, (z + 1) % 3, rfl, by omega, by omega⟩
    refine sv_newE 9 (el_meth T.k_Floor (m_stretches T) hr (ev_var 0) (evs_cons (ev_var 7) (evs_cons (ev_var 8) evs_nil)) (rs := (strB shuts u v n).map cellP) ⟨cs, u, v, n, rfl, n0, n4, by rw [sc]⟩ nmF) ?_
    refine sv_if (WV.tv (wv_or (tv_not (tv_val (ev_share 9 (ds := (strB shuts u v n).map cellP) (ev_call (fl_stretches T) (hr.mono (by decide)) (evs_cons (ev_var 9) evs_nil) ⟨strB shuts u v n, rfl, strL_up _, rfl⟩)))) (fun _ => (wv_or1 (tv_share 9 (ds := (strB shuts u v n).map cellP) (tv_ne hr (ev_var 9) (ev_call (fl_due T) (hr.mono (by decide)) (evs_cons (ev_var 7) (evs_cons (ev_var 8) (evs_cons (ev_var 4) evs_nil))) ⟨u, v, n, shuts, rfl, n0, n4, rfl⟩) (ok_cells _) (ok_cells _))))))) (fun c => ?_) (fun _ => ?_)
    · rw [eqD_self] at c
      cases c
    refine sv_nil ?_
    have := ln u v n n4
    refine sv_append 9 rfl (ev_tup (evs_cons ev_int (evs_cons ev_int evs_nil))) (small63 (by rw [List.length_map]; omega)) ?_
    exact sv_nil ⟨_, _, _, _, rfl⟩
  · rintro ρ' ⟨r7, r8, r9, r10, rfl⟩
    refine sv_newE 10 (el_meth T.k_Floor (m_stretches T) hr (ev_var 0) (evs_cons (ev_var 1) (evs_cons (ev_var 3) evs_nil)) (rs := (strB shuts a b z).map cellP) ⟨cs, a, b, z, rfl, h0, h4, by rw [sc]⟩ nmF) ?_
    refine sv_if (WV.tv (wv_or (tv_not (tv_val (ev_share 10 (ds := (strB shuts a b z).map cellP) (ev_call (fl_stretches T) (hr.mono (by decide)) (evs_cons (ev_var 10) evs_nil) ⟨strB shuts a b z, rfl, strL_up _, rfl⟩)))) (fun _ => (wv_or (tv_share 10 (ds := (strB shuts a b z).map cellP) (tv_ne hr (ev_var 10) (ev_var 6) (ok_cells _) (ok_cells _))) (fun _ => (wv_or1 (tv_ne hr (ev_var 5) (ev_var 6) (ok_cells _) (ok_cells _)))))))) (fun c => ?_) (fun _ => ?_)
    · rw [eqD_self] at c
      cases c
    refine sv_nil ?_
    have := ln a b z h4
    refine sv_append 10 rfl (ev_tup (evs_cons ev_int (evs_cons ev_int evs_nil))) (small63 (by rw [List.length_map]; omega)) ?_
    exact sv_ret ev_bl rfl
end
end K09

set_option maxHeartbeats 4000000
set_option exponentiation.threshold 2000
namespace K09
open PySem L2 Z M
section
variable {P : Program} {w : World} {K : PySem.W.Frag} {mg : Str → Option Value} {base : Heap} {L : Kl}
/-! law -/
def sz9 (ns : List Int) : Int := if ns.getD 7 0 / 8 % 8 = 1 then 4 else ns.getD 7 0 / 2 % 4
theorem sz9_ok (ns : List Int) : 0 ≤ sz9 ns ∧ sz9 ns ≤ 4 := by unfold sz9; split <;> omega
def wd9 (ns : List Int) : Int := if ns.getD 7 0 % 2 = 0 then 13 else 5
def shutF (a b wd c : Int) : Int × Int := (a + c % wd - wd / 2, b + c / wd % wd - wd / 2)
def dl9 (ns : List Int) : List Dd := [deed9 (ns.getD 4 0), deed9 (ns.getD 5 0), deed9 (ns.getD 6 0)]
def deedE (ns : List Int) : D → D
  | .int k => deedD (deed9 (ns.getD (4 + k.toNat) 0))
  | _ => .non
def moE : D → D
  | .tup [.str x, e] => if (x == ("turn" : Str)) = true then .obj 1 [e] else if (x == ("mirror" : Str)) = true then .obj 2 [] else .obj 3 [e]
  | _ => .non
theorem moE_deed (d : Dd) : moE (deedD d) = moD d := by
  have t1 : (("turn" : Str) == ("turn" : Str)) = true := by decide +kernel
  have t2 : (("mirror" : Str) == ("turn" : Str)) = false := by decide +kernel
  have t3 : (("mirror" : Str) == ("mirror" : Str)) = true := by decide +kernel
  have t4 : (("shift" : Str) == ("turn" : Str)) = false := by decide +kernel
  have t5 : (("shift" : Str) == ("mirror" : Str)) = false := by decide +kernel
  cases d with
  | turn n => simp only [deedD, moE, moD, t1, if_true]
  | mirror => simp only [deedD, moE, moD, t2, t3, if_true, Bool.false_eq_true, if_false]
  | shift x y => simp only [deedD, moE, moD, t4, t5, Bool.false_eq_true, if_false]
theorem moE_map (l : List Dd) : (l.map deedD).map moE = l.map moD := by
  rw [List.map_map]
  exact List.map_congr_left fun d _ => moE_deed d
theorem mos_dl : ∀ l : List Dd, Mos (l.map moD) (l.map Dd.fm)
  | [] => mos_nil
  | d :: l => by
    obtain ⟨k, xs, e, h⟩ := moD_mo d
    rw [List.map_cons, List.map_cons, e]
    exact mos_cons h (mos_dl l)
def imE (l : List Dd) : D → D
  | .tup [.int x, .int y] => cellP (acts (x, y) l)
  | _ => .non
def cLaw (ds : List D) (r : D) : Prop := ∃ ns : List Int, ds = [.lst (ns.map .int)] ∧ ns.length ≤ 63 ∧ r = .bl true
theorem sc_law : FnScope ["_law_script", "_law_one", "_law_other", "_law_size", "_law_wide", "_law_shuts", "_law_cell_here", "_law_deeds", "_law_motion_here", "_law_floor", "_law_there", "_law_images", "_law_found", "_law_moved", "_law_by", "_law_shifted"] ["_law_script"] (defScope (top 52)) := ⟨rfl, rfl, rfl, by decide +kernel, rfl, by decide +kernel, by decide +kernel⟩
theorem law_ok (T : Top K mg L) {f : Addr} {fd : FuncData} (F : DefT K "law" "law" (top 52) ["_law_script"] f fd) : FnOk P w K mg base CX0 9 f fd ["_law_script"] (spC K L cLaw) := by
  refine fn_okT F sc_law (by rintro ds r ⟨_, rfl, _⟩; rfl) fun cdv A outer s H E hr ds r hc => ?_
  obtain ⟨ns, rfl, hl, rfl⟩ := hc
  have hN := sc_law.nd
  have nmF : ∀ m : Str, m ∉ [("standing" : Str)] → m ∉ L.nm 5 := fun m h => by rw [T.nm_Floor]; exact h
  refine sv_set 1 (ev_tup (evs_cons (ev_call (fl_number_by T) (hr.mono (by decide)) (evs_cons (ev_call (fl_cell_at T) (hr.mono (by decide)) (evs_cons (ev_var 0) (evs_cons ev_int evs_nil)) ⟨_, 0, rfl, rfl⟩) evs_nil) ⟨_, rfl, rfl⟩) (evs_cons (ev_call (fl_number_by T) (hr.mono (by decide)) (evs_cons (ev_call (fl_cell_at T) (hr.mono (by decide)) (evs_cons (ev_var 0) (evs_cons ev_int evs_nil)) ⟨_, 1, rfl, rfl⟩) evs_nil) ⟨_, rfl, rfl⟩) evs_nil))) ?_
  refine sv_set 2 (ev_tup (evs_cons (ev_sub (ev_add (ev_t0 (ev_var 1) ev_int) (ev_mod (ev_call (fl_cell_at T) (hr.mono (by decide)) (evs_cons (ev_var 0) (evs_cons ev_int evs_nil)) ⟨_, 2, rfl, rfl⟩) ev_int (by decide))) ev_int) (evs_cons (ev_sub (ev_add (ev_t1 (ev_var 1) ev_int) (ev_mod (ev_call (fl_cell_at T) (hr.mono (by decide)) (evs_cons (ev_var 0) (evs_cons ev_int evs_nil)) ⟨_, 3, rfl, rfl⟩) ev_int (by decide))) ev_int) evs_nil))) ?_
  generalize num (ns.getD 0 0) = a
  generalize num (ns.getD 1 0) = b
  have hdist : dist (a - (a + ns.getD 2 0 % 13 - 6)) (b - (b + ns.getD 3 0 % 13 - 6)) ≤ 1000 := by
    have h1 : -6 ≤ a - (a + ns.getD 2 0 % 13 - 6) ∧ a - (a + ns.getD 2 0 % 13 - 6) ≤ 6 := by omega
    have h2 : -6 ≤ b - (b + ns.getD 3 0 % 13 - 6) ∧ b - (b + ns.getD 3 0 % 13 - 6) ≤ 6 := by omega
    generalize a - (a + ns.getD 2 0 % 13 - 6) = x at *
    generalize b - (b + ns.getD 3 0 % 13 - 6) = y at *
    unfold M.dist mx ab
    split <;> split <;> split <;> omega
  generalize a + ns.getD 2 0 % 13 - 6 = p at *
  generalize b + ns.getD 3 0 % 13 - 6 = q at *
  refine sv_set 3 (ev_mod (ev_fdiv (ev_call (fl_cell_at T) (hr.mono (by decide)) (evs_cons (ev_var 0) (evs_cons ev_int evs_nil)) ⟨_, 7, rfl, rfl⟩) ev_int ⟨by decide, by decide⟩) ev_int (by decide)) ?_
  refine sv_ifJ [.v (.lst (ns.map .int)), .v (cell a b), .v (cell p q), .v (.int (sz9 ns)), .no, .no, .no, .no, .no, .no, .no, .no, .no, .no, .no, .no] (tv_eq hr (ev_mod (ev_fdiv (ev_call (fl_cell_at T) (hr.mono (by decide)) (evs_cons (ev_var 0) (evs_cons ev_int evs_nil)) ⟨_, 7, rfl, rfl⟩) ev_int ⟨by decide, by decide⟩) ev_int (by decide)) ev_int) (fun c => ?_) (fun c => ?_) ?_
  · rw [eqD_int] at c
    refine sv_set 3 ev_int ?_
    refine sv_nil ?_
    unfold sz9
    rw [if_pos (of_decide_eq_true c)]
    rfl
  · rw [eqD_int] at c
    refine sv_nil ?_
    unfold sz9
    rw [if_neg (of_decide_eq_false c)]
    rfl
  obtain ⟨z0, z4⟩ := sz9_ok ns
  generalize sz9 ns = z at *
  have hwd : atI [D.int 13, .int 5] (ns.getD 7 0 % 2) = some (.int (wd9 ns)) := by
    unfold wd9
    have h2 : ns.getD 7 0 % 2 = 0 ∨ ns.getD 7 0 % 2 = 1 := by omega
    rcases h2 with h | h <;> rw [h] <;> rfl
  refine sv_set 4 (ev_ix (da := .lst [D.int 13, .int 5]) (ev_lst (evs_cons ev_int (evs_cons ev_int evs_nil))) (ev_mod (ev_call (fl_cell_at T) (hr.mono (by decide)) (evs_cons (ev_var 0) (evs_cons ev_int evs_nil)) ⟨_, 7, rfl, rfl⟩) ev_int (by decide)) rfl hwd) ?_
  have hw : 0 < wd9 ns ∧ wd9 ns < 1073741824 := by unfold wd9; split <;> decide
  generalize wd9 ns = wd at *
  refine sv_new 5 evs_nil (by decide) ?_
  have hx40 : ((ns.drop 8).take (48 - 8)).length ≤ 40 := List.length_take_le _ _
  refine sv_for_seq (fun i ρ => ∃ r6, ρ = [.v (.lst (ns.map .int)), .v (cell a b), .v (cell p q), .v (.int z), .v (.int wd), .own (((((ns.drop 8).take (48 - 8)).take i).map (shutF a b wd)).map cellP), r6, .no, .no, .no, .no, .no, .no, .no, .no, .no]) (ev_sliceI 8 48 (ev_var 0) ev_int ev_int) (gv_name 6) (fun _ _ => trivial) ⟨.no, rfl⟩ ?_ ?_
  · rintro i d ρ' hd ⟨r6, rfl⟩
    rw [List.getElem?_map] at hd
    cases hx : ((ns.drop 8).take (48 - 8))[i]? with
    | none => rw [hx] at hd; cases hd
    | some c =>
      rw [hx] at hd
      cases hd
      refine sv_append 5 rfl (ev_tup (evs_cons (ev_sub (ev_add (ev_t0 (ev_var 1) ev_int) (ev_mod (ev_var 6) (ev_var 4) hw.1)) (ev_fdiv (ev_var 4) ev_int ⟨by decide, by decide⟩)) (evs_cons (ev_sub (ev_add (ev_t1 (ev_var 1) ev_int) (ev_mod (ev_fdiv (ev_var 6) (ev_var 4) hw) (ev_var 4) hw.1)) (ev_fdiv (ev_var 4) ev_int ⟨by decide, by decide⟩)) evs_nil))) (small63 (by rw [List.length_map, List.length_map]; have := List.length_take_le' i ((ns.drop 8).take (48 - 8)); omega)) ?_
      refine sv_nil ⟨.v (.int c), ?_⟩
      rw [take_snoc hx]
      simp only [List.map_append, List.map_cons, List.map_nil]
      rfl
  rintro ρ' ⟨r6, rfl⟩
  refine sv_freeze 5 rfl ?_
  rw [List.length_map, List.take_length]
  have hsl : (((ns.drop 8).take (48 - 8)).map (shutF a b wd)).length ≤ 40 := by rw [List.length_map]; exact hx40
  generalize ((ns.drop 8).take (48 - 8)).map (shutF a b wd) = shuts at *
  refine sv_newE 7 (el_mapN (cl := [("_law_script", s.heap.objs.size + 1)]) (deedE ns) (cap1 0 .nil) (src_range ev_int (by decide) T.b_range) (small63 (by decide)) (fun C s2 H2 fp d hdm => ?_) (hcl := subs_of ⟨rfl, trivial⟩)) ?_
  · obtain ⟨k, hk, rfl⟩ := List.mem_map.mp hdm
    have hk3 : k = 0 ∨ k = 1 ∨ k = 2 := by
      have h := hk
      revert h
      show k ∈ [0, 1, 2] → _
      intro h
      simpa using h
    rcases hk3 with rfl | rfl | rfl
    · exact ev_call (fl_deed T) (hr.mono (by decide)) (evs_cons (ev_call (fl_cell_at T) (hr.mono (by decide)) (evs_cons (ev_var 1) (evs_cons (ev_add ev_int (ev_var 0)) evs_nil)) ⟨_, 4, rfl, rfl⟩) evs_nil) ⟨_, rfl, rfl⟩
    · exact ev_call (fl_deed T) (hr.mono (by decide)) (evs_cons (ev_call (fl_cell_at T) (hr.mono (by decide)) (evs_cons (ev_var 1) (evs_cons (ev_add ev_int (ev_var 0)) evs_nil)) ⟨_, 5, rfl, rfl⟩) evs_nil) ⟨_, rfl, rfl⟩
    · exact ev_call (fl_deed T) (hr.mono (by decide)) (evs_cons (ev_call (fl_cell_at T) (hr.mono (by decide)) (evs_cons (ev_var 1) (evs_cons (ev_add ev_int (ev_var 0)) evs_nil)) ⟨_, 6, rfl, rfl⟩) evs_nil) ⟨_, rfl, rfl⟩
  refine sv_freeze 7 (ds := (dl9 ns).map deedD) rfl ?_
  have hdl : (dl9 ns).length ≤ 3 := by simp [dl9]
  generalize dl9 ns = dl at *
  have hF := formsF_ok (dl.map Dd.fm)
  have hac := fun c => acts_carry dl c
  refine sv_set 8 (ev_make (f_Chain T) (hr.mono (by decide)) (evs_cons (EL.ev (EL.to (el_mapN (cl := []) moE .nil (src_seq (ev_var 7) rfl) (small63 (by rw [List.length_map]; omega)) (fun C s2 H2 fp d hdm => ?_) (hcl := subs_of trivial)) (moE_map dl))) evs_nil) ⟨_, dl.map Dd.fm, rfl, mos_dl dl, rfl⟩) ?_
  · obtain ⟨d, _, rfl⟩ := List.mem_map.mp hdm
    rw [moE_deed]
    exact ev_call (fl_motion T) (hr.mono (by decide)) (evs_cons (ev_var 0) evs_nil) ⟨_, rfl, rfl⟩
  have hFo : formsF (dl.map Dd.fm) = formsF (dl.map Dd.fm) := rfl
  generalize hFe : formsF (dl.map Dd.fm) = Fo at *
  have hdd := ddp_len shuts
  refine sv_set 9 (ev_make (f_Floor T) (hr.mono (by decide)) (evs_cons (ev_list (ev_var 5) rfl T.b_list) evs_nil) ⟨shuts, rfl, by omega, rfl⟩) ?_
  refine sv_set 10 (ev_meth T.k_Floor (m_moved T) (hr.mono (by decide)) (ev_var 9) (evs_cons (ev_var 8) evs_nil) ⟨ddp shuts, 4, _, Fo, rfl, by omega, .chain hF, rfl⟩ (nmF _ (by decide +kernel))) ?_
  have mm : ∀ c, carry Fo c ∈ ddp ((srt (ddp shuts)).map (carry Fo)) ↔ c ∈ ddp shuts := fun c => mem_moved hF c
  have hth : (ddp ((srt (ddp shuts)).map (carry Fo))).length ≤ 40 := by
    have h1 := ddp_len ((srt (ddp shuts)).map (carry Fo))
    rw [List.length_map, (srt_perm (ddp shuts)).length_eq] at h1
    omega
  have memth : ∀ c, c ∈ ddp ((srt (ddp shuts)).map (carry Fo)) ↔ ∃ d ∈ shuts, carry Fo d = c := fun c => by
    rw [mem_ddp, List.mem_map]
    constructor
    · rintro ⟨d, h1, h2⟩
      exact ⟨d, mem_ddp.mp ((srt_perm _).mem_iff.mp h1), h2⟩
    · rintro ⟨d, h1, h2⟩
      exact ⟨d, (srt_perm _).mem_iff.mpr (mem_ddp.mpr h1), h2⟩
  have srt1 : srt (ddp ((srt (ddp shuts)).map (carry Fo))) = srt (ddp (shuts.map fun c => acts c dl)) := by
    apply srt_ddp
    intro c
    rw [← mem_ddp, memth, List.mem_map]
    constructor
    · rintro ⟨d, h1, h2⟩
      exact ⟨d, h1, by rw [hac]; exact h2⟩
    · rintro ⟨d, h1, h2⟩
      exact ⟨d, h1, by rw [← hac]; exact h2⟩
  have srt2 : srt (ddp ((srt (ddp ((srt (ddp shuts)).map (carry Fo)))).map (carry (backF Fo)))) = srt (ddp shuts) := by
    apply srt_ddp
    intro c
    rw [List.mem_map]
    constructor
    · rintro ⟨d, h1, h2⟩
      obtain ⟨e, h3, h4⟩ := (memth d).mp ((srt_perm _).mem_iff.mp h1)
      rw [← h4, carry_back hF] at h2
      rw [← h2]
      exact h3
    · intro h
      exact ⟨carry Fo c, (srt_perm _).mem_iff.mpr ((memth _).mpr ⟨c, h, rfl⟩), carry_back hF c⟩
  have many1 := many_carry hF mm a b z z4
  rw [← hac] at many1
  generalize ddp ((srt (ddp shuts)).map (carry Fo)) = there at *
  refine sv_mapN 11 (cl := [("_law_deeds", s.heap.objs.size + 2)]) (imE dl) (cap1 7 .nil) (src_seq (ev_var 5) rfl) (small63 (by rw [List.length_map]; omega)) (fun C s2 H2 fp d hdm => ?_) ?_ (hcl := subs_of ⟨rfl, trivial⟩)
  · obtain ⟨c, _, rfl⟩ := List.mem_map.mp hdm
    exact ev_call (fl_image T) (hr.mono (by decide)) (evs_cons (ev_var 0) (evs_cons (ev_var 1) evs_nil)) ⟨c, dl, rfl, rfl⟩
  refine sv_freeze 11 (ds := (shuts.map fun c => acts c dl).map cellP) (by show some (Sl.own ((shuts.map cellP).map (imE dl))) = some (Sl.own ((shuts.map fun c => acts c dl).map cellP)); rw [List.map_map, List.map_map]; rfl) ?_
  refine sv_if (WV.tv (wv_or (tv_not (tv_val (ev_isiC (ev_var 10) (.obj _ T.i_Floor) T.t_Floor_Floor T.b_isinstance T.m_Floor))) (fun _ => (wv_or1 (tv_not (tv_val (ev_call (fl_sorted_once T) (hr.mono (by decide)) (evs_cons (ev_var 10) (evs_cons (ev_var 11) evs_nil)) ⟨there, shuts.map fun c => acts c dl, rfl, by rw [List.length_map]; omega, by omega, srt1, rfl⟩))))))) (fun c => by cases c) (fun _ => ?_)
  refine sv_nil ?_
  refine sv_if (tv_not (tv_val (ev_call (fl_meets T) (hr.mono (by decide)) (evs_cons (ev_var 9) (evs_cons (ev_var 1) (evs_cons (ev_var 2) (evs_cons (ev_var 10) (evs_cons (ev_var 7) evs_nil))))) ⟨ddp shuts, there, a, b, p, q, dl, rfl, hdist, by rw [hFe]; exact mm, rfl⟩))) (fun c => by cases c) (fun _ => ?_)
  refine sv_nil ?_
  refine sv_if (tv_not (tv_val (ev_call (fl_balls T) hr (evs_cons (ev_var 9) (evs_cons (ev_var 1) (evs_cons (ev_var 2) (evs_cons (ev_var 3) (evs_cons (ev_var 5) evs_nil))))) ⟨ddp shuts, shuts, a, b, p, q, z, rfl, z0, z4, fun c => mem_ddp, rfl⟩))) (fun c => by cases c) (fun _ => ?_)
  refine sv_nil ?_
  refine sv_newE 12 (el_meth T.k_Floor (m_stretches T) (hr.mono (by decide)) (ev_var 9) (evs_cons (ev_var 1) (evs_cons (ev_var 3) evs_nil)) ⟨ddp shuts, a, b, z, rfl, z0, z4, rfl⟩ (nmF _ (by decide +kernel))) ?_
  refine sv_freeze 12 rfl ?_
  refine sv_newE 13 (el_meth T.k_Floor (m_stretches T) (hr.mono (by decide)) (ev_var 10) (evs_cons (ev_call (fl_image T) (hr.mono (by decide)) (evs_cons (ev_var 1) (evs_cons (ev_var 7) evs_nil)) ⟨(a, b), dl, rfl, rfl⟩) (evs_cons (ev_var 3) evs_nil)) ⟨there, (acts (a, b) dl).1, (acts (a, b) dl).2, z, rfl, z0, z4, rfl⟩ (nmF _ (by decide +kernel))) ?_
  refine sv_freeze 13 rfl ?_
  have fit : ∀ (cs : List (Int × Int)) (a b : Int), (strB cs a b z).length ≤ 1000 ∧ ∀ c ∈ strB cs a b z, 0 ≤ c.2 + 1 - c.1 ∧ c.2 + 1 - c.1 ≤ 1000 := fun cs a b => by
    have h1 := strB_len (cs := cs) (a := a) (b := b) z4
    refine ⟨by omega, fun c hc => ?_⟩
    have h2 : c.1 ≤ c.2 := strL_up _ c hc
    have h3 := le_sum (l := strB cs a b z) (strL_up _) c hc
    have h4 : manyL (strB cs a b z) ≤ 120 := by
      unfold strB
      rw [many_strL]
      have h5 := plL_len cs a b (ballL a b (z + 1).toNat)
      have h6 := ballL_len a b (z + 1).toNat (by omega)
      omega
    omega
  refine sv_if (WV.tv (wv_or (tv_not (tv_val (ev_call (fl_stretches T) (hr.mono (by decide)) (evs_cons (ev_var 13) evs_nil) ⟨_, rfl, strL_up _, rfl⟩))) (fun _ => (wv_or1 (tv_ne hr (ev_call (fl_many T) (hr.mono (by decide)) (evs_cons (ev_var 13) evs_nil) ⟨_, rfl, (fit _ _ _).1, (fit _ _ _).2, rfl⟩) (ev_call (fl_many T) (hr.mono (by decide)) (evs_cons (ev_var 12) evs_nil) ⟨_, rfl, (fit _ _ _).1, (fit _ _ _).2, rfl⟩)))))) (fun c => ?_) (fun _ => ?_)
  · rw [many1, eqD_self] at c
    cases c
  refine sv_nil ?_
  refine sv_set 14 (ev_tup (evs_cons (ev_call (fl_number_by T) (hr.mono (by decide)) (evs_cons (ev_call (fl_cell_at T) (hr.mono (by decide)) (evs_cons (ev_var 0) (evs_cons ev_int evs_nil)) ⟨_, 2, rfl, rfl⟩) evs_nil) ⟨_, rfl, rfl⟩) (evs_cons (ev_call (fl_number_by T) (hr.mono (by decide)) (evs_cons (ev_call (fl_cell_at T) (hr.mono (by decide)) (evs_cons (ev_var 0) (evs_cons ev_int evs_nil)) ⟨_, 3, rfl, rfl⟩) evs_nil) ⟨_, rfl, rfl⟩) evs_nil))) ?_
  generalize num (ns.getD 2 0) = bx
  generalize num (ns.getD 3 0) = bY
  have shB := strB_shift (cs := ddp shuts) a b z bx bY (fun c => mem_moved (shift_ok bx bY) c)
  refine sv_newE 15 (el_meth T.k_Floor (m_stretches T) (hr.mono (by decide)) (ev_meth T.k_Floor (m_moved T) (hr.mono (by decide)) (ev_var 9) (evs_cons (ev_make (f_Shift T) (hr.mono (by decide)) (evs_cons (ev_var 14) evs_nil) ⟨_, _, rfl, rfl⟩) evs_nil) ⟨ddp shuts, 3, _, ⟨false, 0, bx, bY⟩, rfl, by omega, .shift bx bY, rfl⟩ (nmF _ (by decide +kernel))) (evs_cons (ev_tup (evs_cons (ev_add (ev_t0 (ev_var 1) ev_int) (ev_t0 (ev_var 14) ev_int)) (evs_cons (ev_add (ev_t1 (ev_var 1) ev_int) (ev_t1 (ev_var 14) ev_int)) evs_nil))) (evs_cons (ev_var 3) evs_nil)) (rs := (strB (ddp shuts) a b z).map cellP) ⟨_, a + bx, b + bY, z, rfl, z0, z4, by rw [shB]⟩ (nmF _ (by decide +kernel))) ?_
  refine sv_freeze 15 rfl ?_
  refine sv_if (WV.tv (wv_or (tv_not (tv_val (ev_call (fl_stretches T) (hr.mono (by decide)) (evs_cons (ev_var 15) evs_nil) ⟨_, rfl, strL_up _, rfl⟩))) (fun _ => (wv_or (tv_ne hr (ev_var 15) (ev_var 12) (ok_cells _) (ok_cells _)) (fun _ => (wv_or1 (tv_ne hr (ev_var 12) (EL.ev (el_meth T.k_Floor (m_stretches T) (hr.mono (by decide)) (ev_var 9) (evs_cons (ev_var 1) (evs_cons (ev_var 3) evs_nil)) ⟨ddp shuts, a, b, z, rfl, z0, z4, rfl⟩ (nmF _ (by decide +kernel)))) (ok_cells _) (ok_cells _)))))))) (fun c => ?_) (fun _ => ?_)
  · rw [eqD_self] at c
    cases c
  refine sv_nil ?_
  refine sv_ret (ev_and (ev_call (fl_sorted_once T) (hr.mono (by decide)) (evs_cons (ev_meth T.k_Floor (m_moved T) (hr.mono (by decide)) (ev_var 10) (evs_cons (ev_back T rfl rfl hr (by decide) (ev_var 8) (.chain hF)) evs_nil) ⟨there, 4, _, backF Fo, rfl, by omega, .chain (back_ok Fo), rfl⟩ (nmF _ (by decide +kernel))) (evs_cons (ev_var 5) evs_nil)) ⟨_, shuts, rfl, by omega, ?_, srt2, rfl⟩) (fun _ => (ev_one (ev_call (fl_sorted_once T) (hr.mono (by decide)) (evs_cons (ev_var 9) (evs_cons (ev_var 5) evs_nil)) ⟨ddp shuts, shuts, rfl, by omega, by omega, rfl, rfl⟩)))) rfl
  have h1 := ddp_len ((srt there).map (carry (backF Fo)))
  rw [List.length_map, (srt_perm there).length_eq] at h1
  omega
end
end K09

set_option maxHeartbeats 4000000
set_option exponentiation.threshold 2000
namespace K09
open PySem L2 Z M
def mkL (C0 C1 C2 C3 C4 C5 : Addr) : Kl := ⟨fun c => match c with | 0 => C0 | 1 => C1 | 2 => C2 | 3 => C3 | 4 => C4 | _ => C5, fun c => match c with | 0 => [] | 1 => [("times" : Str)] | 2 => [] | 3 => [("by" : Str)] | 4 => [("whole" : Str)] | _ => [("standing" : Str)]⟩
theorem all_mk {l : PySem.W.OpenLaw} {w : World} {K : PySem.W.Frag} {h : Heap} {mg : Str → Option Value} {fa : Addr} (L0 : Kl) (X : K.In h) (G : h.Ns mainGlobals mg) (hfa : mg "law" = some (.ref fa))
    {C0 C1 C2 C3 C4 C5 f29_0 f29_1 f29_2 f30_0 T30_0 f30_1 f31_0 f32_0 f32_1 f33_0 f33_1 f23_0 f23_1 f23_2 f23_3 f23_4 f23_5 f23_6 f23_7 : Addr} {od29_0 an29_0 od29_1 an29_1 od29_2 an29_2 od30_0 an30_0 dT30_0 od30_1 an30_1 od31_0 an31_0 od32_0 an32_0 od32_1 an32_1 od33_0 an33_0 od33_1 an33_1 od23_0 an23_0 od23_1 an23_1 od23_2 an23_2 od23_3 an23_3 od23_4 an23_4 od23_5 an23_5 od23_6 an23_6 od23_7 an23_7 : Option Addr} {sl29_0 sl29_1 sl29_2 sl30_0 sT30_0 sl30_1 sl31_0 sl32_0 sl32_1 sl33_0 sl33_1 sl23_0 sl23_1 sl23_2 sl23_3 sl23_4 sl23_5 sl23_6 sl23_7 : Array (Option Value)} {oc29_0 kV29_0 dc29_0 pm29_0 cd29_0 ct29_0 oc29_1 kV29_1 dc29_1 pm29_1 cd29_1 ct29_1 oc29_2 kV29_2 dc29_2 pm29_2 cd29_2 ct29_2 oc30_0 kV30_0 dc30_0 pm30_0 cd30_0 ct30_0 oc30_1 kV30_1 dc30_1 pm30_1 cd30_1 ct30_1 oc31_0 kV31_0 dc31_0 pm31_0 cd31_0 ct31_0 oc32_0 kV32_0 dc32_0 pm32_0 cd32_0 ct32_0 oc32_1 kV32_1 dc32_1 pm32_1 cd32_1 ct32_1 oc33_0 kV33_0 dc33_0 pm33_0 cd33_0 ct33_0 oc33_1 kV33_1 dc33_1 pm33_1 cd33_1 ct33_1 oc23_0 kV23_0 dc23_0 pm23_0 cd23_0 ct23_0 oc23_1 kV23_1 dc23_1 pm23_1 cd23_1 ct23_1 oc23_2 kV23_2 dc23_2 pm23_2 cd23_2 ct23_2 oc23_3 kV23_3 dc23_3 pm23_3 cd23_3 ct23_3 oc23_4 kV23_4 dc23_4 pm23_4 cd23_4 ct23_4 oc23_5 kV23_5 dc23_5 pm23_5 cd23_5 ct23_5 oc23_6 kV23_6 dc23_6 pm23_6 cd23_6 ct23_6 oc23_7 kV23_7 dc23_7 pm23_7 cd23_7 ct23_7 : Value} {nT30_0 : Nat} {td30_0_0 : Tok}
    {w0 w1 w1_0 w1_1 w1_2 w1_3 w1_4 w1_5 w2 w2_2 f0 f9 f10 f11 f12 T12 f13 f15 f16 f18 f19 f20 f22 f26 f27 f28 f35 f36 f37 f38 f39 f40 f41 f42 f43 f44 f45 f46 f47 f48 f49 f50 f51 f52 : Addr} {dw0 dw1 dw1_0 dw1_1 dw1_2 dw1_3 dw1_4 dw1_5 dw2 dw2_2 od0 an0 od9 an9 od10 an10 od11 an11 od12 an12 dT12 od13 an13 od15 an15 od16 an16 od18 an18 od19 an19 od20 an20 od22 an22 od26 an26 od27 an27 od28 an28 od35 an35 od36 an36 od37 an37 od38 an38 od39 an39 od40 an40 od41 an41 od42 an42 od43 an43 od44 an44 od45 an45 od46 an46 od47 an47 od48 an48 od49 an49 od50 an50 od51 an51 od52 an52 : Option Addr} {sw0 sw1 sw1_0 sw1_1 sw1_2 sw1_3 sw1_4 sw1_5 sw2 sw2_2 sl0 sl9 sl10 sl11 sl12 sT12 sl13 sl15 sl16 sl18 sl19 sl20 sl22 sl26 sl27 sl28 sl35 sl36 sl37 sl38 sl39 sl40 sl41 sl42 sl43 sl44 sl45 sl46 sl47 sl48 sl49 sl50 sl51 sl52 : Array (Option Value)} {oc0 kV0 dc0 pm0 cd0 ct0 oc9 kV9 dc9 pm9 cd9 ct9 oc10 kV10 dc10 pm10 cd10 ct10 oc11 kV11 dc11 pm11 cd11 ct11 oc12 kV12 dc12 pm12 cd12 ct12 oc13 kV13 dc13 pm13 cd13 ct13 oc15 kV15 dc15 pm15 cd15 ct15 oc16 kV16 dc16 pm16 cd16 ct16 oc18 kV18 dc18 pm18 cd18 ct18 oc19 kV19 dc19 pm19 cd19 ct19 oc20 kV20 dc20 pm20 cd20 ct20 oc22 kV22 dc22 pm22 cd22 ct22 oc26 kV26 dc26 pm26 cd26 ct26 oc27 kV27 dc27 pm27 cd27 ct27 oc28 kV28 dc28 pm28 cd28 ct28 oc35 kV35 dc35 pm35 cd35 ct35 oc36 kV36 dc36 pm36 cd36 ct36 oc37 kV37 dc37 pm37 cd37 ct37 oc38 kV38 dc38 pm38 cd38 ct38 oc39 kV39 dc39 pm39 cd39 ct39 oc40 kV40 dc40 pm40 cd40 ct40 oc41 kV41 dc41 pm41 cd41 ct41 oc42 kV42 dc42 pm42 cd42 ct42 oc43 kV43 dc43 pm43 cd43 ct43 oc44 kV44 dc44 pm44 cd44 ct44 oc45 kV45 dc45 pm45 cd45 ct45 oc46 kV46 dc46 pm46 cd46 ct46 oc47 kV47 dc47 pm47 cd47 ct47 oc48 kV48 dc48 pm48 cd48 ct48 oc49 kV49 dc49 pm49 cd49 ct49 oc50 kV50 dc50 pm50 cd50 ct50 oc51 kV51 dc51 pm51 cd51 ct51 oc52 kV52 dc52 pm52 cd52 ct52 : Value} {nw0 nw1 nw1_0 nw1_1 nw1_2 nw1_3 nw1_4 nw1_5 nw2 nw2_2 nT12 : Nat} {tkw0_0 tkw0_1 tkw1_0_0 tkw1_0_1 tkw1_1_0 tkw1_1_1 tkw1_2_0 tkw1_2_1 tkw1_3_0 tkw1_3_1 tkw1_4_0 tkw1_4_1 tkw1_5_0 tkw1_5_1 tkw2_1 tkw2_2_0 tkw2_2_1 td12_0 : Tok}
    (z_max : PySem.W.nsIn K mainGlobals "max" = some none)
    (z_list : PySem.W.nsIn K mainGlobals "list" = some none)
    (z_range : PySem.W.nsIn K mainGlobals "range" = some none)
    (z_sum : PySem.W.nsIn K mainGlobals "sum" = some none)
    (z_isinstance : PySem.W.nsIn K mainGlobals "isinstance" = some none)
    (z_int : PySem.W.nsIn K mainGlobals "int" = some none)
    (z_tuple : PySem.W.nsIn K mainGlobals "tuple" = some none)
    (z_abs : PySem.W.nsIn K mainGlobals "abs" = some none)
    (z_enumerate : PySem.W.nsIn K mainGlobals "enumerate" = some none)
    (z_sorted : PySem.W.nsIn K mainGlobals "sorted" = some none)
    (z_len : PySem.W.nsIn K mainGlobals "len" = some none)
    (z_bool : PySem.W.nsIn K mainGlobals "bool" = some none)
    (aw0 : PySem.W.nsIn K mainGlobals "MIDDLE" = some (some (.ref w0)))
    (lw0 : K.lookup w0 = some ⟨.type "tuple", dw0, .seq #[.int 0 tkw0_0, .int 0 tkw0_1] nw0, sw0⟩)
    (aw1 : PySem.W.nsIn K mainGlobals "WAYS" = some (some (.ref w1)))
    (lw1 : K.lookup w1 = some ⟨.type "tuple", dw1, .seq #[.ref w1_0, .ref w1_1, .ref w1_2, .ref w1_3, .ref w1_4, .ref w1_5] nw1, sw1⟩)
    (lw1_0 : K.lookup w1_0 = some ⟨.type "tuple", dw1_0, .seq #[.int 1 tkw1_0_0, .int 0 tkw1_0_1] nw1_0, sw1_0⟩)
    (lw1_1 : K.lookup w1_1 = some ⟨.type "tuple", dw1_1, .seq #[.int 0 tkw1_1_0, .int 1 tkw1_1_1] nw1_1, sw1_1⟩)
    (lw1_2 : K.lookup w1_2 = some ⟨.type "tuple", dw1_2, .seq #[.int (-1) tkw1_2_0, .int 1 tkw1_2_1] nw1_2, sw1_2⟩)
    (lw1_3 : K.lookup w1_3 = some ⟨.type "tuple", dw1_3, .seq #[.int (-1) tkw1_3_0, .int 0 tkw1_3_1] nw1_3, sw1_3⟩)
    (lw1_4 : K.lookup w1_4 = some ⟨.type "tuple", dw1_4, .seq #[.int 0 tkw1_4_0, .int (-1) tkw1_4_1] nw1_4, sw1_4⟩)
    (lw1_5 : K.lookup w1_5 = some ⟨.type "tuple", dw1_5, .seq #[.int 1 tkw1_5_0, .int (-1) tkw1_5_1] nw1_5, sw1_5⟩)
    (aw2 : PySem.W.nsIn K mainGlobals "PLAIN" = some (some (.ref w2)))
    (lw2 : K.lookup w2 = some ⟨.type "tuple", dw2, .seq #[.bool false, .int 0 tkw2_1, .ref w2_2] nw2, sw2⟩)
    (lw2_2 : K.lookup w2_2 = some ⟨.type "tuple", dw2_2, .seq #[.int 0 tkw2_2_0, .int 0 tkw2_2_1] nw2_2, sw2_2⟩)
    (a0 : PySem.W.nsIn K mainGlobals "_wall" = some (some (.ref f0)))
    (l0 : K.lookup f0 = some ⟨oc0, od0, .func (PySem.W.fnOf "_wall" "_wall" (defArgs (top 0)) (defBody (top 0)) (defScope (top 0)) .none kV0 dc0 pm0 an0 cd0 ct0), sl0⟩)
    (c0 : PySem.W.codeIn K cd0 "_wall" = true)
    (k0 : PySem.W.keepIn K (.ref f0) = true)
    (a9 : PySem.W.nsIn K mainGlobals "is_whole" = some (some (.ref f9)))
    (l9 : K.lookup f9 = some ⟨oc9, od9, .func (PySem.W.fnOf "is_whole" "is_whole" (defArgs (top 9)) (defBody (top 9)) (defScope (top 9)) .none kV9 dc9 pm9 an9 cd9 ct9), sl9⟩)
    (c9 : PySem.W.codeIn K cd9 "is_whole" = true)
    (k9 : PySem.W.keepIn K (.ref f9) = true)
    (a10 : PySem.W.nsIn K mainGlobals "is_count" = some (some (.ref f10)))
    (l10 : K.lookup f10 = some ⟨oc10, od10, .func (PySem.W.fnOf "is_count" "is_count" (defArgs (top 10)) (defBody (top 10)) (defScope (top 10)) .none kV10 dc10 pm10 an10 cd10 ct10), sl10⟩)
    (c10 : PySem.W.codeIn K cd10 "is_count" = true)
    (k10 : PySem.W.keepIn K (.ref f10) = true)
    (a11 : PySem.W.nsIn K mainGlobals "is_cell" = some (some (.ref f11)))
    (l11 : K.lookup f11 = some ⟨oc11, od11, .func (PySem.W.fnOf "is_cell" "is_cell" (defArgs (top 11)) (defBody (top 11)) (defScope (top 11)) .none kV11 dc11 pm11 an11 cd11 ct11), sl11⟩)
    (c11 : PySem.W.codeIn K cd11 "is_cell" = true)
    (k11 : PySem.W.keepIn K (.ref f11) = true)
    (a12 : PySem.W.nsIn K mainGlobals "plus" = some (some (.ref f12)))
    (l12 : K.lookup f12 = some ⟨oc12, od12, .func (PySem.W.fnOf "plus" "plus" (defArgs (top 12)) (defBody (top 12)) (defScope (top 12)) (.ref T12) kV12 dc12 pm12 an12 cd12 ct12), sl12⟩)
    (c12 : PySem.W.codeIn K cd12 "plus" = true)
    (k12 : PySem.W.keepIn K (.ref f12) = true)
    (t12 : K.lookup T12 = some ⟨.type "tuple", dT12, .seq #[.int 1 td12_0] nT12, sT12⟩)
    (a13 : PySem.W.nsIn K mainGlobals "distance" = some (some (.ref f13)))
    (l13 : K.lookup f13 = some ⟨oc13, od13, .func (PySem.W.fnOf "distance" "distance" (defArgs (top 13)) (defBody (top 13)) (defScope (top 13)) .none kV13 dc13 pm13 an13 cd13 ct13), sl13⟩)
    (c13 : PySem.W.codeIn K cd13 "distance" = true)
    (k13 : PySem.W.keepIn K (.ref f13) = true)
    (a15 : PySem.W.nsIn K mainGlobals "near_numbers" = some (some (.ref f15)))
    (l15 : K.lookup f15 = some ⟨oc15, od15, .func (PySem.W.fnOf "near_numbers" "near_numbers" (defArgs (top 15)) (defBody (top 15)) (defScope (top 15)) .none kV15 dc15 pm15 an15 cd15 ct15), sl15⟩)
    (c15 : PySem.W.codeIn K cd15 "near_numbers" = true)
    (k15 : PySem.W.keepIn K (.ref f15) = true)
    (a16 : PySem.W.nsIn K mainGlobals "nearest" = some (some (.ref f16)))
    (l16 : K.lookup f16 = some ⟨oc16, od16, .func (PySem.W.fnOf "nearest" "nearest" (defArgs (top 16)) (defBody (top 16)) (defScope (top 16)) .none kV16 dc16 pm16 an16 cd16 ct16), sl16⟩)
    (c16 : PySem.W.codeIn K cd16 "nearest" = true)
    (k16 : PySem.W.keepIn K (.ref f16) = true)
    (a18 : PySem.W.nsIn K mainGlobals "check_size" = some (some (.ref f18)))
    (l18 : K.lookup f18 = some ⟨oc18, od18, .func (PySem.W.fnOf "check_size" "check_size" (defArgs (top 18)) (defBody (top 18)) (defScope (top 18)) .none kV18 dc18 pm18 an18 cd18 ct18), sl18⟩)
    (c18 : PySem.W.codeIn K cd18 "check_size" = true)
    (k18 : PySem.W.keepIn K (.ref f18) = true)
    (a19 : PySem.W.nsIn K mainGlobals "side_cell" = some (some (.ref f19)))
    (l19 : K.lookup f19 = some ⟨oc19, od19, .func (PySem.W.fnOf "side_cell" "side_cell" (defArgs (top 19)) (defBody (top 19)) (defScope (top 19)) .none kV19 dc19 pm19 an19 cd19 ct19), sl19⟩)
    (c19 : PySem.W.codeIn K cd19 "side_cell" = true)
    (k19 : PySem.W.keepIn K (.ref f19) = true)
    (a20 : PySem.W.nsIn K mainGlobals "ring" = some (some (.ref f20)))
    (l20 : K.lookup f20 = some ⟨oc20, od20, .func (PySem.W.fnOf "ring" "ring" (defArgs (top 20)) (defBody (top 20)) (defScope (top 20)) .none kV20 dc20 pm20 an20 cd20 ct20), sl20⟩)
    (c20 : PySem.W.codeIn K cd20 "ring" = true)
    (k20 : PySem.W.keepIn K (.ref f20) = true)
    (a22 : PySem.W.nsIn K mainGlobals "stretched" = some (some (.ref f22)))
    (l22 : K.lookup f22 = some ⟨oc22, od22, .func (PySem.W.fnOf "stretched" "stretched" (defArgs (top 22)) (defBody (top 22)) (defScope (top 22)) .none kV22 dc22 pm22 an22 cd22 ct22), sl22⟩)
    (c22 : PySem.W.codeIn K cd22 "stretched" = true)
    (k22 : PySem.W.keepIn K (.ref f22) = true)
    (a26 : PySem.W.nsIn K mainGlobals "turned" = some (some (.ref f26)))
    (l26 : K.lookup f26 = some ⟨oc26, od26, .func (PySem.W.fnOf "turned" "turned" (defArgs (top 26)) (defBody (top 26)) (defScope (top 26)) .none kV26 dc26 pm26 an26 cd26 ct26), sl26⟩)
    (c26 : PySem.W.codeIn K cd26 "turned" = true)
    (k26 : PySem.W.keepIn K (.ref f26) = true)
    (a27 : PySem.W.nsIn K mainGlobals "carried" = some (some (.ref f27)))
    (l27 : K.lookup f27 = some ⟨oc27, od27, .func (PySem.W.fnOf "carried" "carried" (defArgs (top 27)) (defBody (top 27)) (defScope (top 27)) .none kV27 dc27 pm27 an27 cd27 ct27), sl27⟩)
    (c27 : PySem.W.codeIn K cd27 "carried" = true)
    (k27 : PySem.W.keepIn K (.ref f27) = true)
    (a28 : PySem.W.nsIn K mainGlobals "joined" = some (some (.ref f28)))
    (l28 : K.lookup f28 = some ⟨oc28, od28, .func (PySem.W.fnOf "joined" "joined" (defArgs (top 28)) (defBody (top 28)) (defScope (top 28)) .none kV28 dc28 pm28 an28 cd28 ct28), sl28⟩)
    (c28 : PySem.W.codeIn K cd28 "joined" = true)
    (k28 : PySem.W.keepIn K (.ref f28) = true)
    (a35 : PySem.W.nsIn K mainGlobals "_law_cell_at" = some (some (.ref f35)))
    (l35 : K.lookup f35 = some ⟨oc35, od35, .func (PySem.W.fnOf "_law_cell_at" "_law_cell_at" (defArgs (top 35)) (defBody (top 35)) (defScope (top 35)) .none kV35 dc35 pm35 an35 cd35 ct35), sl35⟩)
    (c35 : PySem.W.codeIn K cd35 "_law_cell_at" = true)
    (k35 : PySem.W.keepIn K (.ref f35) = true)
    (a36 : PySem.W.nsIn K mainGlobals "_law_whole" = some (some (.ref f36)))
    (l36 : K.lookup f36 = some ⟨oc36, od36, .func (PySem.W.fnOf "_law_whole" "_law_whole" (defArgs (top 36)) (defBody (top 36)) (defScope (top 36)) .none kV36 dc36 pm36 an36 cd36 ct36), sl36⟩)
    (c36 : PySem.W.codeIn K cd36 "_law_whole" = true)
    (k36 : PySem.W.keepIn K (.ref f36) = true)
    (a37 : PySem.W.nsIn K mainGlobals "_law_cell" = some (some (.ref f37)))
    (l37 : K.lookup f37 = some ⟨oc37, od37, .func (PySem.W.fnOf "_law_cell" "_law_cell" (defArgs (top 37)) (defBody (top 37)) (defScope (top 37)) .none kV37 dc37 pm37 an37 cd37 ct37), sl37⟩)
    (c37 : PySem.W.codeIn K cd37 "_law_cell" = true)
    (k37 : PySem.W.keepIn K (.ref f37) = true)
    (a38 : PySem.W.nsIn K mainGlobals "_law_number_by" = some (some (.ref f38)))
    (l38 : K.lookup f38 = some ⟨oc38, od38, .func (PySem.W.fnOf "_law_number_by" "_law_number_by" (defArgs (top 38)) (defBody (top 38)) (defScope (top 38)) .none kV38 dc38 pm38 an38 cd38 ct38), sl38⟩)
    (c38 : PySem.W.codeIn K cd38 "_law_number_by" = true)
    (k38 : PySem.W.keepIn K (.ref f38) = true)
    (a39 : PySem.W.nsIn K mainGlobals "_law_reach" = some (some (.ref f39)))
    (l39 : K.lookup f39 = some ⟨oc39, od39, .func (PySem.W.fnOf "_law_reach" "_law_reach" (defArgs (top 39)) (defBody (top 39)) (defScope (top 39)) .none kV39 dc39 pm39 an39 cd39 ct39), sl39⟩)
    (c39 : PySem.W.codeIn K cd39 "_law_reach" = true)
    (k39 : PySem.W.keepIn K (.ref f39) = true)
    (a40 : PySem.W.nsIn K mainGlobals "_law_deed" = some (some (.ref f40)))
    (l40 : K.lookup f40 = some ⟨oc40, od40, .func (PySem.W.fnOf "_law_deed" "_law_deed" (defArgs (top 40)) (defBody (top 40)) (defScope (top 40)) .none kV40 dc40 pm40 an40 cd40 ct40), sl40⟩)
    (c40 : PySem.W.codeIn K cd40 "_law_deed" = true)
    (k40 : PySem.W.keepIn K (.ref f40) = true)
    (a41 : PySem.W.nsIn K mainGlobals "_law_motion" = some (some (.ref f41)))
    (l41 : K.lookup f41 = some ⟨oc41, od41, .func (PySem.W.fnOf "_law_motion" "_law_motion" (defArgs (top 41)) (defBody (top 41)) (defScope (top 41)) .none kV41 dc41 pm41 an41 cd41 ct41), sl41⟩)
    (c41 : PySem.W.codeIn K cd41 "_law_motion" = true)
    (k41 : PySem.W.keepIn K (.ref f41) = true)
    (a42 : PySem.W.nsIn K mainGlobals "_law_image" = some (some (.ref f42)))
    (l42 : K.lookup f42 = some ⟨oc42, od42, .func (PySem.W.fnOf "_law_image" "_law_image" (defArgs (top 42)) (defBody (top 42)) (defScope (top 42)) .none kV42 dc42 pm42 an42 cd42 ct42), sl42⟩)
    (c42 : PySem.W.codeIn K cd42 "_law_image" = true)
    (k42 : PySem.W.keepIn K (.ref f42) = true)
    (a43 : PySem.W.nsIn K mainGlobals "_law_sorted_once" = some (some (.ref f43)))
    (l43 : K.lookup f43 = some ⟨oc43, od43, .func (PySem.W.fnOf "_law_sorted_once" "_law_sorted_once" (defArgs (top 43)) (defBody (top 43)) (defScope (top 43)) .none kV43 dc43 pm43 an43 cd43 ct43), sl43⟩)
    (c43 : PySem.W.codeIn K cd43 "_law_sorted_once" = true)
    (k43 : PySem.W.keepIn K (.ref f43) = true)
    (a44 : PySem.W.nsIn K mainGlobals "_law_free_at" = some (some (.ref f44)))
    (l44 : K.lookup f44 = some ⟨oc44, od44, .func (PySem.W.fnOf "_law_free_at" "_law_free_at" (defArgs (top 44)) (defBody (top 44)) (defScope (top 44)) .none kV44 dc44 pm44 an44 cd44 ct44), sl44⟩)
    (c44 : PySem.W.codeIn K cd44 "_law_free_at" = true)
    (k44 : PySem.W.keepIn K (.ref f44) = true)
    (a45 : PySem.W.nsIn K mainGlobals "_law_seen" = some (some (.ref f45)))
    (l45 : K.lookup f45 = some ⟨oc45, od45, .func (PySem.W.fnOf "_law_seen" "_law_seen" (defArgs (top 45)) (defBody (top 45)) (defScope (top 45)) .none kV45 dc45 pm45 an45 cd45 ct45), sl45⟩)
    (c45 : PySem.W.codeIn K cd45 "_law_seen" = true)
    (k45 : PySem.W.keepIn K (.ref f45) = true)
    (a46 : PySem.W.nsIn K mainGlobals "_law_cells" = some (some (.ref f46)))
    (l46 : K.lookup f46 = some ⟨oc46, od46, .func (PySem.W.fnOf "_law_cells" "_law_cells" (defArgs (top 46)) (defBody (top 46)) (defScope (top 46)) .none kV46 dc46 pm46 an46 cd46 ct46), sl46⟩)
    (c46 : PySem.W.codeIn K cd46 "_law_cells" = true)
    (k46 : PySem.W.keepIn K (.ref f46) = true)
    (a47 : PySem.W.nsIn K mainGlobals "_law_stretches" = some (some (.ref f47)))
    (l47 : K.lookup f47 = some ⟨oc47, od47, .func (PySem.W.fnOf "_law_stretches" "_law_stretches" (defArgs (top 47)) (defBody (top 47)) (defScope (top 47)) .none kV47 dc47 pm47 an47 cd47 ct47), sl47⟩)
    (c47 : PySem.W.codeIn K cd47 "_law_stretches" = true)
    (k47 : PySem.W.keepIn K (.ref f47) = true)
    (a48 : PySem.W.nsIn K mainGlobals "_law_due" = some (some (.ref f48)))
    (l48 : K.lookup f48 = some ⟨oc48, od48, .func (PySem.W.fnOf "_law_due" "_law_due" (defArgs (top 48)) (defBody (top 48)) (defScope (top 48)) .none kV48 dc48 pm48 an48 cd48 ct48), sl48⟩)
    (c48 : PySem.W.codeIn K cd48 "_law_due" = true)
    (k48 : PySem.W.keepIn K (.ref f48) = true)
    (a49 : PySem.W.nsIn K mainGlobals "_law_many" = some (some (.ref f49)))
    (l49 : K.lookup f49 = some ⟨oc49, od49, .func (PySem.W.fnOf "_law_many" "_law_many" (defArgs (top 49)) (defBody (top 49)) (defScope (top 49)) .none kV49 dc49 pm49 an49 cd49 ct49), sl49⟩)
    (c49 : PySem.W.codeIn K cd49 "_law_many" = true)
    (k49 : PySem.W.keepIn K (.ref f49) = true)
    (a50 : PySem.W.nsIn K mainGlobals "_law_meets" = some (some (.ref f50)))
    (l50 : K.lookup f50 = some ⟨oc50, od50, .func (PySem.W.fnOf "_law_meets" "_law_meets" (defArgs (top 50)) (defBody (top 50)) (defScope (top 50)) .none kV50 dc50 pm50 an50 cd50 ct50), sl50⟩)
    (c50 : PySem.W.codeIn K cd50 "_law_meets" = true)
    (k50 : PySem.W.keepIn K (.ref f50) = true)
    (a51 : PySem.W.nsIn K mainGlobals "_law_balls" = some (some (.ref f51)))
    (l51 : K.lookup f51 = some ⟨oc51, od51, .func (PySem.W.fnOf "_law_balls" "_law_balls" (defArgs (top 51)) (defBody (top 51)) (defScope (top 51)) .none kV51 dc51 pm51 an51 cd51 ct51), sl51⟩)
    (c51 : PySem.W.codeIn K cd51 "_law_balls" = true)
    (k51 : PySem.W.keepIn K (.ref f51) = true)
    (a52 : PySem.W.nsIn K mainGlobals "law" = some (some (.ref f52)))
    (l52 : K.lookup f52 = some ⟨oc52, od52, .func (PySem.W.fnOf "law" "law" (defArgs (top 52)) (defBody (top 52)) (defScope (top 52)) .none kV52 dc52 pm52 an52 cd52 ct52), sl52⟩)
    (c52 : PySem.W.codeIn K cd52 "law" = true)
    (k52 : PySem.W.keepIn K (.ref f52) = true)
    (nC0 : PySem.W.nsIn K mainGlobals "Motion" = some (some (.ref C0)))
    (nC1 : PySem.W.nsIn K mainGlobals "Turn" = some (some (.ref C1)))
    (nC2 : PySem.W.nsIn K mainGlobals "Mirror" = some (some (.ref C2)))
    (nC3 : PySem.W.nsIn K mainGlobals "Shift" = some (some (.ref C3)))
    (nC4 : PySem.W.nsIn K mainGlobals "Chain" = some (some (.ref C4)))
    (nC5 : PySem.W.nsIn K mainGlobals "Floor" = some (some (.ref C5)))
    (pg0 : PySem.W.plainGet K C0 Str.empty = true)
    (hd0 : PySem.W.hasDictIn K C0 = true)
    (po0 : PySem.W.plainOver K C0 = true)
    (sa0 : PySem.W.findIn K (.ref C0) "__setattr__" = some (some (.builtin "object.__setattr__")))
    (ca0 : PySem.W.findIn K (.ref C0) "__class__" = some (some (.builtin "object.__class__")))
    (cg : PySem.W.specialIn K (.builtin "object.__class__") "__get__" = some (some (.builtin "getset_descriptor.__get__")))
    (ck : PySem.W.takesIn K (.builtin "object.__class__") = some true)
    (cm0 : PySem.W.mroIn K C0 (.type "object") = some true)
    (ic0 : PySem.W.isClsIn K C0 = true)
    (ty0 : PySem.W.typeIn K (.ref C0) = some (.type "type"))
    (kt0_0 : PySem.W.mroIn K C0 (.ref C0) = some true)
    (pg1 : PySem.W.plainGet K C1 Str.empty = true)
    (hd1 : PySem.W.hasDictIn K C1 = true)
    (po1 : PySem.W.plainOver K C1 = true)
    (sa1 : PySem.W.findIn K (.ref C1) "__setattr__" = some (some (.builtin "object.__setattr__")))
    (no1_0 : PySem.W.findIn K (.ref C1) "times" = some none)
    (ca1 : PySem.W.findIn K (.ref C1) "__class__" = some (some (.builtin "object.__class__")))
    (cm1 : PySem.W.mroIn K C1 (.type "object") = some true)
    (kt1_0 : PySem.W.mroIn K C1 (.ref C0) = some true)
    (pg2 : PySem.W.plainGet K C2 Str.empty = true)
    (hd2 : PySem.W.hasDictIn K C2 = true)
    (po2 : PySem.W.plainOver K C2 = true)
    (sa2 : PySem.W.findIn K (.ref C2) "__setattr__" = some (some (.builtin "object.__setattr__")))
    (ca2 : PySem.W.findIn K (.ref C2) "__class__" = some (some (.builtin "object.__class__")))
    (cm2 : PySem.W.mroIn K C2 (.type "object") = some true)
    (kt2_0 : PySem.W.mroIn K C2 (.ref C0) = some true)
    (pg3 : PySem.W.plainGet K C3 Str.empty = true)
    (hd3 : PySem.W.hasDictIn K C3 = true)
    (po3 : PySem.W.plainOver K C3 = true)
    (sa3 : PySem.W.findIn K (.ref C3) "__setattr__" = some (some (.builtin "object.__setattr__")))
    (no3_0 : PySem.W.findIn K (.ref C3) "by" = some none)
    (ca3 : PySem.W.findIn K (.ref C3) "__class__" = some (some (.builtin "object.__class__")))
    (cm3 : PySem.W.mroIn K C3 (.type "object") = some true)
    (kt3_0 : PySem.W.mroIn K C3 (.ref C0) = some true)
    (pg4 : PySem.W.plainGet K C4 Str.empty = true)
    (hd4 : PySem.W.hasDictIn K C4 = true)
    (po4 : PySem.W.plainOver K C4 = true)
    (sa4 : PySem.W.findIn K (.ref C4) "__setattr__" = some (some (.builtin "object.__setattr__")))
    (no4_0 : PySem.W.findIn K (.ref C4) "whole" = some none)
    (ca4 : PySem.W.findIn K (.ref C4) "__class__" = some (some (.builtin "object.__class__")))
    (cm4 : PySem.W.mroIn K C4 (.type "object") = some true)
    (kt4_0 : PySem.W.mroIn K C4 (.ref C0) = some true)
    (pg5 : PySem.W.plainGet K C5 Str.empty = true)
    (hd5 : PySem.W.hasDictIn K C5 = true)
    (po5 : PySem.W.plainOver K C5 = true)
    (sa5 : PySem.W.findIn K (.ref C5) "__setattr__" = some (some (.builtin "object.__setattr__")))
    (no5_0 : PySem.W.findIn K (.ref C5) "standing" = some none)
    (ca5 : PySem.W.findIn K (.ref C5) "__class__" = some (some (.builtin "object.__class__")))
    (cm5 : PySem.W.mroIn K C5 (.type "object") = some true)
    (ic5 : PySem.W.isClsIn K C5 = true)
    (ty5 : PySem.W.typeIn K (.ref C5) = some (.type "type"))
    (kt5_5 : PySem.W.mroIn K C5 (.ref C5) = some true)
    (mk0 : PySem.W.makesIn K C0 = true)
    (in0 : PySem.W.findIn K (.ref C0) "__init__" = some (some (.builtin "object.__init__")))
    (ck0 : PySem.W.keepIn K (.ref C0) = true)
    (fi29_0_0 : PySem.W.findIn K (.ref C0) "form" = some (some (.ref f29_0)))
    (l29_0 : K.lookup f29_0 = some ⟨oc29_0, od29_0, .func (PySem.W.fnOf "form" "Motion.form" (defArgs (inClass (top 29) 0)) (defBody (inClass (top 29) 0)) (defScope (inClass (top 29) 0)) .none kV29_0 dc29_0 pm29_0 an29_0 cd29_0 ct29_0), sl29_0⟩)
    (c29_0 : PySem.W.codeIn K cd29_0 "Motion.form" = true)
    (k29_0 : PySem.W.keepIn K (.ref f29_0) = true)
    (fn29_0 : PySem.W.isFn K (.ref f29_0) = true)
    (fi29_1_0 : PySem.W.findIn K (.ref C0) "image" = some (some (.ref f29_1)))
    (fi29_1_1 : PySem.W.findIn K (.ref C1) "image" = some (some (.ref f29_1)))
    (fi29_1_2 : PySem.W.findIn K (.ref C2) "image" = some (some (.ref f29_1)))
    (fi29_1_3 : PySem.W.findIn K (.ref C3) "image" = some (some (.ref f29_1)))
    (fi29_1_4 : PySem.W.findIn K (.ref C4) "image" = some (some (.ref f29_1)))
    (l29_1 : K.lookup f29_1 = some ⟨oc29_1, od29_1, .func (PySem.W.fnOf "image" "Motion.image" (defArgs (inClass (top 29) 1)) (defBody (inClass (top 29) 1)) (defScope (inClass (top 29) 1)) .none kV29_1 dc29_1 pm29_1 an29_1 cd29_1 ct29_1), sl29_1⟩)
    (c29_1 : PySem.W.codeIn K cd29_1 "Motion.image" = true)
    (k29_1 : PySem.W.keepIn K (.ref f29_1) = true)
    (fn29_1 : PySem.W.isFn K (.ref f29_1) = true)
    (fi29_2_0 : PySem.W.findIn K (.ref C0) "back" = some (some (.ref f29_2)))
    (fi29_2_1 : PySem.W.findIn K (.ref C1) "back" = some (some (.ref f29_2)))
    (fi29_2_2 : PySem.W.findIn K (.ref C2) "back" = some (some (.ref f29_2)))
    (fi29_2_3 : PySem.W.findIn K (.ref C3) "back" = some (some (.ref f29_2)))
    (fi29_2_4 : PySem.W.findIn K (.ref C4) "back" = some (some (.ref f29_2)))
    (l29_2 : K.lookup f29_2 = some ⟨oc29_2, od29_2, .func (PySem.W.fnOf "back" "Motion.back" (defArgs (inClass (top 29) 2)) (defBody (inClass (top 29) 2)) (defScope (inClass (top 29) 2)) .none kV29_2 dc29_2 pm29_2 an29_2 cd29_2 ct29_2), sl29_2⟩)
    (c29_2 : PySem.W.codeIn K cd29_2 "Motion.back" = true)
    (k29_2 : PySem.W.keepIn K (.ref f29_2) = true)
    (fn29_2 : PySem.W.isFn K (.ref f29_2) = true)
    (fi30_0_1 : PySem.W.findIn K (.ref C1) "__init__" = some (some (.ref f30_0)))
    (l30_0 : K.lookup f30_0 = some ⟨oc30_0, od30_0, .func (PySem.W.fnOf "__init__" "Turn.__init__" (defArgs (inClass (top 30) 0)) (defBody (inClass (top 30) 0)) (defScope (inClass (top 30) 0)) (.ref T30_0) kV30_0 dc30_0 pm30_0 an30_0 cd30_0 ct30_0), sl30_0⟩)
    (c30_0 : PySem.W.codeIn K cd30_0 "Turn.__init__" = true)
    (k30_0 : PySem.W.keepIn K (.ref f30_0) = true)
    (fn30_0 : PySem.W.isFn K (.ref f30_0) = true)
    (mk1 : PySem.W.makesIn K C1 = true)
    (ck1 : PySem.W.keepIn K (.ref C1) = true)
    (t30_0 : K.lookup T30_0 = some ⟨.type "tuple", dT30_0, .seq #[.int 1 td30_0_0] nT30_0, sT30_0⟩)
    (fi30_1_1 : PySem.W.findIn K (.ref C1) "form" = some (some (.ref f30_1)))
    (l30_1 : K.lookup f30_1 = some ⟨oc30_1, od30_1, .func (PySem.W.fnOf "form" "Turn.form" (defArgs (inClass (top 30) 1)) (defBody (inClass (top 30) 1)) (defScope (inClass (top 30) 1)) .none kV30_1 dc30_1 pm30_1 an30_1 cd30_1 ct30_1), sl30_1⟩)
    (c30_1 : PySem.W.codeIn K cd30_1 "Turn.form" = true)
    (k30_1 : PySem.W.keepIn K (.ref f30_1) = true)
    (fn30_1 : PySem.W.isFn K (.ref f30_1) = true)
    (mk2 : PySem.W.makesIn K C2 = true)
    (in2 : PySem.W.findIn K (.ref C2) "__init__" = some (some (.builtin "object.__init__")))
    (ck2 : PySem.W.keepIn K (.ref C2) = true)
    (fi31_0_2 : PySem.W.findIn K (.ref C2) "form" = some (some (.ref f31_0)))
    (l31_0 : K.lookup f31_0 = some ⟨oc31_0, od31_0, .func (PySem.W.fnOf "form" "Mirror.form" (defArgs (inClass (top 31) 0)) (defBody (inClass (top 31) 0)) (defScope (inClass (top 31) 0)) .none kV31_0 dc31_0 pm31_0 an31_0 cd31_0 ct31_0), sl31_0⟩)
    (c31_0 : PySem.W.codeIn K cd31_0 "Mirror.form" = true)
    (k31_0 : PySem.W.keepIn K (.ref f31_0) = true)
    (fn31_0 : PySem.W.isFn K (.ref f31_0) = true)
    (fi32_0_3 : PySem.W.findIn K (.ref C3) "__init__" = some (some (.ref f32_0)))
    (l32_0 : K.lookup f32_0 = some ⟨oc32_0, od32_0, .func (PySem.W.fnOf "__init__" "Shift.__init__" (defArgs (inClass (top 32) 0)) (defBody (inClass (top 32) 0)) (defScope (inClass (top 32) 0)) .none kV32_0 dc32_0 pm32_0 an32_0 cd32_0 ct32_0), sl32_0⟩)
    (c32_0 : PySem.W.codeIn K cd32_0 "Shift.__init__" = true)
    (k32_0 : PySem.W.keepIn K (.ref f32_0) = true)
    (fn32_0 : PySem.W.isFn K (.ref f32_0) = true)
    (mk3 : PySem.W.makesIn K C3 = true)
    (ck3 : PySem.W.keepIn K (.ref C3) = true)
    (fi32_1_3 : PySem.W.findIn K (.ref C3) "form" = some (some (.ref f32_1)))
    (l32_1 : K.lookup f32_1 = some ⟨oc32_1, od32_1, .func (PySem.W.fnOf "form" "Shift.form" (defArgs (inClass (top 32) 1)) (defBody (inClass (top 32) 1)) (defScope (inClass (top 32) 1)) .none kV32_1 dc32_1 pm32_1 an32_1 cd32_1 ct32_1), sl32_1⟩)
    (c32_1 : PySem.W.codeIn K cd32_1 "Shift.form" = true)
    (k32_1 : PySem.W.keepIn K (.ref f32_1) = true)
    (fn32_1 : PySem.W.isFn K (.ref f32_1) = true)
    (fi33_0_4 : PySem.W.findIn K (.ref C4) "__init__" = some (some (.ref f33_0)))
    (l33_0 : K.lookup f33_0 = some ⟨oc33_0, od33_0, .func (PySem.W.fnOf "__init__" "Chain.__init__" (defArgs (inClass (top 33) 0)) (defBody (inClass (top 33) 0)) (defScope (inClass (top 33) 0)) .none kV33_0 dc33_0 pm33_0 an33_0 cd33_0 ct33_0), sl33_0⟩)
    (c33_0 : PySem.W.codeIn K cd33_0 "Chain.__init__" = true)
    (k33_0 : PySem.W.keepIn K (.ref f33_0) = true)
    (fn33_0 : PySem.W.isFn K (.ref f33_0) = true)
    (mk4 : PySem.W.makesIn K C4 = true)
    (ck4 : PySem.W.keepIn K (.ref C4) = true)
    (fi33_1_4 : PySem.W.findIn K (.ref C4) "form" = some (some (.ref f33_1)))
    (l33_1 : K.lookup f33_1 = some ⟨oc33_1, od33_1, .func (PySem.W.fnOf "form" "Chain.form" (defArgs (inClass (top 33) 1)) (defBody (inClass (top 33) 1)) (defScope (inClass (top 33) 1)) .none kV33_1 dc33_1 pm33_1 an33_1 cd33_1 ct33_1), sl33_1⟩)
    (c33_1 : PySem.W.codeIn K cd33_1 "Chain.form" = true)
    (k33_1 : PySem.W.keepIn K (.ref f33_1) = true)
    (fn33_1 : PySem.W.isFn K (.ref f33_1) = true)
    (fi23_0_5 : PySem.W.findIn K (.ref C5) "__init__" = some (some (.ref f23_0)))
    (l23_0 : K.lookup f23_0 = some ⟨oc23_0, od23_0, .func (PySem.W.fnOf "__init__" "Floor.__init__" (defArgs (inClass (top 23) 0)) (defBody (inClass (top 23) 0)) (defScope (inClass (top 23) 0)) .none kV23_0 dc23_0 pm23_0 an23_0 cd23_0 ct23_0), sl23_0⟩)
    (c23_0 : PySem.W.codeIn K cd23_0 "Floor.__init__" = true)
    (k23_0 : PySem.W.keepIn K (.ref f23_0) = true)
    (fn23_0 : PySem.W.isFn K (.ref f23_0) = true)
    (mk5 : PySem.W.makesIn K C5 = true)
    (ck5 : PySem.W.keepIn K (.ref C5) = true)
    (fi23_1_5 : PySem.W.findIn K (.ref C5) "walls" = some (some (.ref f23_1)))
    (l23_1 : K.lookup f23_1 = some ⟨oc23_1, od23_1, .func (PySem.W.fnOf "walls" "Floor.walls" (defArgs (inClass (top 23) 1)) (defBody (inClass (top 23) 1)) (defScope (inClass (top 23) 1)) .none kV23_1 dc23_1 pm23_1 an23_1 cd23_1 ct23_1), sl23_1⟩)
    (c23_1 : PySem.W.codeIn K cd23_1 "Floor.walls" = true)
    (k23_1 : PySem.W.keepIn K (.ref f23_1) = true)
    (fn23_1 : PySem.W.isFn K (.ref f23_1) = true)
    (fi23_2_5 : PySem.W.findIn K (.ref C5) "free_cells" = some (some (.ref f23_2)))
    (l23_2 : K.lookup f23_2 = some ⟨oc23_2, od23_2, .func (PySem.W.fnOf "free_cells" "Floor.free_cells" (defArgs (inClass (top 23) 2)) (defBody (inClass (top 23) 2)) (defScope (inClass (top 23) 2)) .none kV23_2 dc23_2 pm23_2 an23_2 cd23_2 ct23_2), sl23_2⟩)
    (c23_2 : PySem.W.codeIn K cd23_2 "Floor.free_cells" = true)
    (k23_2 : PySem.W.keepIn K (.ref f23_2) = true)
    (fn23_2 : PySem.W.isFn K (.ref f23_2) = true)
    (fi23_3_5 : PySem.W.findIn K (.ref C5) "barred" = some (some (.ref f23_3)))
    (l23_3 : K.lookup f23_3 = some ⟨oc23_3, od23_3, .func (PySem.W.fnOf "barred" "Floor.barred" (defArgs (inClass (top 23) 3)) (defBody (inClass (top 23) 3)) (defScope (inClass (top 23) 3)) .none kV23_3 dc23_3 pm23_3 an23_3 cd23_3 ct23_3), sl23_3⟩)
    (c23_3 : PySem.W.codeIn K cd23_3 "Floor.barred" = true)
    (k23_3 : PySem.W.keepIn K (.ref f23_3) = true)
    (fn23_3 : PySem.W.isFn K (.ref f23_3) = true)
    (fi23_4_5 : PySem.W.findIn K (.ref C5) "sees" = some (some (.ref f23_4)))
    (l23_4 : K.lookup f23_4 = some ⟨oc23_4, od23_4, .func (PySem.W.fnOf "sees" "Floor.sees" (defArgs (inClass (top 23) 4)) (defBody (inClass (top 23) 4)) (defScope (inClass (top 23) 4)) .none kV23_4 dc23_4 pm23_4 an23_4 cd23_4 ct23_4), sl23_4⟩)
    (c23_4 : PySem.W.codeIn K cd23_4 "Floor.sees" = true)
    (k23_4 : PySem.W.keepIn K (.ref f23_4) = true)
    (fn23_4 : PySem.W.isFn K (.ref f23_4) = true)
    (fi23_5_5 : PySem.W.findIn K (.ref C5) "free_row" = some (some (.ref f23_5)))
    (l23_5 : K.lookup f23_5 = some ⟨oc23_5, od23_5, .func (PySem.W.fnOf "free_row" "Floor.free_row" (defArgs (inClass (top 23) 5)) (defBody (inClass (top 23) 5)) (defScope (inClass (top 23) 5)) .none kV23_5 dc23_5 pm23_5 an23_5 cd23_5 ct23_5), sl23_5⟩)
    (c23_5 : PySem.W.codeIn K cd23_5 "Floor.free_row" = true)
    (k23_5 : PySem.W.keepIn K (.ref f23_5) = true)
    (fn23_5 : PySem.W.isFn K (.ref f23_5) = true)
    (fi23_6_5 : PySem.W.findIn K (.ref C5) "stretches" = some (some (.ref f23_6)))
    (l23_6 : K.lookup f23_6 = some ⟨oc23_6, od23_6, .func (PySem.W.fnOf "stretches" "Floor.stretches" (defArgs (inClass (top 23) 6)) (defBody (inClass (top 23) 6)) (defScope (inClass (top 23) 6)) .none kV23_6 dc23_6 pm23_6 an23_6 cd23_6 ct23_6), sl23_6⟩)
    (c23_6 : PySem.W.codeIn K cd23_6 "Floor.stretches" = true)
    (k23_6 : PySem.W.keepIn K (.ref f23_6) = true)
    (fn23_6 : PySem.W.isFn K (.ref f23_6) = true)
    (fi23_7_5 : PySem.W.findIn K (.ref C5) "moved" = some (some (.ref f23_7)))
    (l23_7 : K.lookup f23_7 = some ⟨oc23_7, od23_7, .func (PySem.W.fnOf "moved" "Floor.moved" (defArgs (inClass (top 23) 7)) (defBody (inClass (top 23) 7)) (defScope (inClass (top 23) 7)) .none kV23_7 dc23_7 pm23_7 an23_7 cd23_7 ct23_7), sl23_7⟩)
    (c23_7 : PySem.W.codeIn K cd23_7 "Floor.moved" = true)
    (k23_7 : PySem.W.keepIn K (.ref f23_7) = true)
    (fn23_7 : PySem.W.isFn K (.ref f23_7) = true) :
    ∃ fd : FuncData, (∀ (s : Shared) (v : Value), BindsTo s fd ⟨[v], []⟩ [("_law_script", v)]) ∧ ∀ base : Heap, K.In base → base.Ns mainGlobals mg → FnOk l.prog w K mg base CX0 9 fa fd ["_law_script"] (spC K L0 cLaw) := by
  have e := hfa.symm.trans (PySem.W.mg_of X G a52)
  cases e
  have T : Top K mg (mkL C0 C1 C2 C3 C4 C5) := {
    nm_Motion := rfl
    m_Motion := PySem.W.mg_of X G nC0
    k_Motion := ⟨⟨pg0, hd0, po0, sa0⟩, by show List.Nodup []; decide +kernel, (fun f hf => by simp [mkL] at hf), by show 0 < 1000; decide⟩
    i_Motion := ⟨⟨pg0, hd0, po0, sa0⟩, ca0, cg, ck, cm0⟩
    t_Motion_Motion := kit_of ic0 ty0 kt0_0
    b_Motion := ⟨mk0, in0, ck0, PySem.W.mg_of X G nC0, rfl⟩
    d_Motion_form := ⟨f29_0, _, (deft_mk l29_0 c29_0 k29_0 fun _ _ _ _ _ _ us hl => match us, hl with | [_], _ => rfl), fun c hc => by simp at hc; subst hc; exact ⟨fi29_0_0, fn29_0, k29_0⟩⟩
    d_Motion_image := ⟨f29_1, _, (deft_mk l29_1 c29_1 k29_1 fun _ _ _ _ _ _ us hl => match us, hl with | [_, _], _ => rfl), fun c hc => by simp at hc; rcases hc with rfl | rfl | rfl | rfl | rfl <;> first | exact ⟨fi29_1_0, fn29_1, k29_1⟩ | exact ⟨fi29_1_1, fn29_1, k29_1⟩ | exact ⟨fi29_1_2, fn29_1, k29_1⟩ | exact ⟨fi29_1_3, fn29_1, k29_1⟩ | exact ⟨fi29_1_4, fn29_1, k29_1⟩⟩
    d_Motion_back := ⟨f29_2, _, (deft_mk l29_2 c29_2 k29_2 fun _ _ _ _ _ _ us hl => match us, hl with | [_], _ => rfl), fun c hc => by simp at hc; rcases hc with rfl | rfl | rfl | rfl | rfl <;> first | exact ⟨fi29_2_0, fn29_2, k29_2⟩ | exact ⟨fi29_2_1, fn29_2, k29_2⟩ | exact ⟨fi29_2_2, fn29_2, k29_2⟩ | exact ⟨fi29_2_3, fn29_2, k29_2⟩ | exact ⟨fi29_2_4, fn29_2, k29_2⟩⟩
    nm_Turn := rfl
    m_Turn := PySem.W.mg_of X G nC1
    k_Turn := ⟨⟨pg1, hd1, po1, sa1⟩, by show List.Nodup [("times" : Str)]; decide +kernel, (fun f hf => by simp [mkL] at hf; subst hf; exact no1_0), by show 1 < 1000; decide⟩
    i_Turn := ⟨⟨pg1, hd1, po1, sa1⟩, ca1, cg, ck, cm1⟩
    t_Turn_Motion := kit_of ic0 ty0 kt1_0
    d_Turn_init := ⟨td30_0_0, f30_0, _, (deftD_mk l30_0 c30_0 k30_0 t30_0 rfl 1 rfl (fun _ _ _ _ _ _ _ vs hT hl => match vs, hl with | [_, _], _ => BindsTo.of_defaults rfl hT rfl rfl rfl) (fun _ _ _ _ _ _ _ vs hT hl => match vs, hl with | [_], _ => BindsTo.of_defaults rfl hT rfl rfl rfl)).1, ⟨mk1, fi30_0_1, fn30_0, ck1⟩, PySem.W.mg_of X G nC1, (deftD_mk l30_0 c30_0 k30_0 t30_0 rfl 1 rfl (fun _ _ _ _ _ _ _ vs hT hl => match vs, hl with | [_, _], _ => BindsTo.of_defaults rfl hT rfl rfl rfl) (fun _ _ _ _ _ _ _ vs hT hl => match vs, hl with | [_], _ => BindsTo.of_defaults rfl hT rfl rfl rfl)).2⟩
    d_Turn_form := ⟨f30_1, _, (deft_mk l30_1 c30_1 k30_1 fun _ _ _ _ _ _ us hl => match us, hl with | [_], _ => rfl), fun c hc => by simp at hc; subst hc; exact ⟨fi30_1_1, fn30_1, k30_1⟩⟩
    nm_Mirror := rfl
    m_Mirror := PySem.W.mg_of X G nC2
    k_Mirror := ⟨⟨pg2, hd2, po2, sa2⟩, by show List.Nodup []; decide +kernel, (fun f hf => by simp [mkL] at hf), by show 0 < 1000; decide⟩
    i_Mirror := ⟨⟨pg2, hd2, po2, sa2⟩, ca2, cg, ck, cm2⟩
    t_Mirror_Motion := kit_of ic0 ty0 kt2_0
    b_Mirror := ⟨mk2, in2, ck2, PySem.W.mg_of X G nC2, rfl⟩
    d_Mirror_form := ⟨f31_0, _, (deft_mk l31_0 c31_0 k31_0 fun _ _ _ _ _ _ us hl => match us, hl with | [_], _ => rfl), fun c hc => by simp at hc; subst hc; exact ⟨fi31_0_2, fn31_0, k31_0⟩⟩
    nm_Shift := rfl
    m_Shift := PySem.W.mg_of X G nC3
    k_Shift := ⟨⟨pg3, hd3, po3, sa3⟩, by show List.Nodup [("by" : Str)]; decide +kernel, (fun f hf => by simp [mkL] at hf; subst hf; exact no3_0), by show 1 < 1000; decide⟩
    i_Shift := ⟨⟨pg3, hd3, po3, sa3⟩, ca3, cg, ck, cm3⟩
    t_Shift_Motion := kit_of ic0 ty0 kt3_0
    d_Shift_init := ⟨f32_0, _, (deft_mk l32_0 c32_0 k32_0 fun _ _ _ _ _ _ us hl => match us, hl with | [_, _], _ => rfl), ⟨mk3, fi32_0_3, fn32_0, ck3⟩, PySem.W.mg_of X G nC3, (deft_mk l32_0 c32_0 k32_0 fun _ _ _ _ _ _ us hl => match us, hl with | [_, _], _ => rfl).bd⟩
    d_Shift_form := ⟨f32_1, _, (deft_mk l32_1 c32_1 k32_1 fun _ _ _ _ _ _ us hl => match us, hl with | [_], _ => rfl), fun c hc => by simp at hc; subst hc; exact ⟨fi32_1_3, fn32_1, k32_1⟩⟩
    nm_Chain := rfl
    m_Chain := PySem.W.mg_of X G nC4
    k_Chain := ⟨⟨pg4, hd4, po4, sa4⟩, by show List.Nodup [("whole" : Str)]; decide +kernel, (fun f hf => by simp [mkL] at hf; subst hf; exact no4_0), by show 1 < 1000; decide⟩
    i_Chain := ⟨⟨pg4, hd4, po4, sa4⟩, ca4, cg, ck, cm4⟩
    t_Chain_Motion := kit_of ic0 ty0 kt4_0
    d_Chain_init := ⟨f33_0, _, (deft_mk l33_0 c33_0 k33_0 fun _ _ _ _ _ _ us hl => match us, hl with | [_, _], _ => rfl), ⟨mk4, fi33_0_4, fn33_0, ck4⟩, PySem.W.mg_of X G nC4, (deft_mk l33_0 c33_0 k33_0 fun _ _ _ _ _ _ us hl => match us, hl with | [_, _], _ => rfl).bd⟩
    d_Chain_form := ⟨f33_1, _, (deft_mk l33_1 c33_1 k33_1 fun _ _ _ _ _ _ us hl => match us, hl with | [_], _ => rfl), fun c hc => by simp at hc; subst hc; exact ⟨fi33_1_4, fn33_1, k33_1⟩⟩
    nm_Floor := rfl
    m_Floor := PySem.W.mg_of X G nC5
    k_Floor := ⟨⟨pg5, hd5, po5, sa5⟩, by show List.Nodup [("standing" : Str)]; decide +kernel, (fun f hf => by simp [mkL] at hf; subst hf; exact no5_0), by show 1 < 1000; decide⟩
    i_Floor := ⟨⟨pg5, hd5, po5, sa5⟩, ca5, cg, ck, cm5⟩
    t_Floor_Floor := kit_of ic5 ty5 kt5_5
    d_Floor_init := ⟨f23_0, _, (deft_mk l23_0 c23_0 k23_0 fun _ _ _ _ _ _ us hl => match us, hl with | [_, _], _ => rfl), ⟨mk5, fi23_0_5, fn23_0, ck5⟩, PySem.W.mg_of X G nC5, (deft_mk l23_0 c23_0 k23_0 fun _ _ _ _ _ _ us hl => match us, hl with | [_, _], _ => rfl).bd⟩
    d_Floor_walls := ⟨f23_1, _, (deft_mk l23_1 c23_1 k23_1 fun _ _ _ _ _ _ us hl => match us, hl with | [_], _ => rfl), fun c hc => by simp at hc; subst hc; exact ⟨fi23_1_5, fn23_1, k23_1⟩⟩
    d_Floor_free_cells := ⟨f23_2, _, (deft_mk l23_2 c23_2 k23_2 fun _ _ _ _ _ _ us hl => match us, hl with | [_, _, _, _], _ => rfl), fun c hc => by simp at hc; subst hc; exact ⟨fi23_2_5, fn23_2, k23_2⟩⟩
    d_Floor_barred := ⟨f23_3, _, (deft_mk l23_3 c23_3 k23_3 fun _ _ _ _ _ _ us hl => match us, hl with | [_, _, _], _ => rfl), fun c hc => by simp at hc; subst hc; exact ⟨fi23_3_5, fn23_3, k23_3⟩⟩
    d_Floor_sees := ⟨f23_4, _, (deft_mk l23_4 c23_4 k23_4 fun _ _ _ _ _ _ us hl => match us, hl with | [_, _, _], _ => rfl), fun c hc => by simp at hc; subst hc; exact ⟨fi23_4_5, fn23_4, k23_4⟩⟩
    d_Floor_free_row := ⟨f23_5, _, (deft_mk l23_5 c23_5 k23_5 fun _ _ _ _ _ _ us hl => match us, hl with | [_, _, _], _ => rfl), fun c hc => by simp at hc; subst hc; exact ⟨fi23_5_5, fn23_5, k23_5⟩⟩
    d_Floor_stretches := ⟨f23_6, _, (deft_mk l23_6 c23_6 k23_6 fun _ _ _ _ _ _ us hl => match us, hl with | [_, _, _], _ => rfl), fun c hc => by simp at hc; subst hc; exact ⟨fi23_6_5, fn23_6, k23_6⟩⟩
    d_Floor_moved := ⟨f23_7, _, (deft_mk l23_7 c23_7 k23_7 fun _ _ _ _ _ _ us hl => match us, hl with | [_, _], _ => rfl), fun c hc => by simp at hc; subst hc; exact ⟨fi23_7_5, fn23_7, k23_7⟩⟩
    b_bool := PySem.W.mg_none_of X G z_bool
    b_len := PySem.W.mg_none_of X G z_len
    b_sorted := PySem.W.mg_none_of X G z_sorted
    b_enumerate := PySem.W.mg_none_of X G z_enumerate
    b_abs := PySem.W.mg_none_of X G z_abs
    b_tuple := PySem.W.mg_none_of X G z_tuple
    b_int := PySem.W.mg_none_of X G z_int
    b_isinstance := PySem.W.mg_none_of X G z_isinstance
    b_sum := PySem.W.mg_none_of X G z_sum
    b_range := PySem.W.mg_none_of X G z_range
    b_list := PySem.W.mg_none_of X G z_list
    b_max := PySem.W.mg_none_of X G z_max
    c_MIDDLE := ⟨w0, PySem.W.mg_of X G aw0, (const_tup (K := K) (L := mkL C0 C1 C2 C3 C4 C5) (vs := [V.int 0, V.int 0]) lw0 rfl rfl (by show 2 ≤ sizeLine; decide) (.cons ⟨_, rfl⟩ (.cons ⟨_, rfl⟩ .nil)) (fun G => .cons ((fun _ => .int _) G) (.cons ((fun _ => .int _) G) .nil)))⟩
    c_WAYS := ⟨w1, PySem.W.mg_of X G aw1, (const_tup (K := K) (L := mkL C0 C1 C2 C3 C4 C5) (vs := [V.ref w1_0, V.ref w1_1, V.ref w1_2, V.ref w1_3, V.ref w1_4, V.ref w1_5]) lw1 rfl rfl (by show 6 ≤ sizeLine; decide) (.cons rfl (.cons rfl (.cons rfl (.cons rfl (.cons rfl (.cons rfl .nil)))))) (fun G => .cons ((const_tup (K := K) (L := mkL C0 C1 C2 C3 C4 C5) (vs := [V.int 1, V.int 0]) lw1_0 rfl rfl (by show 2 ≤ sizeLine; decide) (.cons ⟨_, rfl⟩ (.cons ⟨_, rfl⟩ .nil)) (fun G => .cons ((fun _ => .int _) G) (.cons ((fun _ => .int _) G) .nil))) G) (.cons ((const_tup (K := K) (L := mkL C0 C1 C2 C3 C4 C5) (vs := [V.int 0, V.int 1]) lw1_1 rfl rfl (by show 2 ≤ sizeLine; decide) (.cons ⟨_, rfl⟩ (.cons ⟨_, rfl⟩ .nil)) (fun G => .cons ((fun _ => .int _) G) (.cons ((fun _ => .int _) G) .nil))) G) (.cons ((const_tup (K := K) (L := mkL C0 C1 C2 C3 C4 C5) (vs := [V.int (-1), V.int 1]) lw1_2 rfl rfl (by show 2 ≤ sizeLine; decide) (.cons ⟨_, rfl⟩ (.cons ⟨_, rfl⟩ .nil)) (fun G => .cons ((fun _ => .int _) G) (.cons ((fun _ => .int _) G) .nil))) G) (.cons ((const_tup (K := K) (L := mkL C0 C1 C2 C3 C4 C5) (vs := [V.int (-1), V.int 0]) lw1_3 rfl rfl (by show 2 ≤ sizeLine; decide) (.cons ⟨_, rfl⟩ (.cons ⟨_, rfl⟩ .nil)) (fun G => .cons ((fun _ => .int _) G) (.cons ((fun _ => .int _) G) .nil))) G) (.cons ((const_tup (K := K) (L := mkL C0 C1 C2 C3 C4 C5) (vs := [V.int 0, V.int (-1)]) lw1_4 rfl rfl (by show 2 ≤ sizeLine; decide) (.cons ⟨_, rfl⟩ (.cons ⟨_, rfl⟩ .nil)) (fun G => .cons ((fun _ => .int _) G) (.cons ((fun _ => .int _) G) .nil))) G) (.cons ((const_tup (K := K) (L := mkL C0 C1 C2 C3 C4 C5) (vs := [V.int 1, V.int (-1)]) lw1_5 rfl rfl (by show 2 ≤ sizeLine; decide) (.cons ⟨_, rfl⟩ (.cons ⟨_, rfl⟩ .nil)) (fun G => .cons ((fun _ => .int _) G) (.cons ((fun _ => .int _) G) .nil))) G) .nil)))))))⟩
    c_PLAIN := ⟨w2, PySem.W.mg_of X G aw2, (const_tup (K := K) (L := mkL C0 C1 C2 C3 C4 C5) (vs := [V.bl false, V.int 0, V.ref w2_2]) lw2 rfl rfl (by show 3 ≤ sizeLine; decide) (.cons rfl (.cons ⟨_, rfl⟩ (.cons rfl .nil))) (fun G => .cons ((fun _ => .bl _) G) (.cons ((fun _ => .int _) G) (.cons ((const_tup (K := K) (L := mkL C0 C1 C2 C3 C4 C5) (vs := [V.int 0, V.int 0]) lw2_2 rfl rfl (by show 2 ≤ sizeLine; decide) (.cons ⟨_, rfl⟩ (.cons ⟨_, rfl⟩ .nil)) (fun G => .cons ((fun _ => .int _) G) (.cons ((fun _ => .int _) G) .nil))) G) .nil))))⟩
    p__wall := gdef_mk X G a0 l0 c0 k0 fun _ _ _ _ _ _ us hl => match us, hl with | [_], _ => rfl
    p_is_whole := gdef_mk X G a9 l9 c9 k9 fun _ _ _ _ _ _ us hl => match us, hl with | [_], _ => rfl
    p_is_count := gdef_mk X G a10 l10 c10 k10 fun _ _ _ _ _ _ us hl => match us, hl with | [_], _ => rfl
    p_is_cell := gdef_mk X G a11 l11 c11 k11 fun _ _ _ _ _ _ us hl => match us, hl with | [_], _ => rfl
    p_plus := ⟨td12_0, gdefD_mk X G a12 l12 c12 k12 t12 rfl 2 rfl (fun _ _ _ _ _ _ _ vs hT hl => match vs, hl with | [_, _, _], _ => BindsTo.of_defaults rfl hT rfl rfl rfl) (fun _ _ _ _ _ _ _ vs hT hl => match vs, hl with | [_, _], _ => BindsTo.of_defaults rfl hT rfl rfl rfl)⟩
    p_distance := gdef_mk X G a13 l13 c13 k13 fun _ _ _ _ _ _ us hl => match us, hl with | [_, _], _ => rfl
    p_near_numbers := gdef_mk X G a15 l15 c15 k15 fun _ _ _ _ _ _ us hl => match us, hl with | [_, _], _ => rfl
    p_nearest := gdef_mk X G a16 l16 c16 k16 fun _ _ _ _ _ _ us hl => match us, hl with | [_, _, _], _ => rfl
    p_check_size := gdef_mk X G a18 l18 c18 k18 fun _ _ _ _ _ _ us hl => match us, hl with | [_], _ => rfl
    p_side_cell := gdef_mk X G a19 l19 c19 k19 fun _ _ _ _ _ _ us hl => match us, hl with | [_, _, _], _ => rfl
    p_ring := gdef_mk X G a20 l20 c20 k20 fun _ _ _ _ _ _ us hl => match us, hl with | [_, _], _ => rfl
    p_stretched := gdef_mk X G a22 l22 c22 k22 fun _ _ _ _ _ _ us hl => match us, hl with | [_], _ => rfl
    p_turned := gdef_mk X G a26 l26 c26 k26 fun _ _ _ _ _ _ us hl => match us, hl with | [_, _], _ => rfl
    p_carried := gdef_mk X G a27 l27 c27 k27 fun _ _ _ _ _ _ us hl => match us, hl with | [_, _], _ => rfl
    p_joined := gdef_mk X G a28 l28 c28 k28 fun _ _ _ _ _ _ us hl => match us, hl with | [_, _], _ => rfl
    l_cell_at := gdef_mk X G a35 l35 c35 k35 fun _ _ _ _ _ _ us hl => match us, hl with | [_, _], _ => rfl
    l_whole := gdef_mk X G a36 l36 c36 k36 fun _ _ _ _ _ _ us hl => match us, hl with | [_], _ => rfl
    l_cell := gdef_mk X G a37 l37 c37 k37 fun _ _ _ _ _ _ us hl => match us, hl with | [_], _ => rfl
    l_number_by := gdef_mk X G a38 l38 c38 k38 fun _ _ _ _ _ _ us hl => match us, hl with | [_], _ => rfl
    l_reach := gdef_mk X G a39 l39 c39 k39 fun _ _ _ _ _ _ us hl => match us, hl with | [_, _], _ => rfl
    l_deed := gdef_mk X G a40 l40 c40 k40 fun _ _ _ _ _ _ us hl => match us, hl with | [_], _ => rfl
    l_motion := gdef_mk X G a41 l41 c41 k41 fun _ _ _ _ _ _ us hl => match us, hl with | [_], _ => rfl
    l_image := gdef_mk X G a42 l42 c42 k42 fun _ _ _ _ _ _ us hl => match us, hl with | [_, _], _ => rfl
    l_sorted_once := gdef_mk X G a43 l43 c43 k43 fun _ _ _ _ _ _ us hl => match us, hl with | [_, _], _ => rfl
    l_free_at := gdef_mk X G a44 l44 c44 k44 fun _ _ _ _ _ _ us hl => match us, hl with | [_, _, _, _], _ => rfl
    l_seen := gdef_mk X G a45 l45 c45 k45 fun _ _ _ _ _ _ us hl => match us, hl with | [_, _, _], _ => rfl
    l_cells := gdef_mk X G a46 l46 c46 k46 fun _ _ _ _ _ _ us hl => match us, hl with | [_, _], _ => rfl
    l_stretches := gdef_mk X G a47 l47 c47 k47 fun _ _ _ _ _ _ us hl => match us, hl with | [_], _ => rfl
    l_due := gdef_mk X G a48 l48 c48 k48 fun _ _ _ _ _ _ us hl => match us, hl with | [_, _, _], _ => rfl
    l_many := gdef_mk X G a49 l49 c49 k49 fun _ _ _ _ _ _ us hl => match us, hl with | [_], _ => rfl
    l_meets := gdef_mk X G a50 l50 c50 k50 fun _ _ _ _ _ _ us hl => match us, hl with | [_, _, _, _, _], _ => rfl
    l_balls := gdef_mk X G a51 l51 c51 k51 fun _ _ _ _ _ _ us hl => match us, hl with | [_, _, _, _, _], _ => rfl
    law := gdef_mk X G a52 l52 c52 k52 fun _ _ _ _ _ _ us hl => match us, hl with | [_], _ => rfl
  }
  exact ⟨PySem.W.fnOf "law" "law" (defArgs (top 52)) (defBody (top 52)) (defScope (top 52)) .none kV52 dc52 pm52 an52 cd52 ct52, fun s v => .of_eq rfl, fun base _ _ => law_imp (fun ds r ⟨ns, h1, _, h2⟩ => ⟨⟨ns, h1⟩, h2⟩) (law_ok T ⟨⟨oc52, od52, .none, kV52, dc52, pm52, an52, cd52, ct52, sl52, rfl, l52, c52⟩, k52, .all fun us hl => match us, hl with | [_], _ => rfl⟩)⟩
theorem walk {l : PySem.W.OpenLaw} {q : Program} {loose : List Str} {XP : (Str → Option Value) → Heap → Prop} {YP : World → Heap → Prop} {d : DefRec} {K : Params → PySem.W.Frag} (hn : l.most = some 63) (hdf : d.params.defaults = [])
    (hY : ∀ (w : World) (h : Heap), YP w h → (K w.params).In h) (L : World → Kl)
    (F : ∀ (w : World) (mg : Str → Option Value) (fa : Addr) (h : Heap), (K w.params).In h → h.Ns mainGlobals mg → mg d.name = some (.ref fa) →
      ∃ fd : FuncData, (∀ (s : Shared) (u : Value), BindsTo s fd ⟨[u], []⟩ [("_law_script", u)]) ∧ ∀ base : Heap, (K w.params).In base → base.Ns mainGlobals mg → FnOk l.prog w (K w.params) mg base CX0 9 fa fd ["_law_script"] (spC (K w.params) (L w) cLaw)) :
    PySem.W.WalkO q loose XP YP l.row.toRowW d [] (fun f vs => PySem.call f vs) :=
  L2.walk_of (n := 63) (k := 9) (x := "_law_script") (CX := fun _ => CX0) (sp := fun w => spC (K w.params) (L w) cLaw) hn (by decide) hdf ⟨rfl, by decide, by decide⟩ hY F
    (fun _ H a ns hl hO hS => ⟨H, [.lst (ns.map .int)], .bl true, .refl _, .cons (.lst hS (RpA.ints ns)) .nil, ⟨ns, rfl, hl, rfl⟩, fun v G' H' _ r => by cases r; rfl⟩) fun _ _ _ _ _ z => z
/-! ### the text, cut into its statements -/
theorem anyS {a s : Stmt} (_ : a = s) : True := trivial
theorem anyC {a s : Scope} (_ : a = s) : True := trivial
theorem anyG {a s : Given} (_ : a = s) : True := trivial
def p0 : Stmt := by
  have : True := anyS (a := top 0) (s := ?s) (by conv => { lhs; whnf })
  clear this
  exact ?s
def p1 : Stmt := by
  have : True := anyS (a := top 1) (s := ?s) (by conv => { lhs; whnf })
  clear this
  exact ?s
def p2 : Stmt := by
  have : True := anyS (a := top 2) (s := ?s) (by conv => { lhs; whnf })
  clear this
  exact ?s
def p3 : Stmt := by
  have : True := anyS (a := top 3) (s := ?s) (by conv => { lhs; whnf })
  clear this
  exact ?s
def p4 : Stmt := by
  have : True := anyS (a := top 4) (s := ?s) (by conv => { lhs; whnf })
  clear this
  exact ?s
def p5 : Stmt := by
  have : True := anyS (a := top 5) (s := ?s) (by conv => { lhs; whnf })
  clear this
  exact ?s
def p6 : Stmt := by
  have : True := anyS (a := top 6) (s := ?s) (by conv => { lhs; whnf })
  clear this
  exact ?s
def p7 : Stmt := by
  have : True := anyS (a := top 7) (s := ?s) (by conv => { lhs; whnf })
  clear this
  exact ?s
def p8 : Stmt := by
  have : True := anyS (a := top 8) (s := ?s) (by conv => { lhs; whnf })
  clear this
  exact ?s
def p9 : Stmt := by
  have : True := anyS (a := top 9) (s := ?s) (by conv => { lhs; whnf })
  clear this
  exact ?s
def p10 : Stmt := by
  have : True := anyS (a := top 10) (s := ?s) (by conv => { lhs; whnf })
  clear this
  exact ?s
def p11 : Stmt := by
  have : True := anyS (a := top 11) (s := ?s) (by conv => { lhs; whnf })
  clear this
  exact ?s
def p12 : Stmt := by
  have : True := anyS (a := top 12) (s := ?s) (by conv => { lhs; whnf })
  clear this
  exact ?s
def p13 : Stmt := by
  have : True := anyS (a := top 13) (s := ?s) (by conv => { lhs; whnf })
  clear this
  exact ?s
def p14 : Stmt := by
  have : True := anyS (a := top 14) (s := ?s) (by conv => { lhs; whnf })
  clear this
  exact ?s
def p15 : Stmt := by
  have : True := anyS (a := top 15) (s := ?s) (by conv => { lhs; whnf })
  clear this
  exact ?s
def p16 : Stmt := by
  have : True := anyS (a := top 16) (s := ?s) (by conv => { lhs; whnf })
  clear this
  exact ?s
def p17 : Stmt := by
  have : True := anyS (a := top 17) (s := ?s) (by conv => { lhs; whnf })
  clear this
  exact ?s
def p18 : Stmt := by
  have : True := anyS (a := top 18) (s := ?s) (by conv => { lhs; whnf })
  clear this
  exact ?s
def p19 : Stmt := by
  have : True := anyS (a := top 19) (s := ?s) (by conv => { lhs; whnf })
  clear this
  exact ?s
def p20 : Stmt := by
  have : True := anyS (a := top 20) (s := ?s) (by conv => { lhs; whnf })
  clear this
  exact ?s
def p21 : Stmt := by
  have : True := anyS (a := top 21) (s := ?s) (by conv => { lhs; whnf })
  clear this
  exact ?s
def p22 : Stmt := by
  have : True := anyS (a := top 22) (s := ?s) (by conv => { lhs; whnf })
  clear this
  exact ?s
def p23 : Stmt := by
  have : True := anyS (a := top 23) (s := ?s) (by conv => { lhs; whnf })
  clear this
  exact ?s
def p24 : Stmt := by
  have : True := anyS (a := top 24) (s := ?s) (by conv => { lhs; whnf })
  clear this
  exact ?s
def p25 : Stmt := by
  have : True := anyS (a := top 25) (s := ?s) (by conv => { lhs; whnf })
  clear this
  exact ?s
def p26 : Stmt := by
  have : True := anyS (a := top 26) (s := ?s) (by conv => { lhs; whnf })
  clear this
  exact ?s
def p27 : Stmt := by
  have : True := anyS (a := top 27) (s := ?s) (by conv => { lhs; whnf })
  clear this
  exact ?s
def p28 : Stmt := by
  have : True := anyS (a := top 28) (s := ?s) (by conv => { lhs; whnf })
  clear this
  exact ?s
def p29 : Stmt := by
  have : True := anyS (a := top 29) (s := ?s) (by conv => { lhs; whnf })
  clear this
  exact ?s
def p30 : Stmt := by
  have : True := anyS (a := top 30) (s := ?s) (by conv => { lhs; whnf })
  clear this
  exact ?s
def p31 : Stmt := by
  have : True := anyS (a := top 31) (s := ?s) (by conv => { lhs; whnf })
  clear this
  exact ?s
def p32 : Stmt := by
  have : True := anyS (a := top 32) (s := ?s) (by conv => { lhs; whnf })
  clear this
  exact ?s
def p33 : Stmt := by
  have : True := anyS (a := top 33) (s := ?s) (by conv => { lhs; whnf })
  clear this
  exact ?s
def p34 : Stmt := by
  have : True := anyS (a := top 34) (s := ?s) (by conv => { lhs; whnf })
  clear this
  exact ?s
def p35 : Stmt := by
  have : True := anyS (a := top 35) (s := ?s) (by conv => { lhs; whnf })
  clear this
  exact ?s
def p36 : Stmt := by
  have : True := anyS (a := top 36) (s := ?s) (by conv => { lhs; whnf })
  clear this
  exact ?s
def p37 : Stmt := by
  have : True := anyS (a := top 37) (s := ?s) (by conv => { lhs; whnf })
  clear this
  exact ?s
def p38 : Stmt := by
  have : True := anyS (a := top 38) (s := ?s) (by conv => { lhs; whnf })
  clear this
  exact ?s
def p39 : Stmt := by
  have : True := anyS (a := top 39) (s := ?s) (by conv => { lhs; whnf })
  clear this
  exact ?s
def p40 : Stmt := by
  have : True := anyS (a := top 40) (s := ?s) (by conv => { lhs; whnf })
  clear this
  exact ?s
def p41 : Stmt := by
  have : True := anyS (a := top 41) (s := ?s) (by conv => { lhs; whnf })
  clear this
  exact ?s
def p42 : Stmt := by
  have : True := anyS (a := top 42) (s := ?s) (by conv => { lhs; whnf })
  clear this
  exact ?s
def p43 : Stmt := by
  have : True := anyS (a := top 43) (s := ?s) (by conv => { lhs; whnf })
  clear this
  exact ?s
def p44 : Stmt := by
  have : True := anyS (a := top 44) (s := ?s) (by conv => { lhs; whnf })
  clear this
  exact ?s
def p45 : Stmt := by
  have : True := anyS (a := top 45) (s := ?s) (by conv => { lhs; whnf })
  clear this
  exact ?s
def p46 : Stmt := by
  have : True := anyS (a := top 46) (s := ?s) (by conv => { lhs; whnf })
  clear this
  exact ?s
def p47 : Stmt := by
  have : True := anyS (a := top 47) (s := ?s) (by conv => { lhs; whnf })
  clear this
  exact ?s
def p48 : Stmt := by
  have : True := anyS (a := top 48) (s := ?s) (by conv => { lhs; whnf })
  clear this
  exact ?s
def p49 : Stmt := by
  have : True := anyS (a := top 49) (s := ?s) (by conv => { lhs; whnf })
  clear this
  exact ?s
def p50 : Stmt := by
  have : True := anyS (a := top 50) (s := ?s) (by conv => { lhs; whnf })
  clear this
  exact ?s
def p51 : Stmt := by
  have : True := anyS (a := top 51) (s := ?s) (by conv => { lhs; whnf })
  clear this
  exact ?s
def p52 : Stmt := by
  have : True := anyS (a := top 52) (s := ?s) (by conv => { lhs; whnf })
  clear this
  exact ?s
def psc : Scope := by
  have : True := anyC (a := PySem.Challenge.pw_sixcells_k09_whole_sight_moved.main.scope) (s := ?s) (by conv => { lhs; whnf })
  clear this
  exact ?s
def pgv : Given := by
  have : True := anyG (a := PySem.Challenge.pw_sixcells_k09_whole_sight_moved.given) (s := ?s) (by conv => { lhs; whnf })
  clear this
  exact ?s
def pq : Program := ⟨⟨[p0, p1, p2, p3, p4, p5, p6, p7, p8, p9, p10, p11, p12, p13, p14, p15, p16, p17, p18, p19, p20, p21, p22, p23, p24, p25, p26, p27, p28, p29, p30, p31, p32, p33, p34, p35, p36, p37, p38, p39, p40, p41, p42, p43, p44, p45, p46, p47, p48, p49, p50, p51, p52], psc, false, "/claim/cut.py", []⟩, [], [], [], [], pgv⟩
def rq : PySem.W.OpenLaw := { name := (Str.ofString "law"), prog := pq, most := some 63, about := [(Str.ofString "Floor"), (Str.ofString "stretches")], writes := false, foot := 18, bound := none }
theorem rq_eq : PySem.Challenge.rw_sixcells_k09_whole_sight_moved = rq := by kernel_rfl
end K09
/-! names taken ahead, so that the head does not write these twins out (each would be a term of the size of the square of the heap) -/
def PySem.W.Fast.tw17399083102607290684 : Unit := ()
def PySem.W.Fast.tw8654575796248053081 : Unit := ()
def PySem.W.Fast.tw14866416126249808776 : Unit := ()
def PySem.W.Fast.tw17892147891702874185 : Unit := ()
def PySem.W.Fast.tw5229302493652971735 : Unit := ()
def PySem.W.Fast.tw16652466167543235419 : Unit := ()
def PySem.W.Fast.tw6006275769678596408 : Unit := ()
def PySem.W.Fast.tw3618836305414982168 : Unit := ()
def PySem.W.Fast.tw4073497191020806817 : Unit := ()
def PySem.W.Fast.tw6305686526286281310 : Unit := ()
def PySem.W.Fast.tw7908039752369823320 : Unit := ()
def PySem.W.Fast.tw3070562698189259075 : Unit := ()
def PySem.W.Fast.tw10222710074730895829 : Unit := ()
open PySem PySem.W PyProof.Rows
set_option maxRecDepth 100000 in
set_option maxHeartbeats 0 in
theorem PySem.Challenge.cw_sixcells_k09_whole_sight_moved_holds : PySem.Challenge.rw_sixcells_k09_whole_sight_moved.Holds := by
  rw [K09.rq_eq]
  w_on; o_law; k_head; (case hw => w_witness2)
  k_fill
  refine K09.walk (l := K09.rq) rfl rfl (fun w h Y => PySem.W.kIn_of Y) (fun _ => ⟨fun _ => 0, fun _ => []⟩) ?F
  case F =>
    intro w mg fa h KX G hmg
    refine' K09.all_mk _ KX G hmg ?z_max ?z_list ?z_range ?z_sum ?z_isinstance ?z_int ?z_tuple ?z_abs ?z_enumerate ?z_sorted ?z_len ?z_bool ?aw0 ?lw0 ?aw1 ?lw1 ?lw1_0 ?lw1_1 ?lw1_2 ?lw1_3 ?lw1_4 ?lw1_5 ?aw2 ?lw2 ?lw2_2 ?a0 ?l0 ?c0 ?k0 ?a9 ?l9 ?c9 ?k9 ?a10 ?l10 ?c10 ?k10 ?a11 ?l11 ?c11 ?k11 ?a12 ?l12 ?c12 ?k12 ?t12 ?a13 ?l13 ?c13 ?k13 ?a15 ?l15 ?c15 ?k15 ?a16 ?l16 ?c16 ?k16 ?a18 ?l18 ?c18 ?k18 ?a19 ?l19 ?c19 ?k19 ?a20 ?l20 ?c20 ?k20 ?a22 ?l22 ?c22 ?k22 ?a26 ?l26 ?c26 ?k26 ?a27 ?l27 ?c27 ?k27 ?a28 ?l28 ?c28 ?k28 ?a35 ?l35 ?c35 ?k35 ?a36 ?l36 ?c36 ?k36 ?a37 ?l37 ?c37 ?k37 ?a38 ?l38 ?c38 ?k38 ?a39 ?l39 ?c39 ?k39 ?a40 ?l40 ?c40 ?k40 ?a41 ?l41 ?c41 ?k41 ?a42 ?l42 ?c42 ?k42 ?a43 ?l43 ?c43 ?k43 ?a44 ?l44 ?c44 ?k44 ?a45 ?l45 ?c45 ?k45 ?a46 ?l46 ?c46 ?k46 ?a47 ?l47 ?c47 ?k47 ?a48 ?l48 ?c48 ?k48 ?a49 ?l49 ?c49 ?k49 ?a50 ?l50 ?c50 ?k50 ?a51 ?l51 ?c51 ?k51 ?a52 ?l52 ?c52 ?k52 ?nC0 ?nC1 ?nC2 ?nC3 ?nC4 ?nC5 ?pg0 ?hd0 ?po0 ?sa0 ?ca0 ?cg ?ck ?cm0 ?ic0 ?ty0 ?kt0_0 ?pg1 ?hd1 ?po1 ?sa1 ?no1_0 ?ca1 ?cm1 ?kt1_0 ?pg2 ?hd2 ?po2 ?sa2 ?ca2 ?cm2 ?kt2_0 ?pg3 ?hd3 ?po3 ?sa3 ?no3_0 ?ca3 ?cm3 ?kt3_0 ?pg4 ?hd4 ?po4 ?sa4 ?no4_0 ?ca4 ?cm4 ?kt4_0 ?pg5 ?hd5 ?po5 ?sa5 ?no5_0 ?ca5 ?cm5 ?ic5 ?ty5 ?kt5_5 ?mk0 ?in0 ?ck0 ?fi29_0_0 ?l29_0 ?c29_0 ?k29_0 ?fn29_0 ?fi29_1_0 ?fi29_1_1 ?fi29_1_2 ?fi29_1_3 ?fi29_1_4 ?l29_1 ?c29_1 ?k29_1 ?fn29_1 ?fi29_2_0 ?fi29_2_1 ?fi29_2_2 ?fi29_2_3 ?fi29_2_4 ?l29_2 ?c29_2 ?k29_2 ?fn29_2 ?fi30_0_1 ?l30_0 ?c30_0 ?k30_0 ?fn30_0 ?mk1 ?ck1 ?t30_0 ?fi30_1_1 ?l30_1 ?c30_1 ?k30_1 ?fn30_1 ?mk2 ?in2 ?ck2 ?fi31_0_2 ?l31_0 ?c31_0 ?k31_0 ?fn31_0 ?fi32_0_3 ?l32_0 ?c32_0 ?k32_0 ?fn32_0 ?mk3 ?ck3 ?fi32_1_3 ?l32_1 ?c32_1 ?k32_1 ?fn32_1 ?fi33_0_4 ?l33_0 ?c33_0 ?k33_0 ?fn33_0 ?mk4 ?ck4 ?fi33_1_4 ?l33_1 ?c33_1 ?k33_1 ?fn33_1 ?fi23_0_5 ?l23_0 ?c23_0 ?k23_0 ?fn23_0 ?mk5 ?ck5 ?fi23_1_5 ?l23_1 ?c23_1 ?k23_1 ?fn23_1 ?fi23_2_5 ?l23_2 ?c23_2 ?k23_2 ?fn23_2 ?fi23_3_5 ?l23_3 ?c23_3 ?k23_3 ?fn23_3 ?fi23_4_5 ?l23_4 ?c23_4 ?k23_4 ?fn23_4 ?fi23_5_5 ?l23_5 ?c23_5 ?k23_5 ?fn23_5 ?fi23_6_5 ?l23_6 ?c23_6 ?k23_6 ?fn23_6 ?fi23_7_5 ?l23_7 ?c23_7 ?k23_7 ?fn23_7
    (case z_max => k_is)
    (case z_list => k_is)
    (case z_range => k_is)
    (case z_sum => k_is)
    (case z_isinstance => k_is)
    (case z_int => k_is)
    (case z_tuple => k_is)
    (case z_abs => k_is)
    (case z_enumerate => k_is)
    (case z_sorted => k_is)
    (case z_len => k_is)
    (case z_bool => k_is)
    (case aw0 => k_is)
    (case lw0 => k_is)
    (case aw1 => k_is)
    (case lw1 => k_is)
    (case lw1_0 => k_is)
    (case lw1_1 => k_is)
    (case lw1_2 => k_is)
    (case lw1_3 => k_is)
    (case lw1_4 => k_is)
    (case lw1_5 => k_is)
    (case aw2 => k_is)
    (case lw2 => k_is)
    (case lw2_2 => k_is)
    (case a0 => k_is)
    (case l0 => k_is)
    (case c0 => k_is)
    (case k0 => k_is)
    (case a9 => k_is)
    (case l9 => k_is)
    (case c9 => k_is)
    (case k9 => k_is)
    (case a10 => k_is)
    (case l10 => k_is)
    (case c10 => k_is)
    (case k10 => k_is)
    (case a11 => k_is)
    (case l11 => k_is)
    (case c11 => k_is)
    (case k11 => k_is)
    (case a12 => k_is)
    (case l12 => k_is)
    (case c12 => k_is)
    (case k12 => k_is)
    (case t12 => k_is)
    (case a13 => k_is)
    (case l13 => k_is)
    (case c13 => k_is)
    (case k13 => k_is)
    (case a15 => k_is)
    (case l15 => k_is)
    (case c15 => k_is)
    (case k15 => k_is)
    (case a16 => k_is)
    (case l16 => k_is)
    (case c16 => k_is)
    (case k16 => k_is)
    (case a18 => k_is)
    (case l18 => k_is)
    (case c18 => k_is)
    (case k18 => k_is)
    (case a19 => k_is)
    (case l19 => k_is)
    (case c19 => k_is)
    (case k19 => k_is)
    (case a20 => k_is)
    (case l20 => k_is)
    (case c20 => k_is)
    (case k20 => k_is)
    (case a22 => k_is)
    (case l22 => k_is)
    (case c22 => k_is)
    (case k22 => k_is)
    (case a26 => k_is)
    (case l26 => k_is)
    (case c26 => k_is)
    (case k26 => k_is)
    (case a27 => k_is)
    (case l27 => k_is)
    (case c27 => k_is)
    (case k27 => k_is)
    (case a28 => k_is)
    (case l28 => k_is)
    (case c28 => k_is)
    (case k28 => k_is)
    (case a35 => k_is)
    (case l35 => k_is)
    (case c35 => k_is)
    (case k35 => k_is)
    (case a36 => k_is)
    (case l36 => k_is)
    (case c36 => k_is)
    (case k36 => k_is)
    (case a37 => k_is)
    (case l37 => k_is)
    (case c37 => k_is)
    (case k37 => k_is)
    (case a38 => k_is)
    (case l38 => k_is)
    (case c38 => k_is)
    (case k38 => k_is)
    (case a39 => k_is)
    (case l39 => k_is)
    (case c39 => k_is)
    (case k39 => k_is)
    (case a40 => k_is)
    (case l40 => k_is)
    (case c40 => k_is)
    (case k40 => k_is)
    (case a41 => k_is)
    (case l41 => k_is)
    (case c41 => k_is)
    (case k41 => k_is)
    (case a42 => k_is)
    (case l42 => k_is)
    (case c42 => k_is)
    (case k42 => k_is)
    (case a43 => k_is)
    (case l43 => k_is)
    (case c43 => k_is)
    (case k43 => k_is)
    (case a44 => k_is)
    (case l44 => k_is)
    (case c44 => k_is)
    (case k44 => k_is)
    (case a45 => k_is)
    (case l45 => k_is)
    (case c45 => k_is)
    (case k45 => k_is)
    (case a46 => k_is)
    (case l46 => k_is)
    (case c46 => k_is)
    (case k46 => k_is)
    (case a47 => k_is)
    (case l47 => k_is)
    (case c47 => k_is)
    (case k47 => k_is)
    (case a48 => k_is)
    (case l48 => k_is)
    (case c48 => k_is)
    (case k48 => k_is)
    (case a49 => k_is)
    (case l49 => k_is)
    (case c49 => k_is)
    (case k49 => k_is)
    (case a50 => k_is)
    (case l50 => k_is)
    (case c50 => k_is)
    (case k50 => k_is)
    (case a51 => k_is)
    (case l51 => k_is)
    (case c51 => k_is)
    (case k51 => k_is)
    (case a52 => k_is)
    (case l52 => k_is)
    (case c52 => k_is)
    (case k52 => k_is)
    (case nC0 => k_is)
    (case nC1 => k_is)
    (case nC2 => k_is)
    (case nC3 => k_is)
    (case nC4 => k_is)
    (case nC5 => k_is)
    (case pg0 => k_is)
    (case hd0 => k_is)
    (case po0 => k_is)
    (case sa0 => k_is)
    (case ca0 => k_is)
    (case cg => k_is)
    (case ck => k_is)
    (case cm0 => k_is)
    (case ic0 => k_is)
    (case ty0 => k_is)
    (case kt0_0 => k_is)
    (case pg1 => k_is)
    (case hd1 => k_is)
    (case po1 => k_is)
    (case sa1 => k_is)
    (case no1_0 => k_is)
    (case ca1 => k_is)
    (case cm1 => k_is)
    (case kt1_0 => k_is)
    (case pg2 => k_is)
    (case hd2 => k_is)
    (case po2 => k_is)
    (case sa2 => k_is)
    (case ca2 => k_is)
    (case cm2 => k_is)
    (case kt2_0 => k_is)
    (case pg3 => k_is)
    (case hd3 => k_is)
    (case po3 => k_is)
    (case sa3 => k_is)
    (case no3_0 => k_is)
    (case ca3 => k_is)
    (case cm3 => k_is)
    (case kt3_0 => k_is)
    (case pg4 => k_is)
    (case hd4 => k_is)
    (case po4 => k_is)
    (case sa4 => k_is)
    (case no4_0 => k_is)
    (case ca4 => k_is)
    (case cm4 => k_is)
    (case kt4_0 => k_is)
    (case pg5 => k_is)
    (case hd5 => k_is)
    (case po5 => k_is)
    (case sa5 => k_is)
    (case no5_0 => k_is)
    (case ca5 => k_is)
    (case cm5 => k_is)
    (case ic5 => k_is)
    (case ty5 => k_is)
    (case kt5_5 => k_is)
    (case mk0 => k_is)
    (case in0 => k_is)
    (case ck0 => k_is)
    (case fi29_0_0 => k_is)
    (case l29_0 => k_is)
    (case c29_0 => k_is)
    (case k29_0 => k_is)
    (case fn29_0 => k_is)
    (case fi29_1_0 => k_is)
    (case fi29_1_1 => k_is)
    (case fi29_1_2 => k_is)
    (case fi29_1_3 => k_is)
    (case fi29_1_4 => k_is)
    (case l29_1 => k_is)
    (case c29_1 => k_is)
    (case k29_1 => k_is)
    (case fn29_1 => k_is)
    (case fi29_2_0 => k_is)
    (case fi29_2_1 => k_is)
    (case fi29_2_2 => k_is)
    (case fi29_2_3 => k_is)
    (case fi29_2_4 => k_is)
    (case l29_2 => k_is)
    (case c29_2 => k_is)
    (case k29_2 => k_is)
    (case fn29_2 => k_is)
    (case fi30_0_1 => k_is)
    (case l30_0 => k_is)
    (case c30_0 => k_is)
    (case k30_0 => k_is)
    (case fn30_0 => k_is)
    (case mk1 => k_is)
    (case ck1 => k_is)
    (case t30_0 => k_is)
    (case fi30_1_1 => k_is)
    (case l30_1 => k_is)
    (case c30_1 => k_is)
    (case k30_1 => k_is)
    (case fn30_1 => k_is)
    (case mk2 => k_is)
    (case in2 => k_is)
    (case ck2 => k_is)
    (case fi31_0_2 => k_is)
    (case l31_0 => k_is)
    (case c31_0 => k_is)
    (case k31_0 => k_is)
    (case fn31_0 => k_is)
    (case fi32_0_3 => k_is)
    (case l32_0 => k_is)
    (case c32_0 => k_is)
    (case k32_0 => k_is)
    (case fn32_0 => k_is)
    (case mk3 => k_is)
    (case ck3 => k_is)
    (case fi32_1_3 => k_is)
    (case l32_1 => k_is)
    (case c32_1 => k_is)
    (case k32_1 => k_is)
    (case fn32_1 => k_is)
    (case fi33_0_4 => k_is)
    (case l33_0 => k_is)
    (case c33_0 => k_is)
    (case k33_0 => k_is)
    (case fn33_0 => k_is)
    (case mk4 => k_is)
    (case ck4 => k_is)
    (case fi33_1_4 => k_is)
    (case l33_1 => k_is)
    (case c33_1 => k_is)
    (case k33_1 => k_is)
    (case fn33_1 => k_is)
    (case fi23_0_5 => k_is)
    (case l23_0 => k_is)
    (case c23_0 => k_is)
    (case k23_0 => k_is)
    (case fn23_0 => k_is)
    (case mk5 => k_is)
    (case ck5 => k_is)
    (case fi23_1_5 => k_is)
    (case l23_1 => k_is)
    (case c23_1 => k_is)
    (case k23_1 => k_is)
    (case fn23_1 => k_is)
    (case fi23_2_5 => k_is)
    (case l23_2 => k_is)
    (case c23_2 => k_is)
    (case k23_2 => k_is)
    (case fn23_2 => k_is)
    (case fi23_3_5 => k_is)
    (case l23_3 => k_is)
    (case c23_3 => k_is)
    (case k23_3 => k_is)
    (case fn23_3 => k_is)
    (case fi23_4_5 => k_is)
    (case l23_4 => k_is)
    (case c23_4 => k_is)
    (case k23_4 => k_is)
    (case fn23_4 => k_is)
    (case fi23_5_5 => k_is)
    (case l23_5 => k_is)
    (case c23_5 => k_is)
    (case k23_5 => k_is)
    (case fn23_5 => k_is)
    (case fi23_6_5 => k_is)
    (case l23_6 => k_is)
    (case c23_6 => k_is)
    (case k23_6 => k_is)
    (case fn23_6 => k_is)
    (case fi23_7_5 => k_is)
    (case l23_7 => k_is)
    (case c23_7 => k_is)
    (case k23_7 => k_is)
    (case fn23_7 => k_is)

