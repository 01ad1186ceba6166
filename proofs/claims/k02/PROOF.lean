import PyProof.Rows.All
import Wide.All
import OpenK.AllK
import Wide.FinOn
import Lean
import PyProof.EqAt
import PyProof.EqKinds
import PyProof.TupleCall
import PySem.Challenge.RW_sixcells_k02_refused
set_option Elab.async false
set_option linter.all false
set_option maxRecDepth 100000
-- CHANGE: your row's module here, as the last of these rows
/-! THE HAND LAYER, for ints, bools, texts, own classes, LISTS and tuples (index, slices, in, append, pop ..), calls, loops. Paste it whole ahead of your own text; what your proof does not reach may be deleted. -/
namespace L2
open PySem PySem.Spec PyProof.Rows

/-- a key: an int or a str -/
abbrev Key := Sum Int Str
def keyIs : Key → Value → Bool
  | .inl k, v => Value.isInt k v
  | .inr x, v => Value.isStrOf x v
def keyH (w : World) : Key → Int
  | .inl k => hashInt k
  | .inr x => hashStr w x
theorem keyIs_shape : ∀ {k : Key} {v : Value}, keyIs k v = true → (∃ i t, k = Sum.inl i ∧ v = Value.int i t) ∨ (∃ x t, k = Sum.inr x ∧ v = Value.str x t)
  | .inl i, v, h => by
    obtain ⟨t, e⟩ := Value.isInt_shape (k := i) (v := v) h
    exact .inl ⟨i, t, rfl, e⟩
  | .inr x, v, h => by
    obtain ⟨t, e⟩ := Value.isStrOf_shape (x := x) (v := v) h
    exact .inr ⟨x, t, rfl, e⟩
theorem key_ll (a b : Int) : decide ((Sum.inl a : Key) = Sum.inl b) = (a == b) := by
  by_cases e : a = b
  · subst e; simp
  · have h : ¬ (Sum.inl a : Key) = Sum.inl b := fun q => e (Sum.inl.inj q)
    rw [decide_eq_false h]
    exact (beq_eq_false_iff_ne.mpr e).symm
theorem key_rr (a b : Str) : decide ((Sum.inr a : Key) = Sum.inr b) = decide (a = b) := by
  by_cases e : a = b
  · subst e; simp
  · have h : ¬ (Sum.inr a : Key) = Sum.inr b := fun q => e (Sum.inr.inj q)
    rw [decide_eq_false h, decide_eq_false e]
theorem key_lr (a : Int) (b : Str) : decide ((Sum.inl a : Key) = Sum.inr b) = false := decide_eq_false (fun q => nomatch q)
theorem key_rl (a : Str) (b : Int) : decide ((Sum.inr a : Key) = Sum.inl b) = false := decide_eq_false (fun q => nomatch q)

def mixKind (prog : Program) (w : World) : PySem.KeyKind prog w Key where
  is := keyIs
  hash := keyH w
  inj := fun v a b ha hb => by
    rcases keyIs_shape ha with ⟨i, t, rfl, rfl⟩ | ⟨x, t, rfl, rfl⟩
    · rcases keyIs_shape hb with ⟨j, u, rfl, e⟩ | ⟨y, u, rfl, e⟩
      · injection e with e1 _; rw [e1]
      · exact nomatch e
    · rcases keyIs_shape hb with ⟨j, u, rfl, e⟩ | ⟨y, u, rfl, e⟩
      · exact nomatch e
      · injection e with e1 _; rw [e1]
  byValue := fun k v h => by
    rcases keyIs_shape h with ⟨i, t, rfl, rfl⟩ | ⟨x, t, rfl, rfl⟩ <;> rfl
  pyHash := fun hv h => by
    rcases keyIs_shape hv with ⟨i, t, rfl, rfl⟩ | ⟨x, t, rfl, rfl⟩
    · exact wpAny_pyHash_int h
    · exact wpAny_pyHash_str h
  eqBool := fun hu hv h => by
    rcases keyIs_shape hu with ⟨i, t, rfl, rfl⟩ | ⟨x, t, rfl, rfl⟩
    · rcases keyIs_shape hv with ⟨j, u, rfl, rfl⟩ | ⟨y, u, rfl, rfl⟩
      · rw [key_ll] at h; exact wpAny_eqBool_int h
      · rw [key_lr] at h; exact SeqAt.EqAt.int_str i t y u _ _ _ _ h
    · rcases keyIs_shape hv with ⟨j, u, rfl, rfl⟩ | ⟨y, u, rfl, rfl⟩
      · rw [key_rl] at h; exact SeqAt.EqAt.str_int x t j u _ _ _ _ h
      · rw [key_rr] at h; exact wpAny_eqBool_str h
  «strs» := fun k x t v h => by
    rcases keyIs_shape h with ⟨i, u, rfl, e⟩ | ⟨y, u, rfl, e⟩
    · exact nomatch e
    · injection e with e1 _
      subst e1
      cases v <;> rfl

end L2

namespace L2
open PySem PySem.Spec PyProof.Rows

/-- a value, without the heap -/
inductive V where
  | non | bl (b : Bool) | int (i : Int) | str (x : Str) | byt (b : Array UInt8) | flt (b : UInt64) | ref (a : Addr) | ty (n : String)
  deriving DecidableEq

def RelV : V → Value → Prop
  | .non, u => u = Value.none
  | .bl b, u => u = Value.bool b
  | .int i, u => ∃ t, u = Value.int i t
  | .str x, u => ∃ t, u = Value.str x t
  | .byt b, u => ∃ t, u = Value.bytes b t
  | .flt b, u => ∃ t, u = Value.float b t
  | .ref a, u => u = Value.ref a
  | .ty n, u => u = Value.type n

abbrev Vals : List V → List Value → Prop := Paired RelV
theorem Vals.length {xs : List V} {us : List Value} (r : Vals xs us) : xs.length = us.length := Paired.length r
theorem Vals.get : ∀ {xs : List V} {us : List Value} {i : Nat} {x : V}, Vals xs us → xs[i]? = some x → ∃ u, us[i]? = some u ∧ RelV x u
  | _, _, _, _, .nil, e => by simp at e
  | _, _, 0, _, .cons r _, e => by simp at e; subst e; exact ⟨_, rfl, r⟩
  | _, _, i + 1, x, .cons _ t, e => by
    obtain ⟨u, h1, h2⟩ := Vals.get (i := i) (x := x) t (by simpa using e)
    exact ⟨u, by simpa using h1, h2⟩
theorem Vals.set {x : V} {u : Value} (r : RelV x u) : ∀ {xs : List V} {us : List Value} (i : Nat), Vals xs us → Vals (xs.set i x) (us.set i u)
  | _, _, _, .nil => .nil
  | _, _, 0, .cons _ t => .cons r t
  | _, _, i + 1, .cons q t => .cons q (Vals.set r i t)
theorem Vals.append : ∀ {xs ys : List V} {us ws : List Value}, Vals xs us → Vals ys ws → Vals (xs ++ ys) (us ++ ws)
  | _, _, _, _, .nil, s => s
  | _, _, _, _, .cons r t, s => .cons r (Vals.append t s)
theorem Vals.take : ∀ {xs : List V} {us : List Value} (n : Nat), Vals xs us → Vals (xs.take n) (us.take n)
  | _, _, 0, _ => .nil
  | _, _, _ + 1, .nil => .nil
  | _, _, n + 1, .cons r t => .cons r (Vals.take n t)
theorem Vals.drop : ∀ {xs : List V} {us : List Value} (n : Nat), Vals xs us → Vals (xs.drop n) (us.drop n)
  | _, _, 0, r => r
  | _, _, _ + 1, .nil => .nil
  | _, _, n + 1, .cons _ t => Vals.drop n t
def RelO : Option V → Option Value → Prop
  | some v, some u => RelV v u
  | none, none => True
  | _, _ => False
def KV {κ : Type} : List (κ × V) → List (κ × Value) → Prop := Paired fun (p : κ × V) (q : κ × Value) => p.1 = q.1 ∧ RelV p.2 q.2

/-- a key of a dict (00_mix): an int or a text -/
def kV : Key → V
  | .inl i => .int i
  | .inr x => .str x

/-- what stands at a tracked address -/
inductive HO where
  /-- a list -/
  | lst (xs : List V)
  /-- a tuple (never changes) -/
  | tup (xs : List V)
  /-- a dict whose keys are ints and texts; one whose keys are tuples of ints and texts (the empty one is both) -/
  | dK (kvs : List (Key × V)) | dT (kvs : List (List Key × V))
  /-- a set of ints: its members, its size -/
  | set (S : Int → Bool) (n : Nat)
  /-- an instance of the class at C, its dict at dx, its attributes -/
  | ins (C dx : Addr) (fs : List (Str × V))
  /-- the dict of the instance at x -/
  | own (x : Addr)
  /-- the dict of an exception -/
  | xd (fs : List (Str × V))
  /-- a bound method, f of x -/
  | met (f x : Addr)
  /-- a range object lo, lo + 1, .. below hi -/
  | rng (lo hi : Int)
  /-- a thing that is known to the object (the script; a dict while a loop walks it): read, never written while it is so -/
  | frz (o : Obj) (u : HO)
  /-- a code object's table -/
  | tbl (ps : Array Value)
  /-- any other thing, by what is true of its one object (a def of one's own: SetO a S n := HO.ext fun h => ..) -/
  | ext (φ : Heap → Prop)

abbrev Hp := Addr → Option HO
def upd (H : Hp) (a : Addr) (o : HO) : Hp := fun b => if b = a then some o else H b
theorem upd_same {H : Hp} {a : Addr} {o : HO} : upd H a o a = some o := by unfold upd; rw [if_pos rfl]
theorem upd_ne {H : Hp} {a b : Addr} {o : HO} (h : b ≠ a) : upd H a o b = H b := by unfold upd; rw [if_neg h]
/-- two objects of different content stand apart -/
theorem ne_of {H : Hp} {a b : Addr} {o u : HO} (h : H a = some o) (h' : H b = some u) (d : o ≠ u) : a ≠ b := by
  intro e; subst e; rw [h] at h'; exact d (Option.some.inj h')
theorem ne_of_none {H : Hp} {a b : Addr} {o : HO} (h : H a = some o) (h' : H b = none) : a ≠ b := by
  intro e; subst e; rw [h] at h'; cases h'

section
variable (P : Program) (w : World)
def ObjOk (H : Hp) (h : Heap) (a : Addr) : HO → Prop
  | .lst xs => xs.length ≤ sizeLine ∧ ∃ (its : List Value) (n : Nat), Vals xs its ∧ h.get? a = some { cls := .type "list", data := .seq its.toArray n }
  | .tup xs => xs.length ≤ sizeLine ∧ ∃ its : List Value, Vals xs its ∧ IsTup h a its.toArray
  | .dK kvs => kvs.length ≤ sizeLine ∧ (a == sysModules) = false ∧ ∃ vs, KV kvs vs ∧ h.DictOf (mixKind P w) a vs
  | .dT kvs => kvs.length ≤ sizeLine ∧ (a == sysModules) = false ∧ ∃ xs : List (List Key × Addr × Value),
      Paired (fun (p : List Key × V) (q : List Key × Addr × Value) => p.1 = q.1 ∧ H q.2.1 = some (.tup (p.1.map kV)) ∧ RelV p.2 q.2.2) kvs xs ∧
      ∃ o es ep, h.get? a = some o ∧ o.ExactDict ∧ o.data = .dict es ep ∧ es.toList = xs.map (entryOfKey (tupleKind (mixKind P w))) ∧ (xs.map (·.1)).Nodup
  | .set S n => h.SetOf (intKind P w) a S n
  | .ins C dx fs => H dx = some (.own a) ∧ fs.length ≤ 1000 ∧ dx ≠ a ∧ h.get? a = some (PySem.W.instObj C dx) ∧
      ∃ mA, h.Ns1 dx mA ∧ (∀ f, RelO (fs.lookup f) (mA f)) ∧ PySem.Within mA (fs.map (·.1))
  | .own _ => ∃ o, h.get? a = some o
  | .xd fs => ∃ mA, h.Ns1 a mA ∧ ∀ f, RelO (fs.lookup f) (mA f)
  | .rng lo hi => ∃ t u v, h.get? a = some { cls := .type "range", data := .fields #[.int lo t, .int hi u, .int 1 v] }
  | .frz o u => h.get? a = some o ∧ ObjOk H h a u
  | .tbl ps => h.get? a = some { cls := .none, data := .fields ps }
  | .met f x => h.get? a = some (PySem.W.methodObj (.ref f) (.ref x))
  | .ext φ => φ h ∧ (∃ o, h.get? a = some o) ∧ ∀ h1 h2 : Heap, φ h1 → (∀ o, h1.get? a = some o → h2.get? a = some o) → φ h2
/-- the abstract heap is held -/
def HOk (H : Hp) (h : Heap) : Prop := ∀ a o, H a = some o → ObjOk P w H h a o
end

section
variable {P : Program} {w : World} {H H' : Hp} {h h' : Heap} {a : Addr} {o : HO}
theorem ObjOk.lt (x : ObjOk P w H h a o) : a < h.objs.size := by
  cases o with
  | lst xs => obtain ⟨_, _, _, _, e⟩ := x; exact Heap.lt_size e
  | tup xs => obtain ⟨_, _, _, p⟩ := x; exact p.lt
  | dK kvs => obtain ⟨_, _, _, _, o, _, _, e, _⟩ := x; exact Heap.lt_size e
  | dT kvs => obtain ⟨_, _, _, _, o, _, _, e, _⟩ := x; exact Heap.lt_size e
  | set S n => obtain ⟨o, _, _, _, e, _⟩ := x; exact Heap.lt_size e
  | ins C dx fs => obtain ⟨_, _, _, e, _⟩ := x; exact Heap.lt_size e
  | own y => obtain ⟨_, e⟩ := x; exact Heap.lt_size e
  | xd fs => obtain ⟨_, ⟨_, _, _, e, _⟩, _⟩ := x; exact Heap.lt_size e
  | rng lo hi => obtain ⟨_, _, _, e⟩ := x; exact Heap.lt_size e
  | frz ob u => obtain ⟨e, _⟩ := x; exact Heap.lt_size e
  | tbl ps => exact Heap.lt_size (show h.get? a = some _ from x)
  | met f y => exact Heap.lt_size (show h.get? a = some _ from x)
  | ext φ => obtain ⟨_, ⟨_, e⟩, _⟩ := x; exact Heap.lt_size e
theorem Paired.mapP {α β : Type} {F G : α → β → Prop} : ∀ {l₁ : List α} {l₂ : List β}, Paired F l₁ l₂ → (∀ a b, F a b → G a b) → Paired G l₁ l₂
  | _, _, .nil, _ => .nil
  | _, _, .cons r t, f => .cons (f _ _ r) (Paired.mapP t f)
/-- what an object's description leans on: its own object, its own dict, the tuples -/
theorem ObjOk.stay (x : ObjOk P w H h a o) (k : ∀ b u, (b = a ∨ H b = some (.own a)) → h.get? b = some u → h'.get? b = some u)
    (ho : ∀ b, H b = some (.own a) → H' b = some (.own a)) (ht : ∀ b xs, H b = some (.tup xs) → H' b = some (.tup xs)) : ObjOk P w H' h' a o := by
  induction o with
  | lst xs => obtain ⟨z, its, n, r, e⟩ := x; exact ⟨z, its, n, r, k _ _ (.inl rfl) e⟩
  | tup xs => obtain ⟨z, its, r, ob, e, c⟩ := x; exact ⟨z, its, r, ob, k _ _ (.inl rfl) e, c⟩
  | dK kvs => obtain ⟨z, y, vs, r, ob, es, ep, e, c⟩ := x; exact ⟨z, y, vs, r, ob, es, ep, k _ _ (.inl rfl) e, c⟩
  | dT kvs =>
    obtain ⟨z, y, xs, r, ob, es, ep, e, c⟩ := x
    exact ⟨z, y, xs, Paired.mapP r fun p q z => ⟨z.1, ht _ _ z.2.1, z.2.2⟩, ob, es, ep, k _ _ (.inl rfl) e, c⟩
  | set S n => obtain ⟨ob, es, ep, t, e, c⟩ := x; exact ⟨ob, es, ep, t, k _ _ (.inl rfl) e, c⟩
  | ins C dx fs =>
    obtain ⟨d, z, ne, e, mA, ⟨od, es, ep, e2, c⟩, r⟩ := x
    exact ⟨ho _ d, z, ne, k _ _ (.inl rfl) e, mA, ⟨od, es, ep, k _ _ (.inr d) e2, c⟩, r⟩
  | own y => obtain ⟨ob, e⟩ := x; exact ⟨ob, k _ _ (.inl rfl) e⟩
  | xd fs => obtain ⟨mA, ⟨od, es, ep, e, c⟩, r⟩ := x; exact ⟨mA, ⟨od, es, ep, k _ _ (.inl rfl) e, c⟩, r⟩
  | rng lo hi => obtain ⟨t, u, v, e⟩ := x; exact ⟨t, u, v, k _ _ (.inl rfl) e⟩
  | frz ob u ih => obtain ⟨e, q⟩ := x; exact ⟨k _ _ (.inl rfl) e, ih q⟩
  | tbl ps =>
    have e : h.get? a = some { cls := .none, data := .fields ps } := x
    show h'.get? a = some { cls := .none, data := .fields ps }
    exact k a _ (.inl rfl) e
  | met f y =>
    have e : h.get? a = some (PySem.W.methodObj (.ref f) (.ref y)) := x
    show h'.get? a = some (PySem.W.methodObj (.ref f) (.ref y))
    exact k a _ (.inl rfl) e
  | ext φ => obtain ⟨p, ⟨o, e⟩, st⟩ := x; exact ⟨st _ _ p fun o q => k _ _ (.inl rfl) q, ⟨o, k _ _ (.inl rfl) e⟩, st⟩
theorem HOk.lt (x : HOk P w H h) (e : H a = some o) : a < h.objs.size := (x a o e).lt
theorem HOk.fresh (x : HOk P w H h) (e : h.objs.size ≤ a) : H a = none := by
  cases q : H a with
  | none => rfl
  | some u => exact absurd (Nat.lt_of_lt_of_le (x.lt q) e) (Nat.lt_irrefl _)
/-- every object of the heap is kept -/
theorem HOk.kept (x : HOk P w H h) (k : ∀ b u, h.get? b = some u → h'.get? b = some u) : HOk P w H h' := fun a o e =>
  (x a o e).stay (fun b u _ q => k b u q) (fun _ q => q) fun _ _ q => q
/-- a new object is laid and tracked -/
theorem HOk.laid (x : HOk P w H h) (k : ∀ b u, h.get? b = some u → h'.get? b = some u) (hp : h.objs.size ≤ a) (new : ObjOk P w (upd H a o) h' a o) : HOk P w (upd H a o) h' := fun b u e => by
  have hn := x.fresh hp
  by_cases hb : b = a
  · subst hb; rw [upd_same] at e; cases e; exact new
  · rw [upd_ne hb] at e
    exact (x b u e).stay (fun c v _ q => k c v q) (fun c q => by rw [upd_ne (ne_of_none q hn)]; exact q) fun c xs q => by rw [upd_ne (ne_of_none q hn)]; exact q
end

/-- what may be read as u: it is u, or a known u -/
def Rd (H : Hp) (a : Addr) (u : HO) : Prop := H a = some u ∨ ∃ o, H a = some (.frz o u)
theorem Rd.ok {P : Program} {w : World} {H : Hp} {h : Heap} {a : Addr} {u : HO} (r : Rd H a u) (x : HOk P w H h) : ObjOk P w H h a u := by
  rcases r with r | ⟨o, r⟩
  · exact x a u r
  · obtain ⟨_, q⟩ := x a _ r
    exact q
/-- what may be written -/
def Mut : Option HO → Prop
  | some (.lst _) => True
  | some (.dK _) => True
  | some (.dT _) => True
  | some (.set _ _) => True
  | some (.ins _ _ _) => True
  | some (.ext _) => True
  | _ => False
section
variable {P : Program} {w : World} {H : Hp} {h h' : Heap} {x e : Addr} {o' : HO}
/-- the object at e is changed: x itself, or the dict of the instance x -/
theorem HOk.write (ok : HOk P w H h) (mu : Mut (H x)) (he : e = x ∨ H e = some (.own x)) (k : ∀ b u, b ≠ e → h.get? b = some u → h'.get? b = some u) (heo : ∃ u, h'.get? e = some u)
    (new : ObjOk P w (upd H x o') h' x o') : HOk P w (upd H x o') h' := fun b u q => by
  have nown : ∀ c y, H c = some (.own y) → c ≠ x := fun c y r z => by subst z; rw [r] at mu; exact mu
  have ntup : ∀ c xs, H c = some (.tup xs) → c ≠ x := fun c xs r z => by subst z; rw [r] at mu; exact mu
  by_cases hb : b = x
  · subst hb; rw [upd_same] at q; cases q; exact new
  · rw [upd_ne hb] at q
    by_cases hbe : b = e
    · have q' : H b = some (.own x) := by
        rcases he with z | z
        · exact absurd (hbe.trans z) hb
        · rw [hbe]; exact z
      rw [q] at q'; cases q'
      obtain ⟨v, hv⟩ := heo
      exact ⟨v, by rw [hbe]; exact hv⟩
    · refine (ok b u q).stay (fun c v hc r => k c v ?_ r) (fun c r => by rw [upd_ne (nown c b r)]; exact r) fun c xs r => by rw [upd_ne (ntup c xs r)]; exact r
      rcases hc with rfl | hc
      · exact hbe
      · rintro rfl
        rcases he with z | z
        · exact nown c b hc z
        · rw [hc] at z; cases z; exact hb rfl
end

/-! ### kept unless tracked; of the frames at fs (the callers') the slots may change (an exception that passes writes there); of the records at ex (iterators) nothing is said -/
structure Un (fs ex : List Addr) (H H' : Hp) (h h' : Heap) : Prop where
  keep : ∀ b o, h.get? b = some o → H b = none → b ∉ fs → b ∉ ex → h'.get? b = some o
  slot : ∀ b o, h.get? b = some o → H b = none → b ∈ fs → b ∉ ex → ∃ sl, h'.get? b = some { o with slots := sl }
  free : ∀ b o, h.get? b = some o → H b = none → b ∉ ex → H' b = none
  there : ∀ b o, h.get? b = some o → b ∉ ex → ∃ o', h'.get? b = some o'
  tups : ∀ b xs, H b = some (.tup xs) → H' b = some (.tup xs)
  frzs : ∀ b o u, H b = some (.frz o u) → H' b = some (.frz o u)
  tbls : ∀ b ps, H b = some (.tbl ps) → ∃ more, H' b = some (.tbl (ps ++ more))
section
variable {fs fs' ex ex' : List Addr} {H H1 H2 : Hp} {h h1 h2 h' : Heap} {a x e : Addr} {o : HO}
theorem Un.any (u : Un fs ex H H1 h h1) {b : Addr} {ob : Obj} (q : h.get? b = some ob) (n : H b = none) (hx : b ∉ ex) : ∃ sl, h1.get? b = some { ob with slots := sl } := by
  by_cases hb : b ∈ fs
  · exact u.slot b ob q n hb hx
  · exact ⟨ob.slots, u.keep b ob q n hb hx⟩
theorem Un.kept (k : ∀ b u, h.get? b = some u → h'.get? b = some u) : Un fs ex H H h h' :=
  ⟨fun b ob q _ _ _ => k b ob q, fun b ob q _ _ _ => ⟨ob.slots, k b ob q⟩, fun _ _ _ n _ => n, fun b ob q _ => ⟨ob, k b ob q⟩, fun _ _ q => q, fun _ _ _ q => q, fun _ ps q => ⟨#[], by rw [q]; simp⟩⟩
theorem Un.refl : Un fs ex H H h h := Un.kept fun _ _ q => q
theorem Un.laid (k : ∀ b u, h.get? b = some u → h'.get? b = some u) (hp : h.objs.size ≤ a) (hn : H a = none) : Un fs ex H (upd H a o) h h' where
  keep := fun b u q _ _ _ => k b u q
  slot := fun b u q _ _ _ => ⟨u.slots, k b u q⟩
  free := fun b u q n _ => by rw [upd_ne (Nat.ne_of_lt (Nat.lt_of_lt_of_le (Heap.lt_size q) hp))]; exact n
  there := fun b u q _ => ⟨u, k b u q⟩
  tups := fun b xs q => by rw [upd_ne (ne_of_none q hn)]; exact q
  frzs := fun b u xs q => by rw [upd_ne (ne_of_none q hn)]; exact q
  tbls := fun b ps q => ⟨#[], by rw [upd_ne (ne_of_none q hn), q]; simp⟩
theorem Un.write (mu : Mut (H x)) (he : e = x ∨ H e = some (.own x)) (k : ∀ b u, b ≠ e → h.get? b = some u → h'.get? b = some u) (heo : ∃ u, h'.get? e = some u) : Un fs ex H (upd H x o) h h' := by
  have hx : ∀ b, H b = none → b ≠ x := fun b n z => by subst z; rw [n] at mu; exact mu
  have hb : ∀ b, H b = none → b ≠ e := fun b n z => by
    subst z
    rcases he with r | r
    · exact hx b n r
    · rw [n] at r; cases r
  have hm : ∀ b u, H b = some u → ¬ Mut (some u) → b ≠ x := fun b u q nm z => by subst z; rw [q] at mu; exact nm mu
  refine ⟨fun b u q n _ _ => k b u (hb b n) q, fun b u q n _ _ => ⟨u.slots, k b u (hb b n) q⟩, fun b u q n _ => by rw [upd_ne (hx b n)]; exact n, fun b u q _ => ?_,
    fun b xs q => by rw [upd_ne (hm b _ q fun z => z)]; exact q, fun b u xs q => by rw [upd_ne (hm b _ q fun z => z)]; exact q, fun b ps q => ⟨#[], by rw [upd_ne (hm b _ q fun z => z), q]; simp⟩⟩
  by_cases hbe : b = e
  · subst hbe; exact heo
  · exact ⟨u, k b u hbe q⟩
end

/-! ### the heap without what is tracked -/
def trk (h : Heap) (H : Hp) : List Addr := (List.range h.objs.size).filter fun a => (H a).isSome
def hidT (h : Heap) (H : Hp) : Heap := PySem.W.hideAll h (trk h H)
theorem hidT_size (h : Heap) (H : Hp) : (hidT h H).objs.size = h.objs.size := PySem.W.hideAll_size _ _
theorem hidT_get {h : Heap} {H : Hp} {b : Addr} {o : Obj} (e : h.get? b = some o) (n : H b = none) : (hidT h H).get? b = some o :=
  PySem.W.hideAll_get _ e fun hm => by
    have q : (H b).isSome = true := (List.mem_filter.mp hm).2
    rw [n] at q; simp at q
theorem of_hidT {h : Heap} {H : Hp} {b : Addr} {o : Obj} (e : (hidT h H).get? b = some o) : h.get? b = some o ∧ H b = none := by
  have e' : h.get? b = some o := PySem.W.of_hideAll (trk h H) e
  refine ⟨e', ?_⟩
  cases q : H b with
  | none => rfl
  | some x =>
    have hm : b ∈ trk h H := List.mem_filter.mpr ⟨List.mem_range.mpr (Heap.lt_size e'), by simp [q]⟩
    have z : (hidT h H).get? b = none := PySem.W.hideAll_none (trk h H) hm
    rw [z] at e; cases e

/-! ### OpenK's ledger, filled with every new object but one -/
end L2

namespace L2
open PySem PySem.Spec PyProof.Rows

/-- the module's facts, over the base: the heap at the law's entry without what is tracked there -/
structure Mod (K : PySem.W.Frag) (mg : Str → Option Value) (base : Heap) : Prop where
  kin : K.In base
  glob : base.Ns mainGlobals mg
  blt : ∃ mb, base.Ns builtinsNs mb ∧ ∀ x : Str, x ≠ "__name__" → mb x = bootBuiltins x
  nolimit : base.NoLimit

/-- the context: a def's body (or a comprehension's block) running. base: fixed through the whole law; s₀, H₀: the entry; outer: the frames whose slots others may change (a def's callers); stack: all frames that run;
   ex: iterators that were made ahead of the entry and are walked here (a comprehension's); fn: the names whose cells were made at the entry (a def: all; a comprehension's block: its own); calm: not within an except suite; pn: pins that every state bears; xe: what is wanted of an exception that leaves the code -/
structure Cx where
  prog : Program
  w : World
  K : PySem.W.Frag
  mg : Str → Option Value
  base : Heap
  A : Around
  N : List Str
  s₀ : Shared
  H₀ : Hp
  env : Env
  outer : List Env
  stack : List Env
  ex : List Addr
  fn : Str → Bool
  calm : Bool
  pn : List (Addr × Obj)
  xe : Value → Shared → Prop
/-- the callers' frames -/
def frs (l : List Env) : List Addr := l.filterMap (·.frame)
abbrev Cx.fs (X : Cx) : List Addr := frs X.outer

def Vis (sc : Scope) (x : Str) : Prop := sc.names.lookup x = some .local ∨ sc.names.lookup x = some .cell ∨ sc.names.lookup x = some .free
def Loc (sc : Scope) (x : Str) : Prop := sc.names.lookup x = some .local ∨ sc.names.lookup x = some .cell
def Look (env : Env) (h : Heap) (m : Str → Option Value) (x : Str) (u : Value) : Prop :=
  (env.kindOf x = some .local ∧ m x = some u) ∨ ((env.kindOf x = some .cell ∨ env.kindOf x = some .free) ∧ ∃ c, env.cells.lookup x = some c ∧ h.IsCell c (some u))

structure Cx.Ok (X : Cx) : Prop where
  mod : Mod X.K X.mg X.base
  kind : X.env.scope.kind = .function
  glob : X.env.globals = mainGlobals
  blt : X.env.builtins = builtinsNs
  above : X.s₀.heap.objs.size ≤ X.env.locals
  inj : ∀ x y c, X.env.cells.lookup x = some c → X.env.cells.lookup y = some c → x = y
  has : ∀ x, (X.env.kindOf x = some .cell ∨ X.env.kindOf x = some .free) → ∃ c, X.env.cells.lookup x = some c
  cab : ∀ x c, X.fn x = true → X.env.cells.lookup x = some c → X.s₀.heap.objs.size ≤ c
  hd : X.calm = true → X.A.handled = none
  frames : X.A.frames = some X.stack
  stk : X.stack = X.outer ∨ (X.stack = X.env :: X.outer ∧ X.env.frame = some X.env.locals)
  exf : ∀ b ∈ X.ex, b ≠ X.env.locals ∧ ∀ x c, X.env.cells.lookup x = some c → c ≠ b
  bs : ∀ b o, X.base.get? b = some o → X.s₀.heap.get? b = some o ∧ X.H₀ b = none
  bsz : X.base.objs.size ≤ X.s₀.heap.objs.size
  noex : ∀ b o, X.base.get? b = some o → b ∉ X.ex
  exfs : ∀ b ∈ X.ex, b ∉ X.fs
  funs : X.s₀.heap.FunFrames X.base X.outer
  frf : ∀ b ∈ X.fs, X.H₀ b = none

structure Inv (X : Cx) (pins : List (Addr × Obj)) (σ : List (Option V)) (H : Hp) (s : Shared) : Prop where
  ok : X.Ok
  os : s.os = X.s₀.os
  bare : AllBare s.gens
  base : Un X.fs X.ex X.H₀ H X.s₀.heap s.heap
  loc : ∃ m, s.heap.Ns X.env.locals m ∧ ∀ (i : Nat) (x : Str) (v : V), X.N[i]? = some x → σ[i]? = some (some v) → Vis X.env.scope x → ∃ u, RelV v u ∧ Look X.env s.heap m x u
  cell : ∀ x c, X.env.cells.lookup x = some c → ∃ v, s.heap.IsCell c v
  free : H X.env.locals = none
  freeC : ∀ x c, X.env.cells.lookup x = some c → H c = none
  pin : ∀ p ∈ X.pn ++ pins, s.heap.get? p.1 = some p.2 ∧ H p.1 = none ∧ p.1 ≠ X.env.locals ∧ p.1 ∉ X.fs ∧ ∀ v, p.2.data ≠ .cell v
  hok : HOk X.prog X.w H s.heap
  len : σ.length = X.N.length

section
variable {X : Cx} {pins : List (Addr × Obj)} {σ : List (Option V)} {H H' : Hp} {s : Shared} {h' : Heap}

theorem Cx.Ok.nofr (ok : X.Ok) {b : Addr} {o : Obj} (e : X.base.get? b = some o) : b ∉ X.fs := fun hb => by
  have := (ok.funs.mem hb).1
  rw [e] at this; cases this
theorem Inv.bs (I : Inv X pins σ H s) : ∀ b o, X.base.get? b = some o → s.heap.get? b = some o ∧ H b = none := fun b o e =>
  ⟨I.base.keep b o (I.ok.bs b o e).1 (I.ok.bs b o e).2 (I.ok.nofr e) (I.ok.noex b o e), I.base.free b o (I.ok.bs b o e).1 (I.ok.bs b o e).2 (I.ok.noex b o e)⟩
theorem Inv.bk (I : Inv X pins σ H s) : ∀ b o, X.base.get? b = some o → s.heap.get? b = some o := fun b o e => (I.bs b o e).1
theorem Inv.mod (I : Inv X pins σ H s) : Mod X.K X.mg X.base := I.ok.mod
theorem Inv.kIn (I : Inv X pins σ H s) : X.K.In s.heap := I.ok.mod.kin.keeps I.bk
theorem Inv.lt (I : Inv X pins σ H s) : X.env.locals < s.heap.objs.size := let ⟨_, hn, _⟩ := I.loc; hn.lt
theorem Inv.sz (I : Inv X pins σ H s) : X.s₀.heap.objs.size ≤ s.heap.objs.size := Nat.le_trans I.ok.above (Nat.le_of_lt I.lt)
theorem Inv.nofs (I : Inv X pins σ H s) {a : Addr} (h : s.heap.objs.size ≤ a) : a ∉ X.fs := fun hb => by
  obtain ⟨_, o, ho, _⟩ := I.ok.funs.mem hb
  exact absurd (Nat.lt_of_lt_of_le (Heap.lt_size ho) (Nat.le_trans I.sz h)) (Nat.lt_irrefl _)
theorem Inv.cne (I : Inv X pins σ H s) : ∀ x c, X.env.cells.lookup x = some c → c ≠ X.env.locals := fun x c e z => by
  obtain ⟨v, o, ho, hd⟩ := I.cell x c e
  obtain ⟨m, ⟨o', es, ep, ho', hd', _⟩, _⟩ := I.loc
  rw [z, ho'] at ho; cases ho; rw [hd'] at hd; cases hd
theorem Inv.funs (I : Inv X pins σ H s) : s.heap.FunFrames X.base X.outer := by
  have all : ∀ (l : List Env), (∀ b ∈ frs l, b ∈ X.fs) → X.s₀.heap.FunFrames X.base l → s.heap.FunFrames X.base l := by
    intro l
    induction l with
    | nil => intro _ _; trivial
    | cons env r ih =>
      intro hs hl
      obtain ⟨hk, ⟨L, o, hf, hn, ho, hd⟩, hr⟩ := hl
      have hL : L ∈ X.fs := hs L (by unfold frs; rw [List.filterMap_cons, hf]; exact List.mem_cons_self)
      obtain ⟨sl, e⟩ := I.base.slot L o ho (I.ok.frf L hL) hL fun z => I.ok.exfs L z hL
      exact ⟨hk, ⟨L, _, hf, hn, e, hd⟩, ih (fun b hb => hs b (by unfold frs; rw [List.filterMap_cons, hf]; exact List.mem_cons_of_mem _ hb)) hr⟩
  exact all X.outer (fun _ hb => hb) I.ok.funs

/-- the frames that run, for a call -/
theorem Inv.stack (I : Inv X pins σ H s) : s.heap.FunFrames X.base X.stack := by
  rcases I.ok.stk with e | ⟨e, hf⟩
  · rw [e]; exact I.funs
  · rw [e]
    obtain ⟨m, hn, _⟩ := I.loc
    refine .cons (by rw [I.ok.kind]; decide) hf hn ?_ I.funs
    exact Heap.get?_none_of_le (Nat.le_trans I.ok.bsz I.ok.above)
theorem Inv.stkSub (I : Inv X pins σ H s) : ∀ b ∈ frs X.stack, b ∈ X.env.locals :: X.fs := fun b hb => by
  rcases I.ok.stk with e | ⟨e, hf⟩
  · rw [e] at hb; exact List.mem_cons_of_mem _ hb
  · rw [e] at hb
    unfold frs at hb
    rw [List.filterMap_cons, hf] at hb
    exact hb
theorem Inv.stkFree (I : Inv X pins σ H s) : ∀ b ∈ frs X.stack, H b = none := fun b hb => by
  rcases List.mem_cons.mp (I.stkSub b hb) with e | hb
  · rw [e]; exact I.free
  · obtain ⟨_, o, ho, _⟩ := I.ok.funs.mem hb
    exact I.base.free b o ho (I.ok.frf b hb) fun z => I.ok.exfs b z hb

/-- THE STEP: the untracked objects but the frame and the records at ch are kept (the callers' frames up to slots), the frame's map is kept, the new abstract heap is held -/
theorem Inv.step {g' : Array GenState} {t' : Nat} {d' : Drawn} {ch : List Addr} (I : Inv X pins σ H s)
    (hch : ∀ b ∈ ch, (b ∈ X.ex ∨ X.s₀.heap.objs.size ≤ b) ∧ b ≠ X.env.locals ∧ (∀ x c, X.env.cells.lookup x = some c → c ≠ b) ∧ ∀ p ∈ X.pn ++ pins, p.1 ≠ b)
    (keep : ∀ b o, b ≠ X.env.locals → b ∉ X.fs → b ∉ ch → s.heap.get? b = some o → H b = none → h'.get? b = some o)
    (slot : ∀ b o, b ≠ X.env.locals → b ∈ X.fs → b ∉ ch → s.heap.get? b = some o → H b = none → ∃ sl, h'.get? b = some { o with slots := sl }) (free : ∀ b o, b ∉ ch → s.heap.get? b = some o → H b = none → H' b = none)
    (there : ∀ b o, b ∉ ch → s.heap.get? b = some o → ∃ o', h'.get? b = some o')
    (tups : ∀ b xs, H b = some (.tup xs) → H' b = some (.tup xs)) (frzs : ∀ b o u, H b = some (.frz o u) → H' b = some (.frz o u)) (tbls : ∀ b ps, H b = some (.tbl ps) → ∃ more, H' b = some (.tbl (ps ++ more)))
    (ns : ∀ m, s.heap.Ns X.env.locals m → h'.Ns X.env.locals m) (hok : HOk X.prog X.w H' h') (hg : AllBare g') :
    Inv X pins σ H' { s with heap := h', gens := g', drawn := d', toks := t' } := by
  have neL : ∀ b o, X.s₀.heap.get? b = some o → b ≠ X.env.locals := fun b o e => Nat.ne_of_lt (Nat.lt_of_lt_of_le (Heap.lt_size e) I.ok.above)
  have neC : ∀ b o, X.s₀.heap.get? b = some o → b ∉ X.ex → b ∉ ch := fun b o e hx hb => by
    rcases (hch b hb).1 with z | z
    · exact hx z
    · exact absurd (Nat.lt_of_lt_of_le (Heap.lt_size e) z) (Nat.lt_irrefl _)
  have cellK : ∀ x c, X.env.cells.lookup x = some c → ∀ v, s.heap.IsCell c v → h'.IsCell c v := fun x c e v ⟨o, ho, hd⟩ => by
    have nch : c ∉ ch := fun z => (hch c z).2.2.1 x c e rfl
    by_cases hc : c ∈ X.fs
    · obtain ⟨sl, q⟩ := slot c o (I.cne x c e) hc nch ho (I.freeC x c e)
      exact ⟨_, q, hd⟩
    · exact ⟨o, keep c o (I.cne x c e) hc nch ho (I.freeC x c e), hd⟩
  refine ⟨I.ok, I.os, hg, ⟨fun b o e n hb hx => ?_, fun b o e n hb hx => ?_, fun b o e n hx => ?_, fun b o e hx => ?_, fun b xs e => tups b xs (I.base.tups b xs e), fun b o xs e => frzs b o xs (I.base.frzs b o xs e), fun b ps e => ?_⟩, ?_, fun x c e => ?_, ?_, fun x c e => ?_, fun p hp => ?_, hok, I.len⟩
  · exact keep b o (neL b o e) hb (neC b o e hx) (I.base.keep b o e n hb hx) (I.base.free b o e n hx)
  · obtain ⟨sl, e1⟩ := I.base.slot b o e n hb hx
    obtain ⟨sl', e2⟩ := slot b _ (neL b o e) hb (neC b o e hx) e1 (I.base.free b o e n hx)
    exact ⟨sl', e2⟩
  · obtain ⟨o', e1⟩ := I.base.there b o e hx
    exact free b o' (neC b o e hx) e1 (I.base.free b o e n hx)
  · obtain ⟨o', e1⟩ := I.base.there b o e hx
    exact there b o' (neC b o e hx) e1
  · obtain ⟨m1, e1⟩ := I.base.tbls b ps e
    obtain ⟨m2, e2⟩ := tbls b _ e1
    exact ⟨m1 ++ m2, by rw [e2, Array.append_assoc]⟩
  · obtain ⟨m, hn, hl⟩ := I.loc
    refine ⟨m, ns m hn, fun i x v e1 e2 e3 => ?_⟩
    obtain ⟨u, r, l⟩ := hl i x v e1 e2 e3
    refine ⟨u, r, ?_⟩
    rcases l with l | ⟨k, c, e, z⟩
    · exact .inl l
    · exact .inr ⟨k, c, e, cellK x c e _ z⟩
  · obtain ⟨v, z⟩ := I.cell x c e
    exact ⟨v, cellK x c e v z⟩
  · obtain ⟨m, ⟨o, _, _, ho, _⟩, _⟩ := I.loc
    exact free _ o (fun z => (hch _ z).2.1 rfl) ho I.free
  · obtain ⟨v, o, ho, hd⟩ := I.cell x c e
    exact free c o (fun z => (hch c z).2.2.1 x c e rfl) ho (I.freeC x c e)
  · obtain ⟨e, n, ne, nf, d⟩ := I.pin p hp
    have nch : p.1 ∉ ch := fun z => (hch p.1 z).2.2.2 p hp rfl
    exact ⟨keep p.1 p.2 ne nf nch e n, free p.1 p.2 nch e n, ne, nf, d⟩
/-- .. where the frame's own object is kept too -/
theorem Inv.un {t' : Nat} (I : Inv X pins σ H s) (u : Un X.fs [] H H' s.heap h') (hok : HOk X.prog X.w H' h') : Inv X pins σ H' { s with heap := h', toks := t' } := by
  obtain ⟨m, ⟨o, es, ep, ho, r⟩, _⟩ := id I.loc
  obtain ⟨sl, hL⟩ := u.any ho I.free (by simp)
  exact I.step (g' := s.gens) (d' := s.drawn) (ch := []) (fun _ z => nomatch z) (fun b o _ hb _ e n => u.keep b o e n hb (by simp)) (fun b o _ hb _ e n => u.slot b o e n hb (by simp)) (fun b o _ e n => u.free b o e n (by simp)) (fun b o _ e => u.there b o e (by simp)) u.tups u.frzs u.tbls (fun m' hm => by
    obtain ⟨o', es', ep', ho', r'⟩ := hm
    rw [ho] at ho'; cases ho'
    exact ⟨_, es', ep', hL, r'⟩) hok I.bare
/-- behind a call (or a comprehension's block): the slots of this frame may have changed too, the records at ch may have turned -/
theorem Inv.call {g' : Array GenState} {t' : Nat} {d' : Drawn} {ch : List Addr} (I : Inv X pins σ H s) (u : Un (frs X.stack) ch H H' s.heap h') (hok : HOk X.prog X.w H' h') (hg : AllBare g')
    (hch : ∀ b ∈ ch, (b ∈ X.ex ∨ X.s₀.heap.objs.size ≤ b) ∧ b ≠ X.env.locals ∧ (∀ x c, X.env.cells.lookup x = some c → c ≠ b) ∧ ∀ p ∈ X.pn ++ pins, p.1 ≠ b) :
    Inv X pins σ H' { s with heap := h', gens := g', drawn := d', toks := t' } := by
  obtain ⟨m, ⟨o, es, ep, ho, r⟩, _⟩ := id I.loc
  obtain ⟨sl, hL⟩ := u.any ho I.free fun z => (hch _ z).2.1 rfl
  exact I.step (ch := ch) hch (fun b o hL hb hc e n => u.keep b o e n (fun z => (List.mem_cons.mp (I.stkSub b z)).elim hL hb) hc) (fun b o _ _ hc e n => u.any e n hc) (fun b o hc e n => u.free b o e n hc) (fun b o hc e => u.there b o e hc) u.tups u.frzs u.tbls (fun m' hm => by
    obtain ⟨o', es', ep', ho', r'⟩ := hm
    rw [ho] at ho'; cases ho'
    exact ⟨_, es', ep', hL, r'⟩) hok hg
/-- an untracked record of ours (an iterator) has turned -/
theorem Inv.turned {t' : Nat} {it : Addr} (I : Inv X pins σ H s) (k : ∀ b o, b ≠ it → s.heap.get? b = some o → h'.get? b = some o) (hn : H it = none) (hL : it ≠ X.env.locals)
    (h1 : it ∈ X.ex ∨ X.s₀.heap.objs.size ≤ it) (h2 : ∀ x c, X.env.cells.lookup x = some c → c ≠ it) (h3 : ∀ p ∈ X.pn ++ pins, p.1 ≠ it) : Inv X pins σ H { s with heap := h', toks := t' } := by
  have nit : ∀ b u, H b = some u → b ≠ it := fun b u e z => by rw [z, hn] at e; cases e
  refine I.step (g' := s.gens) (d' := s.drawn) (ch := [it]) (fun b hb => ?_) (fun b o _ _ hc e _ => k b o (fun z => hc (by simp [z])) e) (fun b o _ _ hc e _ => ⟨o.slots, k b o (fun z => hc (by simp [z])) e⟩) (fun _ _ _ _ n => n)
    (fun b o hc e => ⟨o, k b o (fun z => hc (by simp [z])) e⟩) (fun _ _ e => e) (fun _ _ _ e => e) (fun b ps e => ⟨#[], by rw [e]; simp⟩) (fun m hm => ?_) (fun b u e => ?_) I.bare
  · have e : b = it := by simpa using hb
    subst e
    exact ⟨h1, hL, h2, h3⟩
  · obtain ⟨o, es, ep, ho, r⟩ := hm
    exact ⟨o, es, ep, k _ o (Ne.symm hL) ho, r⟩
  · refine (I.hok b u e).stay (fun c v hc q => k c v ?_ q) (fun _ q => q) fun _ _ q => q
    rcases hc with z | z
    · rw [z]; exact nit b u e
    · exact nit c _ z
theorem Inv.tok (I : Inv X pins σ H s) (t : Nat) : Inv X pins σ H { s with toks := t } := I.un (h' := s.heap) (t' := t) Un.refl I.hok
/-- all objects kept -/
theorem Inv.kept {t' : Nat} (I : Inv X pins σ H s) (k : ∀ b u, s.heap.get? b = some u → h'.get? b = some u) : Inv X pins σ H { s with heap := h', toks := t' } := I.un (Un.kept k) (I.hok.kept k)
/-- a new object laid and tracked -/
theorem Inv.laid {a : Addr} {o : HO} {t' : Nat} (I : Inv X pins σ H s) (k : ∀ b u, s.heap.get? b = some u → h'.get? b = some u) (hp : s.heap.objs.size ≤ a) (new : ObjOk X.prog X.w (upd H a o) h' a o) :
    Inv X pins σ (upd H a o) { s with heap := h', toks := t' } := I.un (Un.laid k hp (I.hok.fresh hp)) (I.hok.laid k hp new)
/-- an object written -/
theorem Inv.write {x e : Addr} {o : HO} {t' : Nat} (I : Inv X pins σ H s) (mu : Mut (H x)) (he : e = x ∨ H e = some (.own x)) (k : ∀ b u, b ≠ e → s.heap.get? b = some u → h'.get? b = some u) (heo : ∃ u, h'.get? e = some u)
    (new : ObjOk X.prog X.w (upd H x o) h' x o) : Inv X pins σ (upd H x o) { s with heap := h', toks := t' } := I.un (Un.write mu he k heo) (I.hok.write mu he k heo new)
theorem Inv.pins_of {pins' : List (Addr × Obj)} (I : Inv X pins σ H s) (h : ∀ p ∈ pins', s.heap.get? p.1 = some p.2 ∧ H p.1 = none ∧ p.1 ≠ X.env.locals ∧ p.1 ∉ X.fs ∧ ∀ v, p.2.data ≠ .cell v) : Inv X pins' σ H s :=
  ⟨I.ok, I.os, I.bare, I.base, I.loc, I.cell, I.free, I.freeC, fun p hp => (List.mem_append.mp hp).elim (fun z => I.pin p (List.mem_append_left _ z)) (h p), I.hok, I.len⟩

theorem nodup_ix {N : List Str} (hN : N.Nodup) {i j : Nat} {x : Str} (a : N[i]? = some x) (b : N[j]? = some x) : i = j := by
  obtain ⟨h1, e1⟩ := List.getElem?_eq_some_iff.mp a
  obtain ⟨h2, e2⟩ := List.getElem?_eq_some_iff.mp b
  exact (List.getElem_inj hN).mp (e1.trans e2.symm)

/-- a name is stored; what changed -/
theorem store_ok2 {M : Model} {A : Around} {E : Value → Shared → Prop} {i : Nat} {x : Str} {v : V} {u : Value} {Q : Unit → Shared → Prop} (I : Inv X pins σ H s) (hN : X.N.Nodup) (hi : X.N[i]? = some x) (hx : Loc X.env.scope x) (r : RelV v u)
    (h : ∀ s', Inv X pins (σ.set i (some v)) H s' → (∃ a, Heap.SameBut a s.heap s'.heap ∧ (a = X.env.locals ∨ X.env.cells.lookup x = some a)) → Q () s') (hf : X.fn x = true ∨ X.env.scope.names.lookup x = some .local := by first | exact .inl rfl | exact .inr rfl | assumption) : wpAny M A (storeName X.env x u) Q E s := by
  obtain ⟨m, hn, hl⟩ := id I.loc
  have hcls : (X.env.scope.kind == .class || (X.env.scope.kind == .module && X.env.locals != X.env.globals)) = false := by rw [I.ok.kind]; rfl
  have hiσ : i < σ.length := by rw [I.len]; exact (List.getElem?_eq_some_iff.mp hi).1
  have cne := I.cne
  have tracked : ∀ {a : Addr} {h' : Heap}, (∃ o, s.heap.get? a = some o ∧ H a = none) → Heap.SameBut a s.heap h' → HOk X.prog X.w H h' := fun {a h'} ha hs b ob e => by
    obtain ⟨_, _, hfree⟩ := ha
    refine (I.hok b ob e).stay (fun c w' hc q => (hs.2 c ?_).trans q) (fun _ q => q) fun _ _ q => q
    rintro rfl
    rcases hc with rfl | hc
    · rw [hfree] at e; cases e
    · rw [hfree] at hc; cases hc
  rcases hx with hk | hk
  · refine wpAny_storeName_local hk hn (fun h' hn' hs => ?_) hcls
    obtain ⟨oL, _, _, hoL, _⟩ := id hn
    refine h _ ⟨I.ok, I.os, I.bare, ⟨fun b o e n hb hx => ?_, fun b o e n hb hx => ?_, I.base.free, fun b o e hx => ?_, I.base.tups, I.base.frzs, I.base.tbls⟩, ⟨_, hn', fun j y v' e1 e2 e3 => ?_⟩, fun y c e => ?_, I.free, I.freeC, fun p hp => ?_, tracked ⟨oL, hoL, I.free⟩ hs, by simpa using I.len⟩ ⟨_, hs, .inl rfl⟩
    · exact (hs.2 b (Nat.ne_of_lt (Nat.lt_of_lt_of_le (Heap.lt_size e) I.ok.above))).trans (I.base.keep b o e n hb hx)
    · obtain ⟨sl, e1⟩ := I.base.slot b o e n hb hx
      exact ⟨sl, (hs.2 b (Nat.ne_of_lt (Nat.lt_of_lt_of_le (Heap.lt_size e) I.ok.above))).trans e1⟩
    · obtain ⟨o', e1⟩ := I.base.there b o e hx
      exact ⟨o', (hs.2 b (Nat.ne_of_lt (Nat.lt_of_lt_of_le (Heap.lt_size e) I.ok.above))).trans e1⟩
    · by_cases hj : j = i
      · subst hj
        rw [hi] at e1; cases e1
        rw [List.getElem?_set_self hiσ] at e2
        cases e2
        exact ⟨u, r, .inl ⟨hk, by simp⟩⟩
      · rw [List.getElem?_set_ne (Ne.symm hj)] at e2
        obtain ⟨u', r', q⟩ := hl j y v' e1 e2 e3
        refine ⟨u', r', ?_⟩
        rcases q with ⟨k, e⟩ | ⟨k, c, e, z⟩
        · refine .inl ⟨k, ?_⟩
          have : y ≠ x := fun e => hj (nodup_ix hN e1 (e ▸ hi))
          simp [this, e]
        · exact .inr ⟨k, c, e, z.sameBut hs (cne y c e)⟩
    · obtain ⟨w', z⟩ := I.cell y c e
      exact ⟨w', z.sameBut hs (cne y c e)⟩
    · obtain ⟨e, n, ne, nf, d⟩ := I.pin p hp
      exact ⟨(hs.2 p.1 ne).trans e, n, ne, nf, d⟩
  · have hfn : X.fn x = true := by
      rcases hf with z | z
      · exact z
      · rw [z] at hk; cases hk
    obtain ⟨c, hc⟩ := I.ok.has x (.inl hk)
    obtain ⟨w', z⟩ := I.cell x c hc
    refine wpAny_storeName_cell I.ok.kind hk hc z (fun h' hc' hs => ?_)
    obtain ⟨oc, hoc, hocd⟩ := id z
    refine h { s with heap := h' } ⟨I.ok, I.os, I.bare, ⟨fun b o e n hb hx => ?_, fun b o e n hb hx => ?_, I.base.free, fun b o e hx => ?_, I.base.tups, I.base.frzs, I.base.tbls⟩, ⟨m, hn.sameBut hs (Ne.symm (cne x c hc)), fun j y v' e1 e2 e3 => ?_⟩, fun y c' e => ?_, I.free, I.freeC, fun p hp => ?_, tracked ⟨oc, hoc, I.freeC x c hc⟩ hs, by simpa using I.len⟩ ⟨c, hs, .inr hc⟩
    · exact (hs.2 b (Nat.ne_of_lt (Nat.lt_of_lt_of_le (Heap.lt_size e) (I.ok.cab x c hfn hc)))).trans (I.base.keep b o e n hb hx)
    · obtain ⟨sl, e1⟩ := I.base.slot b o e n hb hx
      exact ⟨sl, (hs.2 b (Nat.ne_of_lt (Nat.lt_of_lt_of_le (Heap.lt_size e) (I.ok.cab x c hfn hc)))).trans e1⟩
    · obtain ⟨o', e1⟩ := I.base.there b o e hx
      exact ⟨o', (hs.2 b (Nat.ne_of_lt (Nat.lt_of_lt_of_le (Heap.lt_size e) (I.ok.cab x c hfn hc)))).trans e1⟩
    · by_cases hj : j = i
      · subst hj
        rw [hi] at e1; cases e1
        rw [List.getElem?_set_self hiσ] at e2
        cases e2
        exact ⟨u, r, .inr ⟨.inl hk, c, hc, hc'⟩⟩
      · rw [List.getElem?_set_ne (Ne.symm hj)] at e2
        obtain ⟨u', r', q⟩ := hl j y v' e1 e2 e3
        refine ⟨u', r', ?_⟩
        rcases q with q | ⟨k, c', e, z'⟩
        · exact .inl q
        · refine .inr ⟨k, c', e, z'.sameBut hs ?_⟩
          rintro rfl
          exact hj (nodup_ix hN e1 (I.ok.inj _ _ _ e hc ▸ hi))
    · by_cases hcc : c' = c
      · subst hcc; exact ⟨_, hc'⟩
      · obtain ⟨w2, z2⟩ := I.cell y c' e
        exact ⟨w2, z2.sameBut hs hcc⟩
    · obtain ⟨e, n, ne, nf, d⟩ := I.pin p hp
      refine ⟨(hs.2 p.1 ?_).trans e, n, ne, nf, d⟩
      intro q
      rw [q, hoc] at e
      have q' : oc = p.2 := Option.some.inj e
      exact d w' (by rw [← q']; exact hocd)
theorem store_ok {M : Model} {A : Around} {E : Value → Shared → Prop} {i : Nat} {x : Str} {v : V} {u : Value} {Q : Unit → Shared → Prop} (I : Inv X pins σ H s) (hN : X.N.Nodup) (hi : X.N[i]? = some x) (hx : Loc X.env.scope x) (r : RelV v u)
    (h : ∀ s', Inv X pins (σ.set i (some v)) H s' → Q () s') (hf : X.fn x = true ∨ X.env.scope.names.lookup x = some .local := by first | exact .inl rfl | exact .inr rfl | assumption) : wpAny M A (storeName X.env x u) Q E s :=
  store_ok2 I hN hi hx r (fun s' I' _ => h s' I') hf
/-- behind a call or a block, the state as it is -/
theorem Inv.call' {s' : Shared} {ch : List Addr} (I : Inv X pins σ H s) (ho : s'.os = s.os) (u : Un (frs X.stack) ch H H' s.heap s'.heap) (hok : HOk X.prog X.w H' s'.heap) (hg : AllBare s'.gens)
    (hch : ∀ b ∈ ch, (b ∈ X.ex ∨ X.s₀.heap.objs.size ≤ b) ∧ b ≠ X.env.locals ∧ (∀ x c, X.env.cells.lookup x = some c → c ≠ b) ∧ ∀ p ∈ X.pn ++ pins, p.1 ≠ b) : Inv X pins σ H' s' := by
  obtain ⟨h', g', d', t', o'⟩ := s'
  have e : o' = s.os := ho
  subst e
  exact I.call (g' := g') (t' := t') (d' := d') u hok hg hch
end

/-! ### the judgements -/
/-- an exception: its class, its own dict's address (where it has one), the abstract heap behind it -/
abbrev XK := Value → Option Addr → Hp → Prop
abbrev St := List (Option V)
abbrev VK := V → Hp → Prop
/-- an expression's reading; a test's; an argument list's -/
abbrev TE := St → Hp → VK → Prop
abbrev TT := St → Hp → (Bool → Hp → Prop) → Prop
abbrev TA := St → Hp → (List V → Hp → Prop) → Prop
/-- what is wanted behind a statement -/
structure Ends where
  nx : St → Hp → Prop
  rt : VK
  bk : St → Hp → Prop := fun _ _ => False
  ct : St → Hp → Prop := fun _ _ => False
abbrev TS := Ends → St → Hp → Prop

def EP (X : Cx) (pins : List (Addr × Obj)) (σ : St) (Q : VK) (u : Value) (s' : Shared) : Prop := ∃ v H', Inv X pins σ H' s' ∧ RelV v u ∧ Q v H'
def TP (X : Cx) (pins : List (Addr × Obj)) (σ : St) (Q : Bool → Hp → Prop) (b : Bool) (s' : Shared) : Prop := ∃ H', Inv X pins σ H' s' ∧ Q b H'
def AP (X : Cx) (pins : List (Addr × Obj)) (σ : St) (Q : List V → Hp → Prop) (us : List Value) (s' : Shared) : Prop := ∃ vs H', Inv X pins σ H' s' ∧ Vals vs us ∧ Q vs H'
def SP (X : Cx) (pins : List (Addr × Obj)) (D : Ends) (f : Flow) (s' : Shared) : Prop :=
  match f with
  | .next => ∃ σ' H', Inv X pins σ' H' s' ∧ D.nx σ' H'
  | .brk => ∃ σ' H', Inv X pins σ' H' s' ∧ D.bk σ' H'
  | .cont => ∃ σ' H', Inv X pins σ' H' s' ∧ D.ct σ' H'
  | .ret u => ∃ v σ' H', Inv X pins σ' H' s' ∧ RelV v u ∧ D.rt v H'

def PE (X : Cx) (e : Expr) (t : TE) : Prop :=
  ∀ (pins : List (Addr × Obj)) (s : Shared) (σ : St) (H : Hp) (Q : VK), Inv X pins σ H s → t σ H Q → wpAny (model X.prog X.w) X.A (eval e X.env) (EP X pins σ Q) X.xe s
def PT (X : Cx) (e : Expr) (t : TT) : Prop :=
  ∀ (pins : List (Addr × Obj)) (s : Shared) (σ : St) (H : Hp) (Q : Bool → Hp → Prop), Inv X pins σ H s → t σ H Q → wpAny (model X.prog X.w) X.A (isTrue e X.env (eval e X.env)) (TP X pins σ Q) X.xe s
/-- a test whatever its 'whole' is (and, or) -/
def PW (X : Cx) (e : Expr) (t : TT) : Prop :=
  ∀ (whole : Sem Value) (pins : List (Addr × Obj)) (s : Shared) (σ : St) (H : Hp) (Q : Bool → Hp → Prop), Inv X pins σ H s → t σ H Q → wpAny (model X.prog X.w) X.A (isTrue e X.env whole) (TP X pins σ Q) X.xe s
theorem PW.pt {X : Cx} {e : Expr} {t : TT} (h : PW X e t) : PT X e t := h _
/-- an argument list (no star), from the left -/
def PA (X : Cx) (es : List Expr) (t : TA) : Prop :=
  ∀ (pos : Pos) (pins : List (Addr × Obj)) (s : Shared) (σ : St) (H : Hp) (Q : List V → Hp → Prop), Inv X pins σ H s → t σ H Q → wpAny (model X.prog X.w) X.A (spliced (backTo pos (starEach es X.env))) (AP X pins σ Q) X.xe s
def PS (X : Cx) (st : Stmt) (t : TS) : Prop :=
  ∀ (pins : List (Addr × Obj)) (s : Shared) (σ : St) (H : Hp) (D : Ends), Inv X pins σ H s → t D σ H → wpAny (model X.prog X.w) X.A (exec st X.env) (SP X pins D) X.xe s
def PSs (X : Cx) (st : List Stmt) (t : TS) : Prop :=
  ∀ (pins : List (Addr × Obj)) (s : Shared) (σ : St) (H : Hp) (D : Ends), Inv X pins σ H s → t D σ H → wpAny (model X.prog X.w) X.A (execs st X.env) (SP X pins D) X.xe s
/-- weaken the end -/
theorem thn {α : Type} {t : Sem α} {Q Q' : α → Shared → Prop} {M : Model} {A : Around} {E : Value → Shared → Prop} {s : Shared} (h : wpAny M A t Q E s) (hQ : ∀ a s, Q a s → Q' a s) : wpAny M A t Q' E s := wpAny_mono h hQ fun _ _ x => x
end L2

namespace L2
open PySem PySem.Spec PyProof.Rows
section
variable {X : Cx}

/-! ### names and constants -/
def tVar (i : Nat) : TE := fun σ H Q => ∃ v, σ[i]? = some (some v) ∧ Q v H
def tC (v : V) : TE := fun _ H Q => Q v H
theorem pe_var {i : Nat} {x : Str} {pos : Pos} (hN : X.N[i]? = some x) (hv : Vis X.env.scope x) (hd : (x == ("__debug__" : Str)) = false := by decide) (hcd : (x == ("__classdict__" : Str)) = false := by decide) : PE X (.Name x pos) (tVar i) := by
  intro pins s σ H Q I h
  obtain ⟨v, e, h⟩ := h
  obtain ⟨m, hn, hl⟩ := I.loc
  obtain ⟨u, r, l⟩ := hl i x v hN e hv
  have fin : EP X pins σ Q u s := ⟨v, H, I, r, h⟩
  rcases l with ⟨hk, hm⟩ | ⟨hk, c, hc, hcell⟩
  · exact wpAny_Name (wpAny_loadName_local I.ok.kind hk hn hm fin) hd
  · rcases hk with hk | hk
    · exact wpAny_Name (wpAny_loadName_cell I.ok.kind hk hc hcell fin) hd
    · exact wpAny_Name (wpAny_loadName_free I.ok.kind hk hc hcell fin hcd) hd
theorem pe_int {i j pos} : PE X (.Constant (.int i) j pos) (tC (.int i)) := fun _ _ _ H _ I h => wpAny_Constant_int ⟨.int i, H, I.tok _, ⟨_, rfl⟩, h⟩
theorem pe_bl {b j pos} : PE X (.Constant (.bool b) j pos) (tC (.bl b)) := fun _ _ _ H _ I h => Constant_bool ⟨.bl b, H, I, rfl, h⟩
theorem pe_non {j pos} : PE X (.Constant .none j pos) (tC .non) := fun _ _ _ H _ I h => Constant_none ⟨.non, H, I, rfl, h⟩
theorem pe_str {x j pos} : PE X (.Constant (.str x) j pos) (tC (.str x)) := fun _ _ _ H _ I h => Calls.Constant_str ⟨.str x, H, I.tok _, ⟨_, rfl⟩, h⟩

/-- a global name of the def -/
def Gl (X : Cx) (x : Str) : Prop := X.env.kindOf x = some .globalImplicit
theorem ld_glob {E : Value → Shared → Prop} {pins : List (Addr × Obj)} {s : Shared} {σ : St} {H : Hp} {x : Str} {u : Value} {pos : Pos} {Q : Value → Shared → Prop} (I : Inv X pins σ H s) (hg : Gl X x) (hm : X.mg x = some u) (h : Q u s)
    (hd : (x == ("__debug__" : Str)) = false := by decide) : wpAny (model X.prog X.w) X.A (eval (.Name x pos) X.env) Q E s :=
  Calls.Name_function_global I.ok.kind hg (Calls.loadGlobal_global (by rw [I.ok.glob]; exact I.mod.glob.keeps I.bk) hm h) hd
theorem ld_blt {E : Value → Shared → Prop} {pins : List (Addr × Obj)} {s : Shared} {σ : St} {H : Hp} {x : Str} {u : Value} {pos : Pos} {Q : Value → Shared → Prop} (I : Inv X pins σ H s) (hg : Gl X x) (hm : X.mg x = none) (hv : bootBuiltins x = some u) (h : Q u s)
    (hn : x ≠ "__name__" := by decide) (hd : (x == ("__debug__" : Str)) = false := by decide) : wpAny (model X.prog X.w) X.A (eval (.Name x pos) X.env) Q E s := by
  obtain ⟨mb, h1, h2⟩ := I.mod.blt
  exact Calls.Name_function_global I.ok.kind hg (Calls.loadGlobal_builtin (by rw [I.ok.glob]; exact I.mod.glob.keeps I.bk) hm (by rw [I.ok.blt]; exact h1.keeps I.bk) ((h2 x hn).trans hv) h) hd
/-- a module's constant, a class, a function, as a value -/
theorem pe_glob {x : Str} {v : V} {u : Value} {pos : Pos} (hg : Gl X x) (hm : X.mg x = some u) (r : RelV v u) (hd : (x == ("__debug__" : Str)) = false := by decide) : PE X (.Name x pos) (tC v) :=
  fun _ _ _ H _ I h => ld_glob I hg hm ⟨v, H, I, r, h⟩ hd
theorem pe_bltn {x : Str} {v : V} {u : Value} {pos : Pos} (hg : Gl X x) (hm : X.mg x = none) (hv : bootBuiltins x = some u) (r : RelV v u) (hn : x ≠ "__name__" := by decide) (hd : (x == ("__debug__" : Str)) = false := by decide) : PE X (.Name x pos) (tC v) :=
  fun _ _ _ H _ I h => ld_blt I hg hm hv ⟨v, H, I, r, h⟩ hn hd

/-! ### arithmetic -/
variable {a b : Expr} {ta tb : TE} {pos : Pos}
/-! ### comparisons -/
/-- a comparison as a value, as a test -/
def tB (t : TE) : TT := fun σ H Q => t σ H fun x H1 => ∃ c, x = .bl c ∧ Q c H1
/-- an expression whose value is a bool, as a test -/
theorem pt_val {e : Expr} {t : TE} (h : PE X e t) (he : ∀ whole, isTrue e X.env whole = (do let v ← whole; standAt e.pos; holding [v] (truthy v)) := by intro _; rfl) : PT X e (tB t) := by
  intro pins s σ H Q I hw
  refine isTrue_plain (thn (h pins s σ H _ I hw) fun v s1 ⟨x, H1, I1, r1, q1⟩ => ?_) (he _)
  obtain ⟨d, rfl, q⟩ := q1
  cases r1
  exact wpAny_truthy_bool ⟨H1, I1, q⟩

/-! ### and, or, not -/
variable {tA tB' : TT} {rest : List Expr}
def tAnd (t u : TT) : TT := fun σ H Q => t σ H fun c H1 => if c = true then u σ H1 Q else Q false H1
def tOr (t u : TT) : TT := fun σ H Q => t σ H fun c H1 => if c = true then Q true H1 else u σ H1 Q
def tNot (t : TT) : TT := fun σ H Q => t σ H fun c H1 => Q (!c) H1
theorem pw_and1 (ha : PT X a tA) : PW X (.BoolOp .And [a] pos) tA := by
  intro wh pins s σ H Q I h
  refine isTrue_and (thn (ha pins s σ H Q I h) fun c s1 e => ?_)
  cases c with
  | true => exact isTrue_and_nil e
  | false => exact e
theorem pw_or1 (ha : PT X a tA) : PW X (.BoolOp .Or [a] pos) tA := by
  intro wh pins s σ H Q I h
  refine isTrue_or (thn (ha pins s σ H Q I h) fun c s1 e => ?_)
  cases c with
  | false => exact isTrue_or_nil e
  | true => exact e
theorem pw_and (ha : PT X a tA) (hb : PW X (.BoolOp .And (b :: rest) pos) tB') : PW X (.BoolOp .And (a :: b :: rest) pos) (tAnd tA tB') := by
  intro wh pins s σ H Q I h
  refine isTrue_and (thn (ha pins s σ H _ I h) fun c s1 ⟨H1, I1, q1⟩ => ?_)
  cases c with
  | true => exact hb wh pins s1 σ H1 Q I1 q1
  | false => exact ⟨H1, I1, q1⟩
theorem pw_or (ha : PT X a tA) (hb : PW X (.BoolOp .Or (b :: rest) pos) tB') : PW X (.BoolOp .Or (a :: b :: rest) pos) (tOr tA tB') := by
  intro wh pins s σ H Q I h
  refine isTrue_or (thn (ha pins s σ H _ I h) fun c s1 ⟨H1, I1, q1⟩ => ?_)
  cases c with
  | true => exact ⟨H1, I1, q1⟩
  | false => exact hb wh pins s1 σ H1 Q I1 q1
theorem pt_not (ha : PT X a tA) : PT X (.UnaryOp .Not a pos) (tNot tA) := by
  intro pins s σ H Q I h
  exact isTrue_not (ha pins s σ H (fun c H1 => Q (!c) H1) I h)
/-- .. as values (bools) -/
def tAndV (ta tb : TE) : TE := fun σ H Q => ta σ H fun x H1 => ∃ c, x = .bl c ∧ if c = true then tb σ H1 Q else Q (.bl false) H1
def tNotV (ta : TE) : TE := fun σ H Q => ta σ H fun x H1 => ∃ c, x = .bl c ∧ Q (.bl (!c)) H1
theorem pe_one {op} {t : TE} (h : PE X a t) : PE X (.BoolOp op [a] pos) t := fun pins s σ H Q I hw => BoolOp_one (h pins s σ H Q I hw)
theorem pe_and (ha : PE X a ta) (hb : PE X (.BoolOp .And (b :: rest) pos) tb) : PE X (.BoolOp .And (a :: b :: rest) pos) (tAndV ta tb) := by
  intro pins s σ H Q I h
  refine BoolOp_and (thn (ha pins s σ H _ I h) fun v s1 ⟨x, H1, I1, r1, q1⟩ => ?_)
  obtain ⟨c, rfl, q1⟩ := q1
  cases r1
  refine wpAny_truthy_bool ?_
  cases c with
  | true => exact hb pins s1 σ H1 Q I1 q1
  | false => exact ⟨.bl false, H1, I1, rfl, q1⟩
theorem pe_not (ha : PE X a ta) : PE X (.UnaryOp .Not a pos) (tNotV ta) := by
  intro pins s σ H Q I h
  refine UnaryOp_ (thn (ha pins s σ H _ I h) fun v s1 ⟨x, H1, I1, r1, q1⟩ => ?_)
  obtain ⟨c, rfl, q1⟩ := q1
  cases r1
  exact not_of (wpAny_truthy_bool ⟨.bl (!c), H1, I1, rfl, q1⟩)
end
end L2

namespace L2
open PySem PySem.Spec PyProof.Rows

/-! ### a list, a tuple that is read: tracked, frozen, or an object of the module -/
def SqL (K : PySem.W.Frag) (H : Hp) (a : Addr) (xs : List V) : Prop :=
  Rd H a (.lst xs) ∨
    ∃ (o : Obj) (its : Array Value) (n : Nat), K.lookup a = some o ∧ o.cls = .type "list" ∧ o.dict = none ∧ o.data = .seq its n ∧ its.size ≤ sizeLine ∧ Vals xs its.toList
def SqT (K : PySem.W.Frag) (H : Hp) (a : Addr) (xs : List V) : Prop :=
  Rd H a (.tup xs) ∨
    ∃ (o : Obj) (its : Array Value) (n : Nat), K.lookup a = some o ∧ o.cls = .type "tuple" ∧ o.data = .seq its n ∧ its.size ≤ sizeLine ∧ Vals xs its.toList
def absV : Value → Option V
  | .none => some .non
  | .bool b => some (.bl b)
  | .int i _ => some (.int i)
  | .str x _ => some (.str x)
  | .bytes b _ => some (.byt b)
  | .float b _ => some (.flt b)
  | .ref a => some (.ref a)
  | .type n => some (.ty n)
  | _ => none
theorem RelV.abs {x : V} {u : Value} (r : RelV x u) : absV u = some x := by
  cases x with
  | non => cases r; rfl
  | bl _ => cases r; rfl
  | int _ => obtain ⟨t, rfl⟩ := r; rfl
  | str _ => obtain ⟨t, rfl⟩ := r; rfl
  | byt _ => obtain ⟨t, rfl⟩ := r; rfl
  | flt _ => obtain ⟨t, rfl⟩ := r; rfl
  | ref _ => cases r; rfl
  | ty _ => cases r; rfl
theorem RelV.inj {x y : V} {u : Value} (r : RelV x u) (q : RelV y u) : x = y := Option.some.inj (r.abs.symm.trans q.abs)
theorem Vals.inj : ∀ {xs ys : List V} {us : List Value}, Vals xs us → Vals ys us → xs = ys
  | _, _, _, .nil, .nil => rfl
  | _, _, _, .cons r t, .cons r' t' => by rw [r.inj r', Vals.inj t t']
section
variable {X : Cx} {pins : List (Addr × Obj)} {σ : St} {H : Hp} {s : Shared} {a : Addr} {xs ys : List V}
theorem SqL.of {K : PySem.W.Frag} (h : H a = some (.lst xs)) : SqL K H a xs := .inl (.inl h)
theorem SqT.of {K : PySem.W.Frag} (h : H a = some (.tup xs)) : SqT K H a xs := .inl (.inl h)
theorem Inv.list (I : Inv X pins σ H s) (h : SqL X.K H a xs) : ∃ its : List Value, Vals xs its ∧ PlainL s.heap a its.toArray ∧ xs.length ≤ sizeLine := by
  rcases h with h | ⟨o, its, n, hk, hc, hd, hs, hz, r⟩
  · obtain ⟨z, its, n, r, e⟩ := h.ok I.hok
    exact ⟨its, r, ⟨_, n, e, rfl, rfl, rfl⟩, z⟩
  · refine ⟨its.toList, r, ⟨o, n, I.kIn a o hk, hc, hd, by simpa using hs⟩, ?_⟩
    have e := r.length
    simp only [Array.length_toList] at e
    omega
theorem Inv.tuple (I : Inv X pins σ H s) (h : SqT X.K H a xs) : ∃ its : List Value, Vals xs its ∧ IsTup s.heap a its.toArray ∧ xs.length ≤ sizeLine := by
  rcases h with h | ⟨o, its, n, hk, hc, hs, hz, r⟩
  · obtain ⟨z, its, r, p⟩ := h.ok I.hok
    exact ⟨its, r, p, z⟩
  · refine ⟨its.toList, r, ⟨o, I.kIn a o hk, hc, n, by simpa using hs⟩, ?_⟩
    have e := r.length
    simp only [Array.length_toList] at e
    omega
theorem Inv.list_inj (I : Inv X pins σ H s) (h : SqL X.K H a xs) (h' : SqL X.K H a ys) : xs = ys := by
  obtain ⟨its, r, ⟨o, n, e, _, _, d⟩, _⟩ := I.list h
  obtain ⟨its', r', ⟨o', n', e', _, _, d'⟩, _⟩ := I.list h'
  rw [e] at e'; cases e'
  rw [d] at d'
  injection d' with d1 _
  have : its = its' := by simpa using congrArg Array.toList d1
  subst this
  exact r.inj r'
theorem Inv.tuple_inj (I : Inv X pins σ H s) (h : SqT X.K H a xs) (h' : SqT X.K H a ys) : xs = ys := by
  obtain ⟨its, r, ⟨o, e, _, n, d⟩, _⟩ := I.tuple h
  obtain ⟨its', r', ⟨o', e', _, n', d'⟩, _⟩ := I.tuple h'
  rw [e] at e'; cases e'
  rw [d] at d'
  injection d' with d1 _
  have : its = its' := by simpa using congrArg Array.toList d1
  subst this
  exact r.inj r'
end

/-! ### another wish about exceptions -/
abbrev Cx.wish (X : Cx) (E : Value → Shared → Prop) : Cx := { X with xe := E }
/-- no exception leaves -/
abbrev Cx.nox (X : Cx) : Cx := X.wish fun _ _ => False
theorem Cx.Ok.wish {X : Cx} (ok : X.Ok) (E : Value → Shared → Prop) : (X.wish E).Ok :=
  ⟨ok.mod, ok.kind, ok.glob, ok.blt, ok.above, ok.inj, ok.has, ok.cab, ok.hd, ok.frames, ok.stk, ok.exf, ok.bs, ok.bsz, ok.noex, ok.exfs, ok.funs, ok.frf⟩
theorem Cx.Ok.unwish {X : Cx} {E : Value → Shared → Prop} (ok : (X.wish E).Ok) : X.Ok :=
  ⟨ok.mod, ok.kind, ok.glob, ok.blt, ok.above, ok.inj, ok.has, ok.cab, ok.hd, ok.frames, ok.stk, ok.exf, ok.bs, ok.bsz, ok.noex, ok.exfs, ok.funs, ok.frf⟩
section
variable {X : Cx} {pins : List (Addr × Obj)} {σ : St} {H : Hp} {s : Shared} {E : Value → Shared → Prop}
theorem Inv.wish (I : Inv X pins σ H s) (E : Value → Shared → Prop) : Inv (X.wish E) pins σ H s := ⟨I.ok.wish E, I.os, I.bare, I.base, I.loc, I.cell, I.free, I.freeC, I.pin, I.hok, I.len⟩
theorem Inv.unwish (I : Inv (X.wish E) pins σ H s) : Inv X pins σ H s := ⟨I.ok.unwish, I.os, I.bare, I.base, I.loc, I.cell, I.free, I.freeC, I.pin, I.hok, I.len⟩
theorem SP.unwish {D : Ends} {f : Flow} {s' : Shared} (h : SP (X.wish E) pins D f s') : SP X pins D f s' := by
  cases f with
  | next => obtain ⟨σ', H', I, q⟩ := h; exact ⟨σ', H', I.unwish, q⟩
  | brk => obtain ⟨σ', H', I, q⟩ := h; exact ⟨σ', H', I.unwish, q⟩
  | cont => obtain ⟨σ', H', I, q⟩ := h; exact ⟨σ', H', I.unwish, q⟩
  | ret u => obtain ⟨v, σ', H', I, r, q⟩ := h; exact ⟨v, σ', H', I.unwish, r, q⟩
theorem PSs.nox {st : List Stmt} {t : TS} (h : PSs X.nox st t) : PSs X st t := fun pins s σ H D I hw =>
  wpAny_mono (h pins s σ H D (I.wish _) hw) (fun _ _ q => q.unwish) fun _ _ z => False.elim z
end

/-! ### blocks and small statements -/
section
variable {X : Cx} {st : Stmt} {rest : List Stmt} {t u : TS} {e : Expr} {te : TE} {pos : Pos}
def tNext : TS := fun D σ H => D.nx σ H
def tSeq (t u : TS) : TS := fun D σ H => t { D with nx := u D } σ H
theorem pss_nil : PSs X [] tNext := fun _ _ σ H _ I h => wpAny_execs_nil ⟨σ, H, I, h⟩
theorem pss_cons (h1 : PS X st t) (h2 : PSs X rest u) : PSs X (st :: rest) (tSeq t u) := by
  intro pins s σ H D I h
  refine wpAny_execs_cons (thn (h1 pins s σ H { D with nx := u D } I h) fun f s1 q => ?_)
  cases f with
  | next =>
    obtain ⟨σ', H', I', q⟩ := q
    exact h2 pins s1 σ' H' D I' q
  | ret v => exact q
  | brk => exact q
  | cont => exact q
theorem pss_one (h1 : PS X st t) : PSs X [st] t := by
  intro pins s σ H D I h
  refine wpAny_execs_cons (thn (h1 pins s σ H D I h) fun f s1 q => ?_)
  cases f with
  | next => exact wpAny_execs_nil q
  | ret v => exact q
  | brk => exact q
  | cont => exact q
/-- in a def's body nothing is shown -/
theorem Inv.quiet {pins : List (Addr × Obj)} {σ : St} {H : Hp} {s : Shared} (I : Inv X pins σ H s) : interactive X.env = false := by simp [interactive, I.ok.kind]
/-- an expression whose value is dropped -/
def tDrop (te : TE) : TS := fun D σ H => te σ H fun _ H1 => D.nx σ H1
theorem ps_expr (he : PE X e te) (hs : swapsWith e none pos.line X.env = pure false := by rfl) : PS X (.Expr e pos) (tDrop te) := by
  intro pins s σ H D I h
  exact wpAny_Expr_any (thn (he pins s σ H _ I h) fun v s1 ⟨x, H1, I1, r1, q1⟩ => ⟨σ, H1, I1, q1⟩) I.quiet hs
def tRet (te : TE) : TS := fun D σ H => te σ H D.rt
theorem ps_ret (he : PE X e te) : PS X (.Return (some e) pos) (tRet te) := by
  intro pins s σ H D I h
  exact wpAny_Return_some (thn (he pins s σ H _ I h) fun v s1 ⟨x, H1, I1, r1, q1⟩ => ⟨x, σ, H1, I1, r1, q1⟩)
def tIfS (c : TT) (t u : TS) : TS := fun D σ H => c σ H fun b H1 => if b = true then t D σ H1 else u D σ H1
theorem ps_if {c : Expr} {a b : List Stmt} {tc : TT} (hc : PT X c tc) (ha : PSs X a t) (hb : PSs X b u) : PS X (.If c a b pos) (tIfS tc t u) := by
  intro pins s σ H D I h
  refine wpAny_If (thn (hc pins s σ H _ I h) fun d s1 ⟨H1, I1, q1⟩ => ?_)
  cases d with
  | true => exact ha pins s1 σ H1 D I1 q1
  | false => exact hb pins s1 σ H1 D I1 q1
end

/-! ### targets -/
abbrev TG := V → St → Hp → (St → Hp → Prop) → Prop
abbrev TGs := List V → St → Hp → (St → Hp → Prop) → Prop
def PG (X : Cx) (target : Expr) (t : TG) : Prop :=
  ∀ (pins : List (Addr × Obj)) (s : Shared) (σ : St) (H : Hp) (v : V) (u : Value) (Q : St → Hp → Prop), Inv X pins σ H s → RelV v u → t v σ H Q →
    wpAny (model X.prog X.w) X.A (assign target X.env u) (fun _ s' => ∃ σ' H', Inv X pins σ' H' s' ∧ Q σ' H') X.xe s
/-- several targets, one after another -/
def PGs (X : Cx) (ts : List Expr) (t : TGs) : Prop :=
  ∀ (pins : List (Addr × Obj)) (s : Shared) (σ : St) (H : Hp) (vs : List V) (us : List Value) (Q : St → Hp → Prop), Inv X pins σ H s → Vals vs us → t vs σ H Q →
    wpAny (model X.prog X.w) X.A (assignInOrder ((assignEach ts X.env).map (·.2)) us) (fun _ s' => ∃ σ' H', Inv X pins σ' H' s' ∧ Q σ' H') X.xe s
/-- o[i] = v, by values -/
abbrev TSet := V → V → V → Hp → (Hp → Prop) → Prop
def PSet (X : Cx) (t : TSet) : Prop :=
  ∀ (pins : List (Addr × Obj)) (s : Shared) (σ : St) (H : Hp) (o i v : V) (ov iv u : Value) (Q : Hp → Prop), Inv X pins σ H s → RelV o ov → RelV i iv → RelV v u → t o i v H Q →
    wpAny (model X.prog X.w) X.A (setItem ov iv u) (fun _ s' => ∃ H', Inv X pins σ H' s' ∧ Q H') X.xe s
section
variable {X : Cx} {pos : Pos}
def gName (i : Nat) : TG := fun v σ H Q => Q (σ.set i (some v)) H
theorem pg_name {i : Nat} {x : Str} (hN : X.N.Nodup) (hi : X.N[i]? = some x) (hx : Loc X.env.scope x) (hf : X.fn x = true ∨ X.env.scope.names.lookup x = some .local := by first | exact .inl rfl | exact .inr rfl | assumption) : PG X (.Name x pos) (gName i) := by
  intro pins s σ H v u Q I r h
  exact wpAny_assign_Name (store_ok I hN hi hx r (fun s' I' => ⟨_, H, I', h⟩) hf)
def gNil : TGs := fun vs σ H Q => vs = [] ∧ Q σ H
def gCons (t : TG) (u : TGs) : TGs := fun vs σ H Q => ∃ v r, vs = v :: r ∧ t v σ H fun σ' H' => u r σ' H' Q
theorem pgs_nil : PGs X [] gNil := by
  intro pins s σ H vs us Q I r h
  obtain ⟨e, h⟩ := h
  subst e
  cases r
  exact assignInOrder_nil ⟨σ, H, I, h⟩
theorem pgs_cons {e : Expr} {es : List Expr} {t : TG} {u : TGs} (h1 : PG X e t) (h2 : PGs X es u)
    (hs : (assignEach (e :: es) X.env).map (·.2) = assign e X.env :: (assignEach es X.env).map (·.2) := by rfl) : PGs X (e :: es) (gCons t u) := by
  intro pins s σ H vs us Q I r h
  obtain ⟨v, vr, e1, h⟩ := h
  subst e1
  cases r with
  | cons r rr =>
    rw [hs]
    refine assignInOrder_cons (thn (h1 pins s σ H _ _ _ I r h) fun _ s1 ⟨σ1, H1, I1, q1⟩ => ?_)
    exact h2 pins s1 σ1 H1 _ _ Q I1 rr q1
/-- (a, b, ..) = a tuple of that length -/
def gTup (K : PySem.W.Frag) (n : Nat) (t : TGs) : TG := fun v σ H Q => ∃ a xs, v = .ref a ∧ SqT K H a xs ∧ xs.length = n ∧ t xs σ H Q
theorem pg_tup {es : List Expr} {k : Nat} {t : TGs} {n : Nat} (hc : X.calm = true) (h : PGs X es t)
    (hn : (assignEach es X.env).length = n := by rfl) (hst : (assignEach es X.env).findIdx? (·.1) = none := by rfl) : PG X (.Tuple es k pos) (gTup X.K n t) := by
  intro pins s σ H v u Q I r hw
  obtain ⟨a, xs, e1, hq, hl, hw⟩ := hw
  subst e1
  cases r
  obtain ⟨its, rv, ht, hz⟩ := I.tuple hq
  refine assign_Tuple_tuple (I.ok.hd hc) ht (by simp [hn, ← hl, rv.length]) hst fun h' hx => ?_
  have I1 : Inv X pins σ H { s with heap := h' } := I.kept (t' := s.toks) fun b o e => hx b o (Nat.ne_of_lt (Heap.lt_size e)) e
  exact h pins _ σ H xs _ Q I1 (by simpa using rv) hw
/-- o[i] = .. -/
def gSub (to ti : TE) (t : TSet) : TG := fun v σ H Q => to σ H fun o H1 => ti σ H1 fun i H2 => t o i v H2 fun H3 => Q σ H3
theorem pg_sub {o i : Expr} {to ti : TE} {t : TSet} (ho : PE X o to) (hi : PE X i ti) (hs : PSet X t)
    (ha : ∀ v, assign (.Subscript o i pos) X.env v = (do
      let ov ← holding [v] (eval o X.env)
      let iv ← holding [v, ov] (eval i X.env)
      standAt pos
      holding [v, ov, iv] (setItem ov iv v)
      release [v, ov, iv] []) := by intro _; rfl) : PG X (.Subscript o i pos) (gSub to ti t) := by
  intro pins s σ H v u Q I r h
  rw [ha]
  refine wpAny_bind (wpAny_holding (thn (ho pins s σ H _ I h) fun ov s1 ⟨x, H1, I1, r1, q1⟩ => ?_))
  refine wpAny_bind (wpAny_holding (thn (hi pins s1 σ H1 _ I1 q1) fun iv s2 ⟨y, H2, I2, r2, q2⟩ => ?_))
  refine wpAny_bind (wpAny_standAt (wpAny_bind (wpAny_holding (thn (hs pins s2 σ H2 x y v ov iv u _ I2 r1 r2 r q2) fun _ s3 ⟨H3, I3, q3⟩ => ?_))))
  exact wpAny_release ⟨σ, H3, I3, q3⟩
/-- target = value -/
def tAsg (te : TE) (g : TG) : TS := fun D σ H => te σ H fun x H1 => g x σ H1 D.nx
theorem ps_asg {tg e : Expr} {te : TE} {g : TG} (he : PE X e te) (hg : PG X tg g) (hs : swapsWithSole [tg] e pos.line X.env = pure false := by rfl) (hw : swappedStores [tg] e X.env = pure none := by rfl)
    (h1 : (assignEach [tg] X.env).map (·.2) = [assign tg X.env] := by rfl) : PS X (.Assign [tg] e pos) (tAsg te g) := by
  intro pins s σ H D I h
  refine wpAny_Assign_stores (thn (he pins s σ H _ I h) fun v s1 ⟨x, H1, I1, r1, q1⟩ => ?_) hs hw
  rw [h1]
  exact thn (hg pins s1 σ H1 x v _ I1 r1 q1) fun _ s2 q => q
/-- name = value -/
theorem ps_set {i : Nat} {x : Str} {e : Expr} {te : TE} {pos' : Pos} (hN : X.N.Nodup) (hi : X.N[i]? = some x) (hx : Loc X.env.scope x) (he : PE X e te) (hs : swapsWith e (some (.Name x pos')) pos.line X.env = pure false := by rfl) (hf : X.fn x = true ∨ X.env.scope.names.lookup x = some .local := by first | exact .inl rfl | exact .inr rfl | assumption) :
    PS X (.Assign [.Name x pos'] e pos) (tAsg te (gName i)) := by
  intro pins s σ H D I h
  refine wpAny_Assign_Name (thn (he pins s σ H _ I h) fun v s1 ⟨y, H1, I1, r1, q1⟩ => ?_) hs
  exact store_ok I1 hN hi hx r1 (fun s2 I2 => ⟨_, H1, I2, q1⟩) hf
end

/-! ### while -/
section
variable {X : Cx} {pos : Pos}
/-- the invariant W with its measure -/
def tWhile (c : TT) (tb : TS) : TS := fun D σ H => ∃ W : Nat → St → Hp → Prop, (∃ m, W m σ H) ∧ ∀ m σ H, W m σ H →
  c σ H fun b H1 => if b = true then ∃ N : St → Hp → Prop, (∀ σ' H', N σ' H' → ∃ m', m' < m ∧ W m' σ' H') ∧ tb { D with nx := N, ct := N, bk := D.nx } σ H1 else D.nx σ H1
theorem ps_while {c : Expr} {body : List Stmt} {tc : TT} {tb : TS} (hp : PassesOwn (model X.prog X.w) X.A X.env X.xe) (hc : PT X c tc) (hb : PSs X body tb) : PS X (.While c body [] pos) (tWhile tc tb) := by
  intro pins s σ H D I h
  obtain ⟨W, ⟨m0, w0⟩, turn⟩ := h
  refine wpAny_While (codeAny_whileLoop (fun n s' => ∃ σ' H', Inv X pins σ' H' s' ∧ W n σ' H') ?_ m0 ⟨σ, H, I, w0⟩)
  rintro n s1 ⟨σ1, H1, I1, w1⟩
  refine wpAny_passesOwn hp (thn (hc pins s1 σ1 H1 _ I1 (turn n σ1 H1 w1)) fun b s2 ⟨H2, I2, q2⟩ => ?_)
  cases b with
  | true =>
    obtain ⟨N, hN, q2⟩ := q2
    rw [if_pos rfl]
    refine wpAny_passesOwn hp (thn (hb pins s2 σ1 H2 _ I2 q2) fun f s3 q3 => ?_)
    cases f with
    | next =>
      obtain ⟨σ3, H3, I3, n3⟩ := q3
      obtain ⟨m', hm, w3⟩ := hN σ3 H3 n3
      exact ⟨m', hm, σ3, H3, I3, w3⟩
    | cont =>
      obtain ⟨σ3, H3, I3, n3⟩ := q3
      obtain ⟨m', hm, w3⟩ := hN σ3 H3 n3
      exact ⟨m', hm, σ3, H3, I3, w3⟩
    | brk => exact q3
    | ret v => exact q3
  | false =>
    rw [if_neg Bool.false_ne_true]
    exact wpAny_execs_nil ⟨σ1, H2, I2, q2⟩
end

/-! ### what a loop or a comprehension walks -/
/-- at turn i: it yields x (the heap may grow), or it stops -/
structure It where
  go : Nat → Hp → Prop
  yld : Nat → Hp → V → Hp → Prop
  stop : Nat → Hp → Prop
/-- the iterator's own objects may turn: they are not the frame's, not pinned, younger than the entry (or a comprehension's own) -/
def FpOk (X : Cx) (pins : List (Addr × Obj)) (H : Hp) (b : Addr) : Prop :=
  H b = none ∧ b ≠ X.env.locals ∧ b ∉ X.fs ∧ (b ∈ X.ex ∨ X.s₀.heap.objs.size ≤ b) ∧ (∀ x c, X.env.cells.lookup x = some c → c ≠ b) ∧ ∀ p ∈ X.pn ++ pins, p.1 ≠ b
theorem Inv.fpOk {X : Cx} {pins : List (Addr × Obj)} {σ : St} {H H' : Hp} {s : Shared} {b : Addr} (I : Inv X pins σ H s) (hb : s.heap.objs.size ≤ b) (hn : H' b = none) : FpOk X pins H' b := by
  refine ⟨hn, Nat.ne_of_gt (Nat.lt_of_lt_of_le I.lt hb), I.nofs hb, .inr (Nat.le_trans I.sz hb), fun x c e z => ?_, fun p hp z => ?_⟩
  · obtain ⟨v, q⟩ := I.cell x c e
    exact absurd (Nat.lt_of_lt_of_le q.lt (by rw [z]; exact hb)) (Nat.lt_irrefl _)
  · exact absurd (Nat.lt_of_lt_of_le (Heap.lt_size (I.pin p hp).1) (by rw [z]; exact hb)) (Nat.lt_irrefl _)
structure Turn (P : Program) (w : World) (K : PySem.W.Frag) (tg : Expr) (J : It) (fp : List Addr) (it : Addr) (tn : Nat → Heap → Prop) : Prop where
  mem : it ∈ fp
  obj : ∀ i h, tn i h → ∀ b ∈ fp, ∃ o, h.get? b = some o ∧ ∀ v, o.data ≠ .cell v
  keep : ∀ i h h', tn i h → (∀ b ∈ fp, ∀ o, h.get? b = some o → h'.get? b = some o) → tn i h'
  item : ∀ (X : Cx), X.prog = P → X.w = w → X.K = K → X.calm = true → ∀ (i : Nat) (pins : List (Addr × Obj)) (s : Shared) (σ : St) (H : Hp) (E : Value → Shared → Prop), Inv X pins σ H s → (∀ b ∈ fp, FpOk X pins H b) → tn i s.heap → J.go i H →
    wpAny (model P w) X.A (pyNext (.ref it)) (fun r s1 => ∃ u, r = some u ∧
      wpAny (model P w) X.A (letOwnedTupleGo tg (.ref it) u) (fun _ s2 => ∃ x H', Inv X pins σ H' s2 ∧ RelV x u ∧ J.yld i H x H' ∧ tn (i + 1) s2.heap ∧ ∀ b ∈ fp, H' b = none) E s1) E s
  done : ∀ (X : Cx), X.prog = P → X.w = w → X.K = K → X.calm = true → ∀ (i : Nat) (pins : List (Addr × Obj)) (s : Shared) (σ : St) (H : Hp) (E : Value → Shared → Prop), Inv X pins σ H s → (∀ b ∈ fp, FpOk X pins H b) → tn i s.heap → J.stop i H →
    wpAny (model P w) X.A (pyNext (.ref it)) (fun r s1 => r = none ∧ Inv X pins σ H s1) E s
  self : ∀ (A : Around) (i : Nat) (s : Shared) (Q : Value → Shared → Prop) (E : Value → Shared → Prop), tn i s.heap → Q (.ref it) s → wpAny (model P w) A (pyIter (.ref it)) Q E s
abbrev TI := St → Hp → (It → Hp → Prop) → Prop
/-- an iterator has come -/
def PIE (X : Cx) (pins : List (Addr × Obj)) (σ : St) (tg : Expr) (R : It → Hp → Prop) (itv : Value) (s2 : Shared) : Prop :=
  ∃ (it : Addr) (fp : List Addr) (tn : Nat → Heap → Prop) (J : It) (H' : Hp), itv = .ref it ∧ Inv X pins σ H' s2 ∧ Turn X.prog X.w X.K tg J fp it tn ∧ tn 0 s2.heap ∧ (∀ b ∈ fp, FpOk X pins H' b) ∧ R J H'
def PI (X : Cx) (tg iter : Expr) (wi : TI) : Prop :=
  ∀ (pins : List (Addr × Obj)) (s : Shared) (σ : St) (H : Hp) (R : It → Hp → Prop), Inv X pins σ H s → wi σ H R →
    wpAny (model X.prog X.w) X.A (eval iter X.env) (fun v s1 => wpAny (model X.prog X.w) X.A (pyIter v) (PIE X pins σ tg R) X.xe s1) X.xe s

/-- the step ahead of the store is nothing for an iterator that keeps no tuple -/
theorem go_of {M : Model} {A : Around} {E : Value → Shared → Prop} {s : Shared} {tg : Expr} {it : Addr} {u : Value} {o : Obj} {n : String} {vs : Array Value} {Q : Unit → Shared → Prop} (ho : s.heap.get? it = some o) (hc : o.cls = .type n) (hd : o.data = .fields vs)
    (hn : ["enumerate", "zip", "dict_itemiterator", "dict_reverseitemiterator", "odict_iterator", "itertools.zip_longest", "itertools.pairwise"].contains n = false) (hQ : Q () s) : wpAny M A (letOwnedTupleGo tg (.ref it) u) Q E s := by
  unfold letOwnedTupleGo
  cases tg <;> first
    | exact wpAny_pure hQ
    | (cases u <;> first
        | exact wpAny_pure hQ
        | (refine wpAny_bind (wpAny_load ho ?_)
           rw [hc, hd]
           show wpAny M A (if (["enumerate", "zip", "dict_itemiterator", "dict_reverseitemiterator", "odict_iterator", "itertools.zip_longest", "itertools.pairwise"].contains n && vs[0]? == some (rawInt _)) = true then _ else _) Q E s
           rw [if_neg (by intro h; rw [hn, Bool.false_and] at h; cases h)]
           exact wpAny_pure hQ))

/-- the list at a, as it stands at each turn (a loop may append to it) -/
def Itl (K : PySem.W.Frag) (a : Addr) : It :=
  ⟨fun i H => ∃ xs x, SqL K H a xs ∧ xs[i]? = some x, fun i H x H' => H' = H ∧ ∀ xs, SqL K H a xs → xs[i]? = some x, fun i H => ∃ xs, SqL K H a xs ∧ xs.length ≤ i⟩
def Itt (K : PySem.W.Frag) (a : Addr) : It :=
  ⟨fun i H => ∃ xs x, SqT K H a xs ∧ xs[i]? = some x, fun i H x H' => H' = H ∧ ∀ xs, SqT K H a xs → xs[i]? = some x, fun i H => ∃ xs, SqT K H a xs ∧ xs.length ≤ i⟩
/-- lo, lo + 1, .. (n of them) -/
def Itr (lo : Int) (n : Nat) : It := ⟨fun i _ => i < n, fun i H x H' => H' = H ∧ x = .int (lo + i), fun i _ => n ≤ i⟩
theorem turn_list {P : Program} {w : World} {K : PySem.W.Frag} {tg : Expr} (a it : Addr) : Turn P w K tg (Itl K a) [it] it (fun i h => h.IsListIter it a i) where
  mem := by simp
  obj := fun i h st b hb => by
    have e : b = it := by simpa using hb
    subst e
    obtain ⟨o, e, c, d⟩ := st
    exact ⟨o, e, fun v z => by rw [d] at z; cases z⟩
  keep := fun i h h' st k => st.at fun o e => k it (by simp) o e
  item := by
    intro X hP hw hK hc i pins s σ H E I hf st hg
    subst hP hw hK
    obtain ⟨xs, x, hq, hx⟩ := hg
    obtain ⟨its, rv, p, hz⟩ := I.list hq
    obtain ⟨u, hu, ru⟩ := rv.get hx
    obtain ⟨f0, f1, f2, f3, f4, f5⟩ := hf it (by simp)
    refine wpAny_pyNext_list_item st p.isList (x := u) (by simpa using hu) fun h' st' sb => ?_
    have I1 : Inv X pins σ H { s with heap := h' } := I.turned (t' := s.toks) (fun b o hb e => (sb.2 b hb).trans e) f0 f1 f3 f4 f5
    obtain ⟨o, e, c, d⟩ := id st'
    exact ⟨u, rfl, go_of (s := { s with heap := h' }) e c d (by decide) ⟨x, H, I1, ru, ⟨rfl, fun ys hy => by rw [I.list_inj hy hq]; exact hx⟩, st', fun b hb => (hf b hb).1⟩⟩
  done := by
    intro X hP hw hK hc i pins s σ H E I hf st hg
    subst hP hw hK
    obtain ⟨xs, hq, hx⟩ := hg
    obtain ⟨its, rv, p, hz⟩ := I.list hq
    obtain ⟨f0, f1, f2, f3, f4, f5⟩ := hf it (by simp)
    have hl := rv.length
    exact wpAny_pyNext_list_end (I.ok.hd hc) st p.isList (by simp; omega) fun h' eb => ⟨rfl, I.turned (t' := s.toks) (fun b o hb e => eb b o hb e) f0 f1 f3 f4 f5⟩
  self := fun _ _ _ _ _ st h => wpAny_pyIter_listiter st h
theorem turn_tuple {P : Program} {w : World} {K : PySem.W.Frag} {tg : Expr} (a it : Addr) : Turn P w K tg (Itt K a) [it] it (fun i h => h.IsTupleIter it a i) where
  mem := by simp
  obj := fun i h st b hb => by
    have e : b = it := by simpa using hb
    subst e
    obtain ⟨o, e, c, d⟩ := st
    exact ⟨o, e, fun v z => by rw [d] at z; cases z⟩
  keep := fun i h h' st k => st.at fun o e => k it (by simp) o e
  item := by
    intro X hP hw hK hc i pins s σ H E I hf st hg
    subst hP hw hK
    obtain ⟨xs, x, hq, hx⟩ := hg
    obtain ⟨its, rv, p, hz⟩ := I.tuple hq
    obtain ⟨u, hu, ru⟩ := rv.get hx
    obtain ⟨f0, f1, f2, f3, f4, f5⟩ := hf it (by simp)
    refine wpAny_pyNext_tuple_item st (show s.heap.IsTuple a its.toArray from p) (x := u) (by simpa using hu) fun h' st' sb => ?_
    have I1 : Inv X pins σ H { s with heap := h' } := I.turned (t' := s.toks) (fun b o hb e => (sb.2 b hb).trans e) f0 f1 f3 f4 f5
    obtain ⟨o, e, c, d⟩ := id st'
    exact ⟨u, rfl, go_of (s := { s with heap := h' }) e c d (by decide) ⟨x, H, I1, ru, ⟨rfl, fun ys hy => by rw [I.tuple_inj hy hq]; exact hx⟩, st', fun b hb => (hf b hb).1⟩⟩
  done := by
    intro X hP hw hK hc i pins s σ H E I hf st hg
    subst hP hw hK
    obtain ⟨xs, hq, hx⟩ := hg
    obtain ⟨its, rv, p, hz⟩ := I.tuple hq
    obtain ⟨f0, f1, f2, f3, f4, f5⟩ := hf it (by simp)
    have hl := rv.length
    exact wpAny_pyNext_tuple_end (I.ok.hd hc) st (show s.heap.IsTuple a its.toArray from p) (by simp; omega) fun h' eb => ⟨rfl, I.turned (t' := s.toks) (fun b o hb e => eb b o hb e) f0 f1 f3 f4 f5⟩
  self := fun _ _ _ _ _ st h => wpAny_pyIter_tupleiter st h
theorem turn_range {P : Program} {w : World} {K : PySem.W.Frag} {tg : Expr} (it : Addr) (lo : Int) (n : Nat) : Turn P w K tg (Itr lo n) [it] it (fun i h => IsRangeIter h it (lo + (i : Nat) * 1) ((n : Int) - (i : Nat)) 1) where
  mem := by simp
  obj := fun i h st b hb => by
    have e : b = it := by simpa using hb
    subst e
    exact ⟨_, st, fun v z => by
      have z' : Data.fields _ = Data.cell v := z
      cases z'⟩
  keep := fun i h h' st k => k it (by simp) _ st
  item := by
    intro X hP hw hK hc i pins s σ H E I hf st hg
    subst hP hw hK
    obtain ⟨f0, f1, f2, f3, f4, f5⟩ := hf it (by simp)
    have W := Walks.range (prog := X.prog) (w := X.w) (I.ok.hd hc) it lo 1 n
    refine W.item i s _ _ hg st fun v h' tk hv st' kk => ?_
    obtain ⟨t, rfl⟩ := hv
    have I1 : Inv X pins σ H { s with heap := h', toks := tk } := I.turned (fun b o hb e => kk b o (by simpa using hb) e) f0 f1 f3 f4 f5
    refine ⟨_, rfl, go_of (s := { s with heap := h', toks := tk }) (n := "range_iterator") st' rfl rfl (by decide) ⟨.int (lo + i), H, I1, ⟨t, ?_⟩, ⟨rfl, rfl⟩, st', fun b hb => (hf b hb).1⟩⟩
    rw [Int.mul_one]
  done := by
    intro X hP hw hK hc i pins s σ H E I hf st hg
    subst hP hw hK
    obtain ⟨f0, f1, f2, f3, f4, f5⟩ := hf it (by simp)
    exact wpAny_pyNext_range_end (I.ok.hd hc) st (by have : n ≤ i := hg; omega) fun h' eb => ⟨rfl, I.turned (t' := s.toks) (fun b o hb e => eb b o hb e) f0 f1 f3 f4 f5⟩
  self := fun _ _ _ _ _ st h => wpAny_pyIter_rangeiter st h
end L2

namespace L2
open PySem PySem.Spec PyProof.Rows
section
variable {X : Cx} {tg : Expr}
def iList (K : PySem.W.Frag) (tl : TE) : TI := fun σ H R => tl σ H fun x H1 => ∃ a, x = .ref a ∧ (∃ xs, SqL K H1 a xs) ∧ R (Itl K a) H1
def iTup (K : PySem.W.Frag) (tl : TE) : TI := fun σ H R => tl σ H fun x H1 => ∃ a, x = .ref a ∧ (∃ xs, SqT K H1 a xs) ∧ R (Itt K a) H1
theorem pi_list {l : Expr} {tl : TE} (hl : PE X l tl) : PI X tg l (iList X.K tl) := by
  intro pins s σ H R I h
  refine thn (hl pins s σ H _ I h) fun v s1 ⟨x, H1, I1, r1, q1⟩ => ?_
  obtain ⟨a, e, ⟨xs, hq⟩, q⟩ := q1
  subst e
  cases r1
  obtain ⟨its, rv, p, hz⟩ := I1.list hq
  refine wpAny_pyIter_list p.isList ?_
  refine ⟨s1.heap.objs.size, [s1.heap.objs.size], _, _, H1, rfl, I1.kept (t' := s1.toks) fun b o e => Heap.get?_push_of_some _ e, turn_list a _, ⟨_, Heap.get?_push_size _ rfl, rfl, rfl⟩, fun b hb => ?_, q⟩
  have e : b = s1.heap.objs.size := by simpa using hb
  subst e
  exact I1.fpOk (Nat.le_refl _) (I1.hok.fresh (Nat.le_refl _))
theorem pi_tup {l : Expr} {tl : TE} (hl : PE X l tl) : PI X tg l (iTup X.K tl) := by
  intro pins s σ H R I h
  refine thn (hl pins s σ H _ I h) fun v s1 ⟨x, H1, I1, r1, q1⟩ => ?_
  obtain ⟨a, e, ⟨xs, hq⟩, q⟩ := q1
  subst e
  cases r1
  obtain ⟨its, rv, p, hz⟩ := I1.tuple hq
  refine wpAny_pyIter_tuple (show s1.heap.IsTuple a its.toArray from p) ?_
  refine ⟨s1.heap.objs.size, [s1.heap.objs.size], _, _, H1, rfl, I1.kept (t' := s1.toks) fun b o e => Heap.get?_push_of_some _ e, turn_tuple a _, ⟨_, Heap.get?_push_size _ rfl, rfl, rfl⟩, fun b hb => ?_, q⟩
  have e : b = s1.heap.objs.size := by simpa using hb
  subst e
  exact I1.fpOk (Nat.le_refl _) (I1.hok.fresh (Nat.le_refl _))
/-- a range object just made, walked -/
theorem range_it {pins : List (Addr × Obj)} {σ : St} {H : Hp} {s : Shared} {R : It → Hp → Prop} {E : Value → Shared → Prop} {lo hi : Int} {t u v : Tok} {tk : Nat} (I : Inv X pins σ H s) (h1 : -(2 ^ 62) ≤ lo) (h2 : lo < 2 ^ 62) (h3 : -(2 ^ 62) ≤ hi) (h4 : hi < 2 ^ 62)
    (q : R (Itr lo (hi - lo).toNat) H) : wpAny (model X.prog X.w) X.A (pyIter (.ref s.heap.objs.size)) (PIE X pins σ tg R) E { s with heap := s.heap.push { cls := .type "range", data := .fields #[.int lo t, .int hi u, .int 1 v] }, toks := tk } := by
  refine wpAny_pyIter_range (IsRange.new ..) (small_one h1 h2 h3 h4) ?_
  have I1 : Inv X pins σ H { s with heap := s.heap.push { cls := .type "range", data := .fields #[.int lo t, .int hi u, .int 1 v] }, toks := tk } := I.kept fun b o e => Heap.get?_push_of_some _ e
  refine ⟨(s.heap.push { cls := .type "range", data := .fields #[.int lo t, .int hi u, .int 1 v] }).objs.size, [(s.heap.push { cls := .type "range", data := .fields #[.int lo t, .int hi u, .int 1 v] }).objs.size], _, _, H, rfl,
    I1.kept (t' := tk) fun b o e => Heap.get?_push_of_some _ e, turn_range _ lo (hi - lo).toNat, ?_, fun b hb => ?_, q⟩
  · have e1 : lo + ((0 : Nat) : Int) * 1 = lo := by simp
    have e2 : (((hi - lo).toNat : Nat) : Int) - ((0 : Nat) : Int) = Builtin.Range.rangeSize lo hi 1 := by rw [rangeSize_one]; split <;> omega
    show IsRangeIter _ _ (lo + ((0 : Nat) : Int) * 1) ((((hi - lo).toNat : Nat) : Int) - ((0 : Nat) : Int)) 1
    rw [e1, e2]
    exact Heap.get?_push_size _ rfl
  · have e : b = (s.heap.push { cls := .type "range", data := .fields #[.int lo t, .int hi u, .int 1 v] }).objs.size := by simpa using hb
    subst e
    exact I1.fpOk (Nat.le_refl _) (I1.hok.fresh (Nat.le_refl _))
def iRng1 (ta : TA) : TI := fun σ H R => ta σ H fun vs H1 => ∃ j : Int, vs = [.int j] ∧ -(2 ^ 62) ≤ j ∧ j < 2 ^ 62 ∧ R (Itr 0 j.toNat) H1
def iRng2 (ta : TA) : TI := fun σ H R => ta σ H fun vs H1 => ∃ i j : Int, vs = [.int i, .int j] ∧ (-(2 ^ 62) ≤ i ∧ i < 2 ^ 62 ∧ -(2 ^ 62) ≤ j ∧ j < 2 ^ 62) ∧ R (Itr i (j - i).toNat) H1
theorem pi_range1 {a : Expr} {ta : TA} {p pos : Pos} (hg : Gl X "range") (hm : X.mg "range" = none) (ha : PA X [a] ta) (hs : starEach [a] X.env = [(false, eval a X.env)] := by rfl) : PI X tg (.Call (.Name "range" p) [a] [] pos) (iRng1 ta) := by
  intro pins s σ H R I h
  refine Call_ (ld_blt I hg hm boot_range (PyProof.Rows.callWith_type1 (thn (ha pos pins s σ H _ I h) fun us s1 ⟨vs, H1, I1, r1, q1⟩ => ?_) hs rfl))
  obtain ⟨j, e, q1, q2, q⟩ := q1
  subst e
  cases r1 with
  | cons r rr =>
    cases rr
    obtain ⟨t, rfl⟩ := r
    exact call_range_1 (range_it I1 (by omega) (by omega) q1 q2 (by simpa using q))
theorem pi_range2 {a b : Expr} {ta : TA} {p pos : Pos} (hg : Gl X "range") (hm : X.mg "range" = none) (ha : PA X [a, b] ta) (hs : starEach [a, b] X.env = [(false, eval a X.env), (false, eval b X.env)] := by rfl) (hs2 : starEach [b] X.env = [(false, eval b X.env)] := by rfl) :
    PI X tg (.Call (.Name "range" p) [a, b] [] pos) (iRng2 ta) := by
  intro pins s σ H R I h
  refine Call_ (ld_blt I hg hm boot_range (PyProof.Rows.callWith_type1 (thn (ha pos pins s σ H _ I h) fun us s1 ⟨vs, H1, I1, r1, q1⟩ => ?_) (by rw [hs, hs2]) (by rw [hs2]; rfl)))
  obtain ⟨i, j, e, ⟨q1, q2, q3, q4⟩, q⟩ := q1
  subst e
  cases r1 with
  | cons r rr =>
    cases rr with
    | cons r' rr =>
      cases rr
      obtain ⟨t, rfl⟩ := r
      obtain ⟨t', rfl⟩ := r'
      exact call_range_2 (range_it I1 q1 q2 q3 q4 q)

/-! ### for -/
/-- W: the invariant by the turn and a measure; N: what the body is to reach -/
def tFor (wi : TI) (g : TG) (tb : TS) : TS := fun D σ H => wi σ H fun J H1 => ∃ W : Nat → Nat → St → Hp → Prop, (∃ m, W 0 m σ H1) ∧ ∀ i m σ H, W i m σ H →
  (J.stop i H ∧ D.nx σ H) ∨ (J.go i H ∧ ∃ N : St → Hp → Prop, (∀ σ' H', N σ' H' → ∃ m', m' < m ∧ W (i + 1) m' σ' H') ∧ ∀ x H', J.yld i H x H' → g x σ H' fun σ2 H2 => tb { D with nx := N, ct := N, bk := D.nx } σ2 H2)
/-- the records at fp as they stand -/
def pinsAt (fp : List Addr) (h : Heap) : List (Addr × Obj) := fp.filterMap fun b => (h.get? b).map fun o => (b, o)
theorem mem_pinsAt {fp : List Addr} {h : Heap} {b : Addr} {o : Obj} (hb : b ∈ fp) (e : h.get? b = some o) : (b, o) ∈ pinsAt fp h := List.mem_filterMap.mpr ⟨b, hb, by rw [e]; rfl⟩
theorem of_pinsAt {fp : List Addr} {h : Heap} {p : Addr × Obj} (hp : p ∈ pinsAt fp h) : p.1 ∈ fp ∧ h.get? p.1 = some p.2 := by
  obtain ⟨b, hb, e⟩ := List.mem_filterMap.mp hp
  cases q : h.get? b with
  | none => rw [q] at e; cases e
  | some o =>
    rw [q] at e
    have e' : (b, o) = p := Option.some.inj e
    subst e'
    exact ⟨hb, q⟩
theorem Inv.pinned {pins : List (Addr × Obj)} {σ : St} {H : Hp} {s : Shared} {fp : List Addr} (I : Inv X pins σ H s) (hf : ∀ b ∈ fp, FpOk X pins H b) (ho : ∀ b ∈ fp, ∃ o, s.heap.get? b = some o ∧ ∀ v, o.data ≠ .cell v) : Inv X (pins ++ pinsAt fp s.heap) σ H s :=
  I.pins_of fun p hp => (List.mem_append.mp hp).elim (fun z => I.pin p (List.mem_append_right _ z)) fun z => by
    obtain ⟨hb, e⟩ := of_pinsAt z
    obtain ⟨f0, f1, f2, _⟩ := hf p.1 hb
    obtain ⟨o, e', d⟩ := ho p.1 hb
    rw [e] at e'; cases e'
    exact ⟨e, f0, f1, f2, d⟩
theorem Inv.unpinned {pins pl : List (Addr × Obj)} {σ : St} {H : Hp} {s : Shared} (I : Inv X (pins ++ pl) σ H s) : Inv X pins σ H s := I.pins_of fun p hp => I.pin p (List.mem_append_right _ (List.mem_append_left _ hp))
theorem ps_for {iter : Expr} {body : List Stmt} {wi : TI} {g : TG} {tb : TS} {pos : Pos} (hp : PassesOwn (model X.prog X.w) X.A X.env X.xe) (hc : X.calm = true) (hi : PI X tg iter wi) (hg : PG X tg g) (hb : PSs X body tb)
    (hs : ∀ x, foldedSetIterable iter X.env x = pure x := by intro _; rfl) : PS X (.For tg iter body [] pos) (tFor wi g tb) := by
  intro pins s σ H D I h
  refine wpAny_For (thn (hi pins s σ H _ I h) fun v s1 h1 => thn h1 fun itv s2 h2 => ?_) hs
  obtain ⟨it, fp, tn, J, H2, e, I2, T, st2, f2, W, ⟨m0, w0⟩, turn⟩ := h2
  subst e
  -- what stays true of the iterator's objects through the loop
  have stat : ∀ {H' : Hp}, (∀ b ∈ fp, H' b = none) → ∀ b ∈ fp, FpOk X pins H' b := fun hn b hb => ⟨hn b hb, (f2 b hb).2⟩
  refine codeAny_forLoop_any (fun n s' => ∃ i σ' H', Inv X pins σ' H' s' ∧ tn i s'.heap ∧ (∀ b ∈ fp, H' b = none) ∧ W i n σ' H') ?_ m0 ⟨0, σ, H2, I2, st2, fun b hb => (f2 b hb).1, w0⟩
  rintro n s3 ⟨i, σ3, H3, I3, st3, fr3, w3⟩
  rcases turn i n σ3 H3 w3 with ⟨stop, qn⟩ | ⟨go, N, hN, step⟩
  · refine wpAny_passesOwn hp (thn (T.done X rfl rfl rfl hc i pins s3 σ3 H3 X.xe I3 (stat fr3) st3 stop) fun r s4 ⟨hr, I4⟩ => ?_)
    subst hr
    exact wpAny_execs_nil ⟨σ3, H3, I4, qn⟩
  · refine wpAny_passesOwn hp (thn (T.item X rfl rfl rfl hc i pins s3 σ3 H3 X.xe I3 (stat fr3) st3 go) fun r s4 ⟨u, hr, h4⟩ => ?_)
    subst hr
    refine wpAny_passesOwn hp (thn h4 fun _ s5 ⟨x, H5, I5, r5, y5, st5, fr5⟩ => ?_)
    have I5' := I5.pinned (stat fr5) (T.obj _ _ st5)
    refine wpAny_passesOwn hp (thn (hg _ s5 σ3 H5 x u _ I5' r5 (step x H5 y5)) fun _ s6 ⟨σ6, H6, I6, q6⟩ => ?_)
    refine wpAny_passesOwn hp (thn (hb _ s6 σ6 H6 _ I6 q6) fun f s7 q7 => ?_)
    have again : ∀ {σ7 : St} {H7 : Hp}, Inv X (pins ++ pinsAt fp s5.heap) σ7 H7 s7 → N σ7 H7 → ∃ m, m < n ∧ ∃ i σ' H', Inv X pins σ' H' s7 ∧ tn i s7.heap ∧ (∀ b ∈ fp, H' b = none) ∧ W i m σ' H' := fun {σ7 H7} I7 n7 => by
      obtain ⟨m', hm, w7⟩ := hN σ7 H7 n7
      refine ⟨m', hm, i + 1, σ7, H7, I7.unpinned, T.keep _ _ _ st5 fun b hb o e => (I7.pin (b, o) (List.mem_append_right _ (List.mem_append_right _ (mem_pinsAt hb e)))).1, fun b hb => ?_, w7⟩
      obtain ⟨o, e, d⟩ := T.obj _ _ st5 b hb
      exact (I7.pin (b, o) (List.mem_append_right _ (List.mem_append_right _ (mem_pinsAt hb e)))).2.1
    cases f with
    | next => obtain ⟨σ7, H7, I7, n7⟩ := q7; exact again I7 n7
    | cont => obtain ⟨σ7, H7, I7, n7⟩ := q7; exact again I7 n7
    | brk => obtain ⟨σ7, H7, I7, q7⟩ := q7; exact ⟨σ7, H7, I7.unpinned, q7⟩
    | ret v => obtain ⟨x7, σ7, H7, I7, r7, q7⟩ := q7; exact ⟨x7, σ7, H7, I7.unpinned, r7, q7⟩
end

/-! ### the forms one uses -/
/-- over a list that the body leaves as it is -/
theorem for_list {K : PySem.W.Frag} {a : Addr} {xs : List V} {g : TG} {tb : TS} {D : Ends} {σ : St} {H : Hp} (Pv : Nat → St → Hp → Prop) (h0 : Pv 0 σ H) (hl : ∀ i σ H, i ≤ xs.length → Pv i σ H → SqL K H a xs)
    (hs : ∀ i x σ H, xs[i]? = some x → Pv i σ H → g x σ H fun σ2 H2 => tb { D with nx := Pv (i + 1), ct := Pv (i + 1), bk := D.nx } σ2 H2) (hd : ∀ σ H, Pv xs.length σ H → D.nx σ H) :
    ∃ W : Nat → Nat → St → Hp → Prop, (∃ m, W 0 m σ H) ∧ ∀ i m σ H, W i m σ H →
      ((Itl K a).stop i H ∧ D.nx σ H) ∨ ((Itl K a).go i H ∧ ∃ N : St → Hp → Prop, (∀ σ' H', N σ' H' → ∃ m', m' < m ∧ W (i + 1) m' σ' H') ∧ ∀ x H', (Itl K a).yld i H x H' → g x σ H' fun σ2 H2 => tb { D with nx := N, ct := N, bk := D.nx } σ2 H2) := by
  refine ⟨fun i m σ H => m = xs.length - i ∧ i ≤ xs.length ∧ Pv i σ H, ⟨xs.length, by simp, Nat.zero_le _, h0⟩, ?_⟩
  rintro i m σ H ⟨rfl, hi, p⟩
  have q := hl i σ H hi p
  by_cases hlt : i < xs.length
  · refine .inr ⟨⟨xs, xs[i], q, by simp [hlt]⟩, Pv (i + 1), fun σ' H' p' => ⟨xs.length - (i + 1), by omega, rfl, hlt, p'⟩, fun x H' y => ?_⟩
    obtain ⟨e, y⟩ := y
    subst e
    exact hs i x σ _ (y xs q) p
  · have e : i = xs.length := by omega
    subst e
    exact .inl ⟨⟨xs, q, Nat.le_refl _⟩, hd σ H p⟩
theorem for_range {lo : Int} {n : Nat} {g : TG} {tb : TS} {D : Ends} {σ : St} {H : Hp} (Pv : Nat → St → Hp → Prop) (h0 : Pv 0 σ H)
    (hs : ∀ i σ H, i < n → Pv i σ H → g (.int (lo + i)) σ H fun σ2 H2 => tb { D with nx := Pv (i + 1), ct := Pv (i + 1), bk := D.nx } σ2 H2) (hd : ∀ σ H, Pv n σ H → D.nx σ H) :
    ∃ W : Nat → Nat → St → Hp → Prop, (∃ m, W 0 m σ H) ∧ ∀ i m σ H, W i m σ H →
      ((Itr lo n).stop i H ∧ D.nx σ H) ∨ ((Itr lo n).go i H ∧ ∃ N : St → Hp → Prop, (∀ σ' H', N σ' H' → ∃ m', m' < m ∧ W (i + 1) m' σ' H') ∧ ∀ x H', (Itr lo n).yld i H x H' → g x σ H' fun σ2 H2 => tb { D with nx := N, ct := N, bk := D.nx } σ2 H2) := by
  refine ⟨fun i m σ H => m = n - i ∧ i ≤ n ∧ Pv i σ H, ⟨n, by simp, Nat.zero_le _, h0⟩, ?_⟩
  rintro i m σ H ⟨rfl, hi, p⟩
  by_cases hlt : i < n
  · refine .inr ⟨hlt, Pv (i + 1), fun σ' H' p' => ⟨n - (i + 1), by omega, rfl, hlt, p'⟩, fun x H' y => ?_⟩
    obtain ⟨e, y⟩ := y
    subst e y
    exact hs i σ _ hlt p
  · have e : i = n := by omega
    subst e
    exact .inl ⟨Nat.le_refl _, hd σ H p⟩
end L2

namespace L2
open PySem PySem.Spec PyProof.Rows

abbrev R2 := V → V → Hp → VK → Prop
/-- a two-place operation on values: f is binaryOp op, inplaceOp op or compareOp op -/
def OpR (X : Cx) (f : Value → Value → Sem Value) (r : R2) : Prop :=
  ∀ (pins : List (Addr × Obj)) (s : Shared) (σ : St) (H : Hp) (x y : V) (v u : Value) (Q : VK), Inv X pins σ H s → RelV x v → RelV y u → r x y H Q →
    wpAny (model X.prog X.w) X.A (f v u) (EP X pins σ Q) X.xe s
/-- a one-place operation -/
def UnR (X : Cx) (f : Value → Sem Value) (r : V → Hp → VK → Prop) : Prop :=
  ∀ (pins : List (Addr × Obj)) (s : Shared) (σ : St) (H : Hp) (x : V) (v : Value) (Q : VK), Inv X pins σ H s → RelV x v → r x H Q →
    wpAny (model X.prog X.w) X.A (f v) (EP X pins σ Q) X.xe s
/-- a call of a value that is known (a builtin, a type) with values -/
def CallR (X : Cx) (f : Value) (r : List V → Hp → VK → Prop) : Prop :=
  ∀ (pins : List (Addr × Obj)) (s : Shared) (σ : St) (H : Hp) (xs : List V) (us : List Value) (Q : VK), Inv X pins σ H s → Vals xs us → r xs H Q →
    wpAny (model X.prog X.w) X.A (call f us) (EP X pins σ Q) X.xe s
/-- a value's truth -/
def TruR (X : Cx) (r : V → Hp → (Bool → Hp → Prop) → Prop) : Prop :=
  ∀ (pins : List (Addr × Obj)) (s : Shared) (σ : St) (H : Hp) (x : V) (v : Value) (Q : Bool → Hp → Prop), Inv X pins σ H s → RelV x v → r x H Q →
    wpAny (model X.prog X.w) X.A (truthy v) (TP X pins σ Q) X.xe s

def tOp (r : R2) (ta tb : TE) : TE := fun σ H Q => ta σ H fun x H1 => tb σ H1 fun y H2 => r x y H2 Q
def tUn (r : V → Hp → VK → Prop) (ta : TE) : TE := fun σ H Q => ta σ H fun x H1 => r x H1 Q
/-- ints in, under C, and a value out -/
def rI (C : Int → Int → Prop) (g : Int → Int → V) : R2 := fun x y H Q => ∃ i j, x = .int i ∧ y = .int j ∧ C i j ∧ Q (g i j) H
def rI0 (g : Int → Int → V) : R2 := fun x y H Q => ∃ i j, x = .int i ∧ y = .int j ∧ Q (g i j) H
def rU (g : Int → V) : V → Hp → VK → Prop := fun x H Q => ∃ i, x = .int i ∧ Q (g i) H

section
variable {X : Cx} {a b c : Expr} {ta tb tc : TE} {pos : Pos}

theorem binT (ha : PE X a ta) (hb : PE X b tb) {pins : List (Addr × Obj)} {s : Shared} {σ : St} {H : Hp} {R : V → V → Hp → Prop} (I : Inv X pins σ H s)
    (h : ta σ H fun x H1 => tb σ H1 fun y H2 => R x y H2) {Q : Value → Shared → Prop} {f : Value → Value → Sem Value}
    (hf : ∀ v u s2 x y H2, Inv X pins σ H2 s2 → RelV x v → RelV y u → R x y H2 → wpAny (model X.prog X.w) X.A (f v u) Q X.xe s2) :
    wpAny (model X.prog X.w) X.A (eval a X.env) (fun v s₁ => wpAny (model X.prog X.w) X.A (eval b X.env) (fun u s₂ => wpAny (model X.prog X.w) X.A (f v u) Q X.xe s₂) X.xe s₁) X.xe s := by
  refine thn (ha pins s σ H _ I h) fun v s1 ⟨x, H1, I1, r1, q1⟩ => ?_
  refine thn (hb pins s1 σ H1 _ I1 q1) fun u s2 ⟨y, H2, I2, r2, q2⟩ => ?_
  exact hf v u s2 x y H2 I2 r1 r2 q2

theorem pe_op {op : Operator} {r : R2} (ho : OpR X (binaryOp op) r) (ha : PE X a ta) (hb : PE X b tb) : PE X (.BinOp a op b pos) (tOp r ta tb) := by
  intro pins s σ H Q I h
  exact wpAny_BinOp (binT ha hb I h fun v u s2 x y H2 I2 rx ry q => ho pins s2 σ H2 x y v u Q I2 rx ry q)
theorem pe_un {op : UnaryOp} {r : V → Hp → VK → Prop} (ho : UnR X (unaryOp op) r) (ha : PE X a ta) : PE X (.UnaryOp op a pos) (tUn r ta) := by
  intro pins s σ H Q I h
  exact UnaryOp_ (thn (ha pins s σ H _ I h) fun v s1 ⟨x, H1, I1, r1, q1⟩ => ho pins s1 σ H1 x v Q I1 r1 q1)
/-! ### ints -/
theorem opI {f : Value → Value → Sem Value} {C : Int → Int → Prop} {g : Int → Int → Int}
    (rule : ∀ (i j : Int) (t u : Tok) (s : Shared) (Q : Value → Shared → Prop) (E : Value → Shared → Prop), C i j → Q (.int (g i j) s.toks) { s with toks := s.toks + 1 } → wpAny (model X.prog X.w) X.A (f (.int i t) (.int j u)) Q E s) :
    OpR X f (rI C fun i j => .int (g i j)) := by
  intro pins s σ H x y v u Q I rx ry h
  obtain ⟨i, j, rfl, rfl, hc, q⟩ := h
  obtain ⟨t, rfl⟩ := rx
  obtain ⟨t', rfl⟩ := ry
  exact rule i j t t' s _ _ hc ⟨.int (g i j), H, I.tok _, ⟨_, rfl⟩, q⟩
theorem opI0 {f : Value → Value → Sem Value} {g : Int → Int → Int}
    (rule : ∀ (i j : Int) (t u : Tok) (s : Shared) (Q : Value → Shared → Prop) (E : Value → Shared → Prop), Q (.int (g i j) s.toks) { s with toks := s.toks + 1 } → wpAny (model X.prog X.w) X.A (f (.int i t) (.int j u)) Q E s) :
    OpR X f (rI0 fun i j => .int (g i j)) := by
  intro pins s σ H x y v u Q I rx ry h
  obtain ⟨i, j, rfl, rfl, q⟩ := h
  obtain ⟨t, rfl⟩ := rx
  obtain ⟨t', rfl⟩ := ry
  exact rule i j t t' s _ _ ⟨.int (g i j), H, I.tok _, ⟨_, rfl⟩, q⟩
theorem opB0 {f : Value → Value → Sem Value} {g : Int → Int → Bool}
    (rule : ∀ (i j : Int) (t u : Tok) (s : Shared) (Q : Value → Shared → Prop) (E : Value → Shared → Prop), Q (.bool (g i j)) s → wpAny (model X.prog X.w) X.A (f (.int i t) (.int j u)) Q E s) :
    OpR X f (rI0 fun i j => .bl (g i j)) := by
  intro pins s σ H x y v u Q I rx ry h
  obtain ⟨i, j, rfl, rfl, q⟩ := h
  obtain ⟨t, rfl⟩ := rx
  obtain ⟨t', rfl⟩ := ry
  exact rule i j t t' s _ _ ⟨.bl (g i j), H, I, rfl, q⟩

def CDiv (i j : Int) : Prop := 0 < j ∧ j < 1073741824
def CPow (i j : Int) : Prop := 0 ≤ j ∧ j ≤ 1000000 ∧ i.natAbs < 2 ^ 64
theorem op_add : OpR X (binaryOp .Add) (rI0 fun i j => .int (i + j)) := opI0 fun _ _ _ _ _ _ _ q => add_int q
theorem op_sub : OpR X (binaryOp .Sub) (rI0 fun i j => .int (i - j)) := opI0 fun _ _ _ _ _ _ _ q => sub_int q
/-- // by a positive divisor -/
theorem op_fdiv : OpR X (binaryOp .FloorDiv) (rI CDiv fun i j => .int (i / j)) := opI fun i j _ _ _ _ _ hc q => by
  have h1 : (0 : Int) < j := hc.1
  have h2 : j < 1073741824 := hc.2
  exact floordiv_int (by omega) (by rw [Int.fdiv_eq_ediv_of_nonneg i (by omega)]; exact q) (.inl (PyProof.noPylong_small (by omega)))
/-- % by a positive divisor of any size -/
theorem op_mod : OpR X (binaryOp .Mod) (rI (fun _ j => 0 < j) fun i j => .int (i % j)) := opI fun i j _ _ _ _ _ hc q => by
  have h1 : (0 : Int) < j := hc
  exact mod_int' (by omega) (by rw [Int.fmod_eq_emod_of_nonneg i (by omega)]; exact q)
theorem op_pow : OpR X (binaryOp .Pow) (rI CPow fun i j => .int (i ^ j.toNat)) := opI fun _ _ _ _ _ _ _ hc q => pow_int_small hc.1 hc.2.1 hc.2.2 q
theorem unI {f : Value → Sem Value} {g : Int → Int}
    (rule : ∀ (i : Int) (t : Tok) (s : Shared) (Q : Value → Shared → Prop) (E : Value → Shared → Prop), Q (.int (g i) s.toks) { s with toks := s.toks + 1 } → wpAny (model X.prog X.w) X.A (f (.int i t)) Q E s) :
    UnR X f (rU fun i => .int (g i)) := by
  intro pins s σ H x v Q I rx h
  obtain ⟨i, rfl, q⟩ := h
  obtain ⟨t, rfl⟩ := rx
  exact rule i t s _ _ ⟨.int (g i), H, I.tok _, ⟨_, rfl⟩, q⟩
theorem un_neg : UnR X (unaryOp .USub) (rU fun i => .int (-i)) := unI fun _ _ _ _ _ q => neg_int q
/-! ### bools among ints: n += (a < b) -/
end

/-! ### comparisons -/
/-- the scalars that == tells apart as data does -/
def scal : V → V → Bool
  | .non, .non => true | .non, .int _ => true | .int _, .non => true | .non, .bl _ => true | .bl _, .non => true | .non, .str _ => true | .str _, .non => true
  | .int _, .int _ => true | .bl _, .bl _ => true | .str _, .str _ => true | .byt _, .byt _ => true
  | .int _, .str _ => true | .str _, .int _ => true | .bl _, .str _ => true | .str _, .bl _ => true
  | _, _ => false
def rEq : R2 := fun x y H Q => scal x y = true ∧ Q (.bl (decide (x = y))) H
theorem dec_int {i j : Int} : decide (V.int i = V.int j) = (i == j) := by
  rw [Bool.eq_iff_iff]
  simp
theorem dec_bl {i j : Bool} : decide (V.bl i = V.bl j) = (i == j) := by
  rw [Bool.eq_iff_iff]
  simp
theorem dec_str {i j : Str} : decide (V.str i = V.str j) = (i == j) := by
  rw [Bool.eq_iff_iff]
  simp
theorem dec_byt {i j : Array UInt8} : decide (V.byt i = V.byt j) = (i.toList == j.toList) := by
  rw [Bool.eq_iff_iff]
  cases i
  cases j
  simp

section
variable {X : Cx} {a b c : Expr} {ta tb tc : TE} {pos : Pos}
theorem fin_bl {pins : List (Addr × Obj)} {σ : St} {H : Hp} {s : Shared} {Q : VK} {k k' : Bool} (I : Inv X pins σ H s) (q : Q (.bl k) H) (e : k = k') : EP X pins σ Q (.bool k') s := by
  subst e
  exact ⟨.bl k, H, I, rfl, q⟩
theorem op_eq : OpR X (compareOp .Eq) rEq := by
  intro pins s σ H x y v u Q I rx ry h
  obtain ⟨hs, q⟩ := h
  cases x with
  | non =>
    cases rx
    cases y with
    | non => cases ry; exact PySem.EqNone.eq_none_none (fin_bl I q (by simp))
    | bl j => cases ry; exact PySem.EqNone.eq_none_bool (fin_bl I q (by simp))
    | int j => obtain ⟨t', rfl⟩ := ry; exact PySem.EqNone.eq_none_int (fin_bl I q (by simp))
    | str j => obtain ⟨t', rfl⟩ := ry; exact PySem.EqNone.eq_none_str (fin_bl I q (by simp))
    | _ => exact absurd (show false = true from hs) Bool.false_ne_true
  | bl i =>
    cases rx
    cases y with
    | non => cases ry; exact PySem.EqNone.eq_bool_none (fin_bl I q (by simp))
    | bl j => cases ry; exact eq_bool (fin_bl I q dec_bl)
    | str j => obtain ⟨t', rfl⟩ := ry; exact PySem.EqMixed.eq_bool_str (fin_bl I q (by simp))
    | _ => exact absurd (show false = true from hs) Bool.false_ne_true
  | int i =>
    obtain ⟨t, rfl⟩ := rx
    cases y with
    | non => cases ry; exact PySem.EqNone.eq_int_none (fin_bl I q (by simp))
    | int j => obtain ⟨t', rfl⟩ := ry; exact eq_int (fin_bl I q dec_int)
    | str j => obtain ⟨t', rfl⟩ := ry; exact PySem.EqMixed.eq_int_str (fin_bl I q (by simp))
    | _ => exact absurd (show false = true from hs) Bool.false_ne_true
  | str i =>
    obtain ⟨t, rfl⟩ := rx
    cases y with
    | non => cases ry; exact PySem.EqNone.eq_str_none (fin_bl I q (by simp))
    | bl j => cases ry; exact PySem.EqMixed.eq_str_bool (fin_bl I q (by simp))
    | int j => obtain ⟨t', rfl⟩ := ry; exact PySem.EqMixed.eq_str_int (fin_bl I q (by simp))
    | str j => obtain ⟨t', rfl⟩ := ry; exact eq_str (fin_bl I q dec_str)
    | _ => exact absurd (show false = true from hs) Bool.false_ne_true
  | byt i =>
    obtain ⟨t, rfl⟩ := rx
    cases y with
    | byt j => obtain ⟨t', rfl⟩ := ry; exact PySem.W.eq_bytes (fin_bl I q dec_byt)
    | _ => exact absurd (show false = true from hs) Bool.false_ne_true
  | _ => cases y <;> exact absurd (show false = true from hs) Bool.false_ne_true
theorem op_lt : OpR X (compareOp .Lt) (rI0 fun i j => .bl (decide (i < j))) := opB0 fun _ _ _ _ _ _ _ q => lt_int q
theorem op_le : OpR X (compareOp .LtE) (rI0 fun i j => .bl (decide (i ≤ j))) := opB0 fun _ _ _ _ _ _ _ q => le_int q
theorem op_gt : OpR X (compareOp .Gt) (rI0 fun i j => .bl (decide (j < i))) := opB0 fun _ _ _ _ _ _ _ q => gt_int q
theorem op_ge : OpR X (compareOp .GtE) (rI0 fun i j => .bl (decide (j ≤ i))) := opB0 fun _ _ _ _ _ _ _ q => ge_int q
/-- is None, is not None: the right side a value none -/
theorem op_isN : OpR X (compareOp .Is) (fun x y H Q => y = .non ∧ Q (.bl (decide (x = .non))) H) := by
  intro pins s σ H x y v u Q I rx ry h
  obtain ⟨rfl, q⟩ := h
  cases ry
  refine is_none_gen (fin_bl I q ?_)
  cases x <;> first
    | (cases rx; rfl)
    | (obtain ⟨t, rfl⟩ := rx; rfl)
theorem nomark (b : Expr) {op : CmpOp} (h : op ≠ .In := by decide) (h2 : op ≠ .NotIn := by decide) : behindInMarks op b = false := by
  have e1 : (op == CmpOp.In) = false := by cases op <;> first | rfl | exact absurd rfl h
  have e2 : (op == CmpOp.NotIn) = false := by cases op <;> first | rfl | exact absurd rfl h2
  cases b <;> simp [behindInMarks, e1, e2]
/-- a comparison as a value; hm: nomark b, or (for in, not in) by with_unfolding_all rfl -/
theorem pe_cmpR {op : CmpOp} {r : R2} (ho : OpR X (compareOp op) r) (ha : PE X a ta) (hb : PE X b tb) (hm : behindInMarks op b = false) : PE X (.Compare a [op] [b] pos) (tOp r ta tb) := by
  intro pins s σ H Q I h
  exact wpAny_Compare1 (binT ha hb I h fun v u s2 x y H2 I2 rx ry q => ho pins s2 σ H2 x y v u Q I2 rx ry q) hm
/-- a reading of a value as a test -/
def tTest (t : TE) : TT := fun σ H Q => t σ H fun x H' => ∃ k, x = .bl k ∧ Q k H'
theorem pt_cmpR {op : CmpOp} {r : R2} (ho : OpR X (compareOp op) r) (ha : PE X a ta) (hb : PE X b tb) (hm : behindInMarks op b = false) : PT X (.Compare a [op] [b] pos) (tTest (tOp r ta tb)) := by
  intro pins s σ H Q I h
  refine wpAny_isTrue_Compare1 (thn (ha pins s σ H _ I h) fun v s1 ⟨x, H1, I1, r1, q1⟩ => thn (hb pins s1 σ H1 _ I1 q1) fun u s2 ⟨y, H2, I2, r2, q2⟩ =>
    thn (ho pins s2 σ H2 x y v u _ I2 r1 r2 q2) fun c s3 ⟨z, H3, I3, r3, k, e, q3⟩ => ?_) hm
  subst e
  cases r3
  exact wpAny_truthy_bool ⟨H3, I3, q3⟩
/-- a op1 b op2 c -/
def tChain (r r' : R2) (ta tb tc : TE) : TE := fun σ H Q => ta σ H fun x H1 => tb σ H1 fun y H2 => r x y H2 fun z H3 => ∃ k, z = .bl k ∧
  (if k = true then tc σ H3 fun w' H4 => r' y w' H4 Q else Q (.bl false) H3)
theorem pe_chain {op op' : CmpOp} {r r' : R2} (ho : OpR X (compareOp op) r) (ho' : OpR X (compareOp op') r') (ha : PE X a ta) (hb : PE X b tb) (hc : PE X c tc)
    (hm : lastMarks [op, op'] [b, c] = false := by with_unfolding_all rfl) : PE X (.Compare a [op, op'] [b, c] pos) (tChain r r' ta tb tc) := by
  intro pins s σ H Q I h
  refine Compare_chain (thn (ha pins s σ H _ I h) fun v s1 ⟨x, H1, I1, r1, q1⟩ => chain_link (thn (hb pins s1 σ H1 _ I1 q1) fun u s2 ⟨y, H2, I2, r2, q2⟩ =>
    thn (ho pins s2 σ H2 x y v u _ I2 r1 r2 q2) fun d s3 ⟨z, H3, I3, r3, k, e, q3⟩ => ?_)) hm
  subst e
  cases r3
  refine wpAny_truthy_bool ?_
  cases k with
  | false => exact ite_ff ⟨.bl false, H3, I3, rfl, q3⟩
  | true => exact ite_tt (chain_last (thn (hc pins s3 σ H3 _ I3 q3) fun w' s4 ⟨z', H4, I4, r4, q4⟩ => ho' pins s4 σ H4 y z' u w' Q I4 r2 r4 q4))
/-! ### truth -/
/-- a value's truth by the abstract heap -/
def TruV (K : PySem.W.Frag) (x : V) (H : Hp) (k : Bool) : Prop :=
  match x with
  | .non => k = false
  | .bl b => k = b
  | .int i => k = (i != 0)
  | .str y => y.length ≤ sizeLine ∧ k = ((y.length : Int) != 0)
  | .byt y => y.size ≤ sizeLine ∧ k = ((y.size : Int) != 0)
  | .ref p => (∃ xs, SqL K H p xs ∧ k = !xs.isEmpty) ∨ (∃ xs, SqT K H p xs ∧ k = !xs.isEmpty) ∨ ∃ kvs, H p = some (.dK kvs) ∧ k = !kvs.isEmpty
  | _ => False
theorem isEmpty_kv {κ : Type} {kvs : List (κ × V)} {vs : List (κ × Value)} (r : KV kvs vs) : (!vs.isEmpty) = !kvs.isEmpty := by
  cases r <;> rfl
theorem isEmpty_of {xs : List V} {its : List Value} (r : Vals xs its) : (!its.toArray.isEmpty) = !xs.isEmpty := by
  cases r <;> simp
theorem line63 : (sizeLine : Nat) < 2 ^ 63 := by rw [sizeLine_eq]; decide
theorem tru_ok : TruR X (fun x H Q => ∃ k, TruV X.K x H k ∧ Q k H) := by
  intro pins s σ H x v Q I rx h
  obtain ⟨k, e, q⟩ := h
  have hl := line63
  have hs : sizeLine = 16777216 := sizeLine_eq
  cases x with
  | non =>
    cases rx
    have e' : k = false := e
    subst e'
    exact truthy_none ⟨H, I, q⟩
  | bl b =>
    cases rx
    have e' : k = b := e
    subst e'
    exact wpAny_truthy_bool ⟨H, I, q⟩
  | int i =>
    obtain ⟨t, rfl⟩ := rx
    have e' : k = (i != 0) := e
    subst e'
    exact PySem.P.truthy_int ⟨H, I, q⟩
  | str y =>
    obtain ⟨t, rfl⟩ := rx
    obtain ⟨hy, e'⟩ : y.length ≤ sizeLine ∧ k = ((y.length : Int) != 0) := e
    subst e'
    exact PySem.P.truthy_str (by omega) ⟨H, I.tok _, q⟩
  | byt y =>
    obtain ⟨t, rfl⟩ := rx
    obtain ⟨hy, e'⟩ : y.size ≤ sizeLine ∧ k = ((y.size : Int) != 0) := e
    subst e'
    exact PySem.W.truthy_bytes (by omega) ⟨H, I.tok _, q⟩
  | ref p =>
    cases rx
    have e' : (∃ xs, SqL X.K H p xs ∧ k = !xs.isEmpty) ∨ (∃ xs, SqT X.K H p xs ∧ k = !xs.isEmpty) ∨ ∃ kvs, H p = some (.dK kvs) ∧ k = !kvs.isEmpty := e
    rcases e' with ⟨xs, hx, e'⟩ | ⟨xs, hx, e'⟩ | ⟨kvs, hx, e'⟩
    · subst e'
      obtain ⟨its, r, pl, hz⟩ := I.list hx
      have hlen := r.length
      exact wpAny_truthy_list pl.isList (by simp only [List.size_toArray]; omega) ⟨H, I.tok _, by rw [isEmpty_of r]; exact q⟩
    · subst e'
      obtain ⟨its, r, pl, hz⟩ := I.tuple hx
      have hlen := r.length
      exact truthy_tuple pl (by simp only [List.size_toArray]; omega) ⟨H, I.tok _, by rw [isEmpty_of r]; exact q⟩
    · subst e'
      obtain ⟨hz, hS, vs, r, m⟩ : kvs.length ≤ sizeLine ∧ (p == sysModules) = false ∧ ∃ vs, KV kvs vs ∧ s.heap.DictOf (mixKind X.prog X.w) p vs := I.hok p _ hx
      have hlen : kvs.length = vs.length := Paired.length r
      exact wpAny_truthy_dict hS m (by omega) ⟨H, I.tok _, by rw [isEmpty_kv r]; exact q⟩
  | _ => exact (show False from e).elim
/-- any expression whose test is its value's truth (a name, a call, a subscript, a field ..: he by fun _ => rfl) -/
theorem pt_truth (ha : PE X a ta) (he : ∀ whole, isTrue a X.env whole = (do let v ← whole; standAt a.pos; holding [v] (truthy v))) :
    PT X a (fun σ H Q => ta σ H fun x H' => ∃ k, TruV X.K x H' k ∧ Q k H') := by
  intro pins s σ H Q I h
  exact isTrue_plain (thn (ha pins s σ H _ I h) fun v s1 ⟨x, H1, I1, r1, q1⟩ => tru_ok pins s1 σ H1 x v Q I1 r1 q1) (he _)

/-! ### strs and bytes -/
/-! ### scalar builtins, by CallR -/
theorem vals1 {x : V} {us : List Value} (r : Vals [x] us) : ∃ u, us = [u] ∧ RelV x u := by
  cases r with
  | cons r1 r2 => cases r2; exact ⟨_, rfl, r1⟩
theorem vals2 {x y : V} {us : List Value} (r : Vals [x, y] us) : ∃ u w', us = [u, w'] ∧ RelV x u ∧ RelV y w' := by
  cases r with
  | cons r1 r2 =>
    cases r2 with
    | cons r3 r4 => cases r4; exact ⟨_, _, rfl, r1, r3⟩
theorem call_abs : CallR X (.builtin "abs") (fun xs H Q => ∃ i, xs = [.int i] ∧ Q (.int (if i < 0 then -i else i)) H) := by
  intro pins s σ H xs us Q I r h
  obtain ⟨i, rfl, q⟩ := h
  obtain ⟨u, rfl, t, rfl⟩ := vals1 r
  exact call_abs_int fun u tk => ⟨.int (if i < 0 then -i else i), H, I.tok _, ⟨_, rfl⟩, q⟩
theorem call_int1 : CallR X (.type "int") (fun xs H Q => (∃ i, xs = [.int i] ∧ Q (.int i) H) ∨ ∃ k, xs = [.bl k] ∧ Q (.int (if k then 1 else 0)) H) := by
  intro pins s σ H xs us Q I r h
  rcases h with ⟨i, rfl, q⟩ | ⟨k, rfl, q⟩
  · obtain ⟨u, rfl, t, rfl⟩ := vals1 r
    exact call_int_int ⟨.int i, H, I, ⟨_, rfl⟩, q⟩
  · obtain ⟨u, rfl, r1⟩ := vals1 r
    cases r1
    exact call_int_bool ⟨.int (if k then 1 else 0), H, I.tok _, ⟨_, rfl⟩, q⟩
end
end L2

namespace L2
open PySem PySem.Spec PyProof.Rows

/-! ### an instance, its attributes a map -/
structure ObjM (h : Heap) (x dx C : Addr) (mA : Str → Option Value) : Prop where
  obj : h.get? x = some (PySem.W.instObj C dx)
  ns : h.Ns1 dx mA
  ne : dx ≠ x

theorem lookIn_ns {h : Heap} {dx : Addr} {mA : Str → Option Value} (n : h.Ns1 dx mA) : ∃ od, h.get? dx = some od ∧ ∀ name, PySem.W.lookIn name od = some (mA name) := by
  obtain ⟨o, es, ep, ho, hd, hk, _, hm⟩ := n
  refine ⟨o, ho, fun name => ?_⟩
  have e := hm name
  unfold nsFind findBy at e
  rw [← Array.find?_toList] at e
  unfold PySem.W.lookIn
  rw [hd]
  dsimp only
  split
  · rename_i y q
    rw [q] at e
    exact congrArg some e
  · rename_i q
    rw [q] at e
    have a : es.toList.any (·.refKey) = false := by
      rw [List.any_eq_false]
      intro y hy
      obtain ⟨z, t, hkey⟩ := hk y (Array.mem_toList_iff.mp hy)
      simp [DictEntry.refKey, hkey]
    have a' : ¬ es.toList.any (·.refKey) = true := by rw [a]; exact Bool.false_ne_true
    rw [if_neg a']
    exact congrArg some e

theorem ObjM.look {h : Heap} {x dx C : Addr} {mA : Str → Option Value} (I : ObjM h x dx C mA) : ∃ od, PySem.W.InstAt h x (PySem.W.instObj C dx) C (some od) ∧ ∀ name, PySem.W.lookIn name od = some (mA name) :=
  let ⟨od, ho, hl⟩ := lookIn_ns I.ns
  ⟨od, ⟨I.obj, rfl, rfl, ho⟩, hl⟩

section
variable {prog : Program} {w : World} {A : Around} {E : Value → Shared → Prop} {s : Shared} {K : PySem.W.Frag} {x dx C f : Addr} {mA : Str → Option Value} {name : Str} {v : Value}

theorem get_map {expr : Bool} {Q : Value → Shared → Prop} (X : K.In s.heap) (I : ObjM s.heap x dx C mA) (hg : PySem.W.plainGet K C name = true) (hh : PySem.W.hasDictIn K C = true)
    (ha : PySem.W.findIn K (.ref C) name = some none) (hv : mA name = some v) (hv' : PySem.W.handedIn v = true) (h : Q v { s with toks := s.toks + 1 }) :
    wpAny (model prog w) A (getAttr (.ref x) name expr) Q E s := by
  obtain ⟨od, J, hl⟩ := I.look
  exact PySem.W.get_value X J (PySem.W.plainGet_of hg).1 (PySem.W.findObj_own hh ha rfl (by rw [hl, hv])) hv' h

theorem get_meth {pl : Sem Bool} {Q : Value × List Value → Shared → Prop} (X : K.In s.heap) (I : ObjM s.heap x dx C mA) (hg : PySem.W.plainGet K C name = true)
    (hf : PySem.W.findIn K (.ref C) name = some (some (.ref f))) (ht : PySem.W.isFn K (.ref f) = true) (hv : mA name = none) (h : Q (.ref f, [.ref x]) s) :
    wpAny (model prog w) A (getMethod (.ref x) name pl) Q E s := by
  obtain ⟨od, J, hl⟩ := I.look
  exact PySem.W.method_fn X J (PySem.W.plainGet_of hg).1 (PySem.W.plainGet_of hg).2 hf (beq_iff_eq.mp ht) (by show (PySem.W.lookIn name od).map (·.isSome) = some false; rw [hl, hv]; rfl) h

theorem set_map {ns : List Str} {Q : Unit → Shared → Prop} (X : K.In s.heap) (I : ObjM s.heap x dx C mA)
    (hs : PySem.W.findIn K (.ref C) "__setattr__" = some (some (.builtin "object.__setattr__"))) (hp : PySem.W.plainOver K C = true) (ht : PySem.W.takerIn K C name = some none) (hh : PySem.W.hasDictIn K C = true)
    (hw : PySem.Within mA ns) (hsz : ns.length ≤ sizeLine)
    (h : ∀ h', ObjM h' x dx C (fun y => if y = name then some v else mA y) → Heap.SameBut dx s.heap h' → Q () { s with heap := h', toks := s.toks + 2 }) :
    wpAny (model prog w) A (setAttr (.ref x) name v) Q E s := by
  obtain ⟨od, J, hl⟩ := I.look
  refine PySem.W.set_plain X J hs (PySem.W.osa_open (s := { s with toks := s.toks + 1 }) (r := none) X J hp ht fun b => ?_)
  obtain ⟨cd, hc, hd'⟩ := PySem.W.any_some hh
  have hx : s.heap.get? x = some ⟨.ref C, some dx, .plain, #[]⟩ := I.obj
  refine wpAny_bind (wpAny_pure (wpAny_bind (wpAny_bind (wpAny_loadPart hx (wpAny_bind (PySem.W.Looks.here (s := { s with toks := s.toks + 1 }) (PySem.W.looks_clsIn X hc) ?_))))))
  rw [hd']
  refine wpAny_pure (a := some dx) (wpAny_bind (wpAny_pure (wpAny_bind ?_)))
  refine wpAny_nsSet1 (s := { s with toks := s.toks + 1 }) I.ns fun h' hn2 hs2 => ?_
  obtain ⟨oD, esD, epD, hoD, hdD, hcD⟩ := hn2.count (PySem.Within.cons name v hw)
  refine wpAny_bind (wpAny_lookBehind hoD (by rw [hdD]; exact pastItsLine_dict (Nat.le_trans hcD (by rw [List.length_cons]; omega))) ?_)
  exact wpAny_pure (h _ ⟨(hs2.2 _ (Ne.symm I.ne)).trans I.obj, hn2, I.ne⟩ hs2)

/-- C(..): the dict at the heap's end, the instance behind it; then its __init__ -/
theorem make_map {R : Result → Shared → Prop} {vs : List Value} {kw : List (Str × Value)} (X : K.In s.heap) (hm : PySem.W.makesIn K C = true)
    (hi : PySem.W.findIn K (.ref C) "__init__" = some (some (.ref f))) (hf : PySem.W.typeIn K (.ref f) = some (.type "function"))
    (h : codeAny (model prog w) (A.under (.builtin "type.__call__" ⟨.ref C :: vs, kw⟩)) (.call (.ref f) ⟨.ref (s.heap.objs.size + 1) :: vs, kw⟩) (PySem.W.InitBack (s.heap.objs.size + 1) R)
      { s with heap := (s.heap.push PySem.W.emptyDict).push (PySem.W.instObj C s.heap.objs.size) }) :
    codeAny (model prog w) A (.call (.ref C) ⟨vs, kw⟩) R s := by
  obtain ⟨hh, g, d, t, os⟩ := s
  exact PySem.W.make_core (PySem.W.makes_of X hm) (PySem.W.looks_findIn X hi) (fun self => PySem.W.bind_fn X self hf) (.inl rfl) h
end

/-! ### the attributes as a list of pairs -/
def putF (f : Str) (v : V) : List (Str × V) → List (Str × V)
  | [] => [(f, v)]
  | (g, x) :: r => if g = f then (g, v) :: r else (g, x) :: putF f v r
theorem lookup_putF (f g : Str) (v : V) : ∀ fs : List (Str × V), (putF f v fs).lookup g = if g = f then some v else fs.lookup g
  | [] => by
    show List.lookup g [(f, v)] = _
    by_cases h : g = f
    · have hb : (g == f) = true := beq_iff_eq.mpr h
      simp only [List.lookup, hb, if_pos h]
    · have hb : (g == f) = false := beq_eq_false_iff_ne.mpr h
      simp only [List.lookup, hb, if_neg h]
  | (k, x) :: r => by
    have ih := lookup_putF f g v r
    rw [show putF f v ((k, x) :: r) = (if k = f then (k, v) :: r else (k, x) :: putF f v r) from rfl]
    by_cases hk : k = f
    · rw [if_pos hk]
      by_cases h : g = k
      · have hb : (g == k) = true := beq_iff_eq.mpr h
        simp only [List.lookup, hb, if_pos (h.trans hk)]
      · have hb : (g == k) = false := beq_eq_false_iff_ne.mpr h
        simp only [List.lookup, hb, if_neg (fun e : g = f => h (e.trans hk.symm))]
    · rw [if_neg hk]
      by_cases h : g = k
      · have hb : (g == k) = true := beq_iff_eq.mpr h
        simp only [List.lookup, hb, if_neg (fun e : g = f => hk (h.symm.trans e))]
      · have hb : (g == k) = false := beq_eq_false_iff_ne.mpr h
        simp only [List.lookup, hb]
        exact ih
theorem keys_putF (f : Str) (v : V) : ∀ fs : List (Str × V), f ∈ (putF f v fs).map (·.1) ∧ ∀ g, g ∈ fs.map (·.1) → g ∈ (putF f v fs).map (·.1)
  | [] => ⟨by simp [putF], fun g h => by simp at h⟩
  | (k, x) :: r => by
    obtain ⟨i1, i2⟩ := keys_putF f v r
    rw [show putF f v ((k, x) :: r) = (if k = f then (k, v) :: r else (k, x) :: putF f v r) from rfl]
    by_cases hk : k = f
    · rw [if_pos hk]
      subst hk
      exact ⟨by simp, fun g h => by simpa using h⟩
    · rw [if_neg hk]
      refine ⟨?_, fun g h => ?_⟩
      · rw [List.map_cons]
        exact List.mem_cons_of_mem _ i1
      · rw [List.map_cons] at h ⊢
        rcases List.mem_cons.mp h with e | e
        · exact List.mem_cons.mpr (.inl e)
        · exact List.mem_cons_of_mem _ (i2 g e)
theorem length_putF (f : Str) (v : V) : ∀ fs : List (Str × V), (putF f v fs).length ≤ fs.length + 1
  | [] => by simp [putF]
  | (k, x) :: r => by
    have ih := length_putF f v r
    rw [show putF f v ((k, x) :: r) = (if k = f then (k, v) :: r else (k, x) :: putF f v r) from rfl]
    by_cases hk : k = f
    · rw [if_pos hk, List.length_cons, List.length_cons]; omega
    · rw [if_neg hk, List.length_cons, List.length_cons]; omega

theorem RelO.some_of {v : V} {o : Option Value} (r : RelO (some v) o) : ∃ u, o = some u ∧ RelV v u := by
  cases o with
  | none => exact (show False from r).elim
  | some u => exact ⟨u, rfl, r⟩
theorem RelO.none_of {o : Option Value} (r : RelO none o) : o = none := by
  cases o with
  | none => rfl
  | some u => exact (show False from r).elim
theorem handed_of {v : V} {u : Value} (r : RelV v u) : PySem.W.handedIn u = true := by
  cases v with
  | non => cases (show u = Value.none from r); rfl
  | bl b => cases (show u = Value.bool b from r); rfl
  | int i => obtain ⟨t, e⟩ := (show ∃ t, u = Value.int i t from r); cases e; rfl
  | str x => obtain ⟨t, e⟩ := (show ∃ t, u = Value.str x t from r); cases e; rfl
  | byt b => obtain ⟨t, e⟩ := (show ∃ t, u = Value.bytes b t from r); cases e; rfl
  | flt b => obtain ⟨t, e⟩ := (show ∃ t, u = Value.float b t from r); cases e; rfl
  | ref a => cases (show u = Value.ref a from r); rfl
  | ty n => cases (show u = Value.type n from r); rfl

section
variable {P : Program} {w : World} {H H' : Hp} {h h' : Heap} {a C dx : Addr} {fs fs' : List (Str × V)}
theorem ins_get (hok : HOk P w H h) (e : H a = some (.ins C dx fs)) : ∃ mA, ObjM h a dx C mA ∧ (∀ f, RelO (fs.lookup f) (mA f)) ∧ PySem.Within mA (fs.map (·.1)) ∧ fs.length ≤ 1000 ∧ H dx = some (.own a) := by
  obtain ⟨d, z, ne, ob, mA, n, r, q⟩ := (show ObjOk P w H h a (.ins C dx fs) from hok a _ e)
  exact ⟨mA, ⟨ob, n, ne⟩, r, q, z, d⟩
end

/-! ### what of the text a class must have -/
structure Cls (K : PySem.W.Frag) (C : Addr) : Prop where
  pg : PySem.W.plainGet K C Str.empty = true
  hd : PySem.W.hasDictIn K C = true
  po : PySem.W.plainOver K C = true
  sa : PySem.W.findIn K (.ref C) "__setattr__" = some (some (.builtin "object.__setattr__"))
theorem Cls.get {K : PySem.W.Frag} {C : Addr} (c : Cls K C) (f : Str) : PySem.W.plainGet K C f = true := c.pg
/-- no class of it has the name -/
def NoAttr (K : PySem.W.Frag) (C : Addr) (f : Str) : Prop := PySem.W.findIn K (.ref C) f = some none
theorem NoAttr.taker {K : PySem.W.Frag} {C : Addr} {f : Str} (n : NoAttr K C f) : PySem.W.takerIn K C f = some none := by
  unfold PySem.W.takerIn
  rw [show PySem.W.findIn K (.ref C) f = some none from n]
  rfl
/-- a method: a plain def of the class or of one above it -/
structure Meth (K : PySem.W.Frag) (C : Addr) (m : Str) (f : Addr) : Prop where
  at_ : PySem.W.findIn K (.ref C) m = some (some (.ref f))
  fn : PySem.W.isFn K (.ref f) = true
  kp : PySem.W.keepIn K (.ref f) = true

section
variable {X : Cx} {pins : List (Addr × Obj)} {σ : St} {H : Hp} {s : Shared} {a C dx : Addr} {fs : List (Str × V)} {f : Str} {v : V} {A : Around} {E : Value → Shared → Prop}

theorem getattr_ok {b : Bool} {Q : Value → Shared → Prop} (I : Inv X pins σ H s) (e : H a = some (.ins C dx fs)) (c : Cls X.K C) (n : NoAttr X.K C f) (l : fs.lookup f = some v)
    (h : ∀ u s', Inv X pins σ H s' → RelV v u → Q u s') : wpAny (model X.prog X.w) A (getAttr (.ref a) f b) Q E s := by
  obtain ⟨mA, O, r, _, _, _⟩ := ins_get I.hok e
  obtain ⟨u, hu, ru⟩ := RelO.some_of (v := v) (o := mA f) (by rw [← l]; exact r f)
  exact get_map I.kIn O (c.get f) c.hd n hu (handed_of ru) (h u _ (I.tok _) ru)

theorem getmeth_ok {m : Str} {g : Addr} {pl : Sem Bool} {Q : Value × List Value → Shared → Prop} (I : Inv X pins σ H s) (e : H a = some (.ins C dx fs)) (c : Cls X.K C) (k : Meth X.K C m g) (l : fs.lookup m = none)
    (h : Q (.ref g, [.ref a]) s) : wpAny (model X.prog X.w) A (getMethod (.ref a) m pl) Q E s := by
  obtain ⟨mA, O, r, _, _, _⟩ := ins_get I.hok e
  have hn : mA m = none := RelO.none_of (by rw [← l]; exact r m)
  exact get_meth I.kIn O (c.get m) k.at_ k.fn hn h

theorem setattr_ok {y : V} {u : Value} {Q : Unit → Shared → Prop} (I : Inv X pins σ H s) (e : H a = some (.ins C dx fs)) (c : Cls X.K C) (n : NoAttr X.K C f) (hl : fs.length < 1000) (ry : RelV y u)
    (h : ∀ s', Inv X pins σ (upd H a (.ins C dx (putF f y fs))) s' → Q () s') : wpAny (model X.prog X.w) A (setAttr (.ref a) f u) Q E s := by
  obtain ⟨mA, O, r, wi, _, ho⟩ := ins_get I.hok e
  have hz : (fs.map (·.1)).length ≤ sizeLine := by rw [List.length_map, sizeLine_eq]; omega
  refine set_map I.kIn O c.sa c.po n.taker c.hd wi hz fun h' O' sb => h _ ?_
  have hd : ∃ o, h'.get? dx = some o := let ⟨o, _, _, e', _⟩ := O'.ns; ⟨o, e'⟩
  refine I.write (x := a) (e := dx) (by rw [e]; exact True.intro) (.inr ho) (fun b q hb z => (sb.2 b hb).trans z) hd ?_
  refine ⟨by rw [upd_ne O.ne]; exact ho, ?_, O.ne, O'.obj, _, O'.ns, fun g => ?_, fun g hg => ?_⟩
  · have := length_putF f y fs; omega
  · show RelO ((putF f y fs).lookup g) (if g = f then some u else mA g)
    rw [lookup_putF]
    by_cases q : g = f
    · rw [if_pos q, if_pos q]; exact ry
    · rw [if_neg q, if_neg q]; exact r g
  · by_cases q : g = f
    · rw [q]; exact (keys_putF f y fs).1
    · refine (keys_putF f y fs).2 g (wi g fun z => hg ?_)
      show (if g = f then some u else mA g) = none
      rw [if_neg q]; exact z

/-- a new instance, tracked, without attributes -/
theorem Inv.made (I : Inv X pins σ H s) : Inv X pins σ (upd (upd H s.heap.objs.size (.own (s.heap.objs.size + 1))) (s.heap.objs.size + 1) (.ins C s.heap.objs.size []))
    { s with heap := (s.heap.push PySem.W.emptyDict).push (PySem.W.instObj C s.heap.objs.size) } := by
  have e1 : (s.heap.push PySem.W.emptyDict).get? s.heap.objs.size = some PySem.W.emptyDict := Heap.get?_push_size s.heap rfl
  have e2 : ((s.heap.push PySem.W.emptyDict).push (PySem.W.instObj C s.heap.objs.size)).get? (s.heap.objs.size + 1) = some (PySem.W.instObj C s.heap.objs.size) := by
    have := Heap.get?_push_size (s.heap.push PySem.W.emptyDict) (o := PySem.W.instObj C s.heap.objs.size) rfl
    rwa [Heap.size_push] at this
  have e3 : (s.heap.push PySem.W.emptyDict).Ns s.heap.objs.size (fun _ => none) := ⟨PySem.W.emptyDict, #[], _, e1, rfl, (fun e he => absurd he (by simp)), fun _ => rfl⟩
  have I1 := I.laid (a := s.heap.objs.size) (o := .own (s.heap.objs.size + 1)) (h' := s.heap.push PySem.W.emptyDict) (t' := s.toks) (fun b u q => Heap.get?_push_of_some _ q) (Nat.le_refl _) ⟨_, e1⟩
  refine I1.laid (a := s.heap.objs.size + 1) (o := .ins C s.heap.objs.size []) (t' := s.toks) (fun b u q => Heap.get?_push_of_some _ q) (Nat.le_of_eq (Heap.size_push _ _)) ?_
  have ne : s.heap.objs.size ≠ s.heap.objs.size + 1 := Nat.ne_of_lt (Nat.lt_succ_self _)
  refine ⟨by rw [upd_ne ne, upd_same], Nat.zero_le _, ne, e2, fun _ => none, (Heap.Ns1.of_empty e3).at fun o q => Heap.get?_push_of_some _ q, fun _ => True.intro, fun y hy => absurd rfl hy⟩

/-- e.f where nothing but the object is asked: through attributeBase (super) and the last hold -/
theorem attr_of {prog : Program} {w : World} {env : Env} {e : Expr} {f : Str} {pos : Pos} {s : Shared} {Q : Value → Shared → Prop} (hb : attributeBase e f env (eval e env) = eval e env)
    (h : wpAny (model prog w) A (eval e env) (fun o s₁ => wpAny (model prog w) A (getAttr o f true) Q E s₁) E s) : wpAny (model prog w) A (eval (.Attribute e f pos) env) Q E s :=
  Attribute_any_ h (by rw [arm_eval_Attribute, hb])
end

/-! ### readings and rules -/
/-- e.f, an attribute of the instance -/
def tFld (K : PySem.W.Frag) (ta : TE) (f : Str) : TE := fun σ H Q => ta σ H fun x H1 => ∃ a C dx fs v, x = .ref a ∧ H1 a = some (.ins C dx fs) ∧ Cls K C ∧ NoAttr K C f ∧ fs.lookup f = some v ∧ Q v H1
/-- e.f = value -/
def sFld (K : PySem.W.Frag) (ta tv : TE) (f : Str) : TS := fun D σ H => tv σ H fun y H1 => ta σ H1 fun x H2 => ∃ a C dx fs, x = .ref a ∧ H2 a = some (.ins C dx fs) ∧ Cls K C ∧ NoAttr K C f ∧ fs.length < 1000 ∧
  D.nx σ (upd H2 a (.ins C dx (putF f y fs)))
section
variable {X : Cx} {o e value : Expr} {f : Str} {pos pos' tpos : Pos} {ta tv : TE}
theorem pe_fld (he : PE X e ta) (hb : attributeBase e f X.env (eval e X.env) = eval e X.env) : PE X (.Attribute e f pos) (tFld X.K ta f) := by
  intro pins s σ H Q I h
  refine attr_of hb (thn (he pins s σ H _ I h) fun u s1 ⟨x, H1, I1, rx, a, C, dx, fs, v, ex, ea, c, n, l, q⟩ => ?_)
  subst ex
  obtain rfl : u = Value.ref a := rx
  exact getattr_ok I1 ea c n l fun u' s2 I2 ru => ⟨v, H1, I2, ru, q⟩
theorem ps_fld (ha : PE X o ta) (hv : PE X value tv) (hs : swapsWith value (some (.Attribute o f pos')) pos.line X.env = pure false) : PS X (.Assign [.Attribute o f pos'] value pos) (sFld X.K ta tv f) := by
  intro pins s σ H D I h
  refine plainObj_wpAny_Assign_Attribute (thn (hv pins s σ H _ I h) fun u s1 ⟨y, H1, I1, ry, q⟩ => thn (ha pins s1 σ H1 _ I1 q) fun ov s2 ⟨x, H2, I2, rx, a, C, dx, fs, ex, ea, c, n, l, q2⟩ => ?_) hs
  subst ex
  obtain rfl : ov = Value.ref a := rx
  exact setattr_ok I2 ea c n l ry fun s3 I3 => ⟨σ, _, I3, q2⟩
end

/-! ### isinstance -/
section
variable {X : Cx} {pins : List (Addr × Obj)} {σ : St} {H : Hp} {s : Shared} {A : Around} {E : Value → Shared → Prop} {Q : Value → Shared → Prop} {c : Value} {b : Bool}
/-- the type of a value, as the fragment's deciders take it; for an instance its class -/
inductive TyOf (K : PySem.W.Frag) (H : Hp) : V → Value → Prop where
  | non : TyOf K H .non (.type "NoneType")
  | bl (x : Bool) : TyOf K H (.bl x) (.type "bool")
  | int (i : Int) : TyOf K H (.int i) (.type "int")
  | str (x : Str) : TyOf K H (.str x) (.type "str")
  | flt (x : UInt64) : TyOf K H (.flt x) (.type "float")
  | lst {a : Addr} {xs : List V} (e : H a = some (.lst xs)) : TyOf K H (.ref a) (.type "list")
  | frz {a : Addr} {o : Obj} {xs : List V} (e : H a = some (.frz o (.lst xs))) : TyOf K H (.ref a) (.type "list")
  | tup {a : Addr} {xs : List V} (e : H a = some (.tup xs)) : TyOf K H (.ref a) (.type "tuple")
  | dK {a : Addr} {kvs : List (Key × V)} (e : H a = some (.dK kvs)) : TyOf K H (.ref a) (.type "dict")
  | dT {a : Addr} {kvs : List (List Key × V)} (e : H a = some (.dT kvs)) : TyOf K H (.ref a) (.type "dict")
  | ins {a C dx : Addr} {fs : List (Str × V)} (e : H a = some (.ins C dx fs)) (cl : Cls K C) (ha : PySem.W.findIn K (.ref C) "__class__" = some (some (.builtin "object.__class__")))
      (hn : PySem.W.specialIn K (.builtin "object.__class__") "__get__" = some (some (.builtin "getset_descriptor.__get__"))) (htk : PySem.W.takesIn K (.builtin "object.__class__") = some true)
      (hm : PySem.W.mroIn K C (.type "object") = some true) : TyOf K H (.ref a) (.ref C)
/-- isinstance(x, c) for one class c, a built-in or an own one: kitOne's answer -/
theorem isinst_ok {x : V} {u t : Value} (I : Inv X pins σ H s) (rx : RelV x u) (ty : TyOf X.K H x t) (e : PySem.W.kitOne X.K t c = some b) (h : ∀ tk, Q (.bool b) { s with toks := tk }) :
    wpAny (model X.prog X.w) A (call (.builtin "isinstance") [u, c]) Q E s := by
  cases ty with
  | non => cases (show u = Value.none from rx); exact PySem.W.kia_one PySem.W.kitx_none I.kIn True.intro e (fun z => nomatch z) h
  | bl y => cases (show u = Value.bool y from rx); exact PySem.W.kia_one PySem.W.kitx_bool I.kIn True.intro e (fun z => nomatch z) h
  | int i => obtain ⟨t, q⟩ := (show ∃ t, u = Value.int i t from rx); cases q; exact PySem.W.kia_one PySem.W.kitx_int I.kIn True.intro e (fun z => nomatch z) h
  | str y => obtain ⟨t, q⟩ := (show ∃ t, u = Value.str y t from rx); cases q; exact PySem.W.kia_one PySem.W.kitx_str I.kIn True.intro e (fun z => nomatch z) h
  | flt y => obtain ⟨t, q⟩ := (show ∃ t, u = Value.float y t from rx); cases q; exact PySem.W.kia_one PySem.W.kitx_float I.kIn True.intro e (fun z => nomatch z) h
  | @lst a xs ea =>
    cases (show u = Value.ref a from rx)
    obtain ⟨_, _, n, _, h1⟩ := (show ObjOk X.prog X.w H s.heap a (.lst xs) from I.hok a _ ea)
    exact PySem.W.kia_one PySem.W.kitx_list I.kIn ⟨_, h1, rfl⟩ e (fun z => nomatch z) h
  | @frz a ob xs ea =>
    cases (show u = Value.ref a from rx)
    obtain ⟨_, _, _, n, _, h1⟩ := (show ObjOk X.prog X.w H s.heap a (.frz ob (.lst xs)) from I.hok a _ ea)
    exact PySem.W.kia_one PySem.W.kitx_list I.kIn ⟨_, h1, rfl⟩ e (fun z => nomatch z) h
  | @tup a xs ea =>
    cases (show u = Value.ref a from rx)
    obtain ⟨_, _, _, p⟩ := (show ObjOk X.prog X.w H s.heap a (.tup xs) from I.hok a _ ea)
    obtain ⟨o, h1, h2, _⟩ := p
    exact PySem.W.kia_one PySem.W.kitx_tuple I.kIn ⟨o, h1, h2⟩ e (fun z => nomatch z) h
  | @dK a kvs ea =>
    cases (show u = Value.ref a from rx)
    obtain ⟨_, _, vs, _, p⟩ := (show ObjOk X.prog X.w H s.heap a (.dK kvs) from I.hok a _ ea)
    obtain ⟨o, es, ep, h1, h2, _⟩ := p
    exact PySem.W.kia_one PySem.W.kitx_dict I.kIn ⟨o, h1, h2.1⟩ e (fun z => nomatch z) h
  | @dT a kvs ea =>
    cases (show u = Value.ref a from rx)
    obtain ⟨_, _, xs, _, o, es, ep, h1, h2, _⟩ := (show ObjOk X.prog X.w H s.heap a (.dT kvs) from I.hok a _ ea)
    exact PySem.W.kia_one PySem.W.kitx_dict I.kIn ⟨o, h1, h2.1⟩ e (fun z => nomatch z) h
  | @ins a C dx fs ea cl ha hn htk hm =>
    cases (show u = Value.ref a from rx)
    obtain ⟨mA, O, _⟩ := ins_get I.hok ea
    obtain ⟨od, J, _⟩ := O.look
    exact PySem.W.kia_one (PySem.W.kitx_own (cl.get _) cl.hd ha hn htk hm) I.kIn J e (fun z => nomatch z) h
end
end L2

namespace L2
open PySem PySem.Spec PyProof.Rows

/-! ### room -/
structure Room (k : Nat) (A : Around) : Prop where
  hd : A.handled = none
  dp : A.depth + 3 * k + 5 < recursionLimit
  un : A.units + 16 * k + 200 < cLine
theorem Room.mono {j k : Nat} {A : Around} (r : Room k A) (h : j ≤ k) : Room j A := ⟨r.hd, by have := r.dp; omega, by have := r.un; omega⟩
theorem Room.deeper {k : Nat} {A : Around} (r : Room (k + 1) A) (env : Env) : Room k (A.deeper env) :=
  ⟨r.hd, by have := r.dp; show A.depth + 1 + 3 * k + 5 < _; omega, by have := r.un; show A.units + 3 + 16 * k + 200 < _; omega⟩
theorem make_depth {A : Around} {C : Addr} {us : List Value} {kw : List (Str × Value)} : (A.under (.builtin "type.__call__" ⟨.ref C :: us, kw⟩)).depth = A.depth + 1 := by
  first | rfl | simp [Around.under, Code.weight, Code.isCreation, Code.isGuard, Code.isCaller, Code.frames, Code.isFrame, guardIds]
theorem make_units {A : Around} {C : Addr} {us : List Value} {kw : List (Str × Value)} : (A.under (.builtin "type.__call__" ⟨.ref C :: us, kw⟩)).units = A.units + 1 := by
  first | rfl | simp [Around.under, Code.cUnits, Code.frames, Code.isFrame]
theorem Room.make {k : Nat} {A : Around} (r : Room (k + 1) A) (C : Addr) (us : List Value) (kw : List (Str × Value)) : Room k (A.under (.builtin "type.__call__" ⟨.ref C :: us, kw⟩)) :=
  ⟨r.hd, by have := r.dp; rw [make_depth]; omega, by have := r.un; rw [make_units]; omega⟩
theorem Room.depth {k : Nat} {A : Around} (r : Room k A) : A.depth < recursionLimit := by have := r.dp; omega
theorem Room.units {k : Nat} {A : Around} (r : Room k A) : A.units + 64 < cLine := by have := r.un; omega
/-! ### argument lists and displays -/
def tNil : TA := fun _ H Q => Q [] H
def tCons (ta : TE) (tr : TA) : TA := fun σ H Q => ta σ H fun x H1 => tr σ H1 fun xs H2 => Q (x :: xs) H2
section
variable {X : Cx} {e : Expr} {es : List Expr} {te : TE} {t : TA} {pos : Pos}
theorem pa_nil : PA X [] tNil := fun _ _ _ _ H Q I h => Calls.spliced_nil ⟨[], H, I, .nil, h⟩
theorem pa_cons (ha : PE X e te) (hr : PA X es t) (hs : starEach (e :: es) X.env = (false, eval e X.env) :: starEach es X.env := by rfl) : PA X (e :: es) (tCons te t) := by
  intro pos pins s σ H Q I h
  rw [hs]
  show wpAny _ _ (spliced ((false, eval e X.env) :: backTo pos (starEach es X.env))) _ _ s
  refine Calls.spliced_cons (thn (ha pins s σ H _ I h) fun u s1 ⟨x, H1, I1, r1, q1⟩ => ?_)
  exact thn (hr pos pins s1 σ H1 _ I1 q1) fun us s2 ⟨xs, H2, I2, r2, q2⟩ => ⟨x :: xs, H2, I2, .cons r1 r2, q2⟩

/-- a tuple, a list of written items -/
def tTup (t : TA) : TE := fun σ H Q => t σ H fun xs H1 => xs.length ≤ sizeLine ∧ ∀ p, H1 p = none → Q (.ref p) (upd H1 p (.tup xs))
def tLst (t : TA) : TE := fun σ H Q => t σ H fun xs H1 => xs.length ≤ sizeLine ∧ ∀ p, H1 p = none → Q (.ref p) (upd H1 p (.lst xs))
theorem pe_tup {x1} (h : PA X es t) : PE X (.Tuple es x1 pos) (tTup t) := by
  intro pins s σ H Q I hq
  refine wpAny_Tuple_spliced (thn (h pos pins s σ H _ I hq) fun us s1 ⟨xs, H1, I1, r, z, q⟩ => ⟨by rw [← r.length]; exact z, ?_⟩)
  have hf : H1 s1.heap.objs.size = none := I1.hok.fresh (Nat.le_refl _)
  refine ⟨.ref s1.heap.objs.size, upd H1 s1.heap.objs.size (.tup xs), I1.laid (t' := s1.toks) (fun b u e => Heap.get?_push_of_some _ e) (Nat.le_refl _) ?_, rfl, q _ hf⟩
  exact ⟨z, us, r, ⟨_, Heap.get?_push_size _ rfl, rfl, _, rfl⟩⟩
theorem pe_lst (h : PA X es t) : PE X (.List es pos) (tLst t) := by
  intro pins s σ H Q I hq
  refine wpAny_List_spliced (thn (h pos pins s σ H _ I hq) fun us s1 ⟨xs, H1, I1, r, z, q⟩ => ⟨by rw [← r.length]; exact z, ?_⟩)
  have hf : H1 s1.heap.objs.size = none := I1.hok.fresh (Nat.le_refl _)
  refine ⟨.ref s1.heap.objs.size, upd H1 s1.heap.objs.size (.lst xs), I1.laid (t' := s1.toks) (fun b u e => Heap.get?_push_of_some _ e) (Nat.le_refl _) ?_, rfl, q _ hf⟩
  exact ⟨z, us, 0, r, Heap.get?_push_size _ rfl⟩
end

/-! ### what a def promises -/
/-- a def's promise: the bound arguments in the parameters' order, the heap, the wanted end, the wanted exception -/
abbrev Sp := List V → Hp → VK → XK → Prop
/-- how an exception lies behind a call (file 08 gives it): the callers' frames, abstract heap and state ahead of the call, the wish, the exception, the state -/
abbrev CXT := List Env → Hp → Shared → XK → Value → Shared → Prop

/-- the state at a call -/
structure Env0 (P : Program) (w : World) (K : PySem.W.Frag) (mg : Str → Option Value) (base : Heap) (A : Around) (outer : List Env) (s : Shared) (H : Hp) : Prop where
  frames : A.frames = some outer
  mod : Mod K mg base
  bs : ∀ b o, base.get? b = some o → s.heap.get? b = some o ∧ H b = none
  bsz : base.objs.size ≤ s.heap.objs.size
  funs : s.heap.FunFrames base outer
  frf : ∀ b ∈ frs outer, H b = none
  hok : HOk P w H s.heap
  bare : AllBare s.gens
/-- a call's end -/
def CE (outer : List Env) (P : Program) (w : World) (H : Hp) (s : Shared) (Q : VK) (u : Value) (s' : Shared) : Prop :=
  ∃ v H', s'.os = s.os ∧ AllBare s'.gens ∧ Un (frs outer) [] H H' s.heap s'.heap ∧ HOk P w H' s'.heap ∧ RelV v u ∧ Q v H'
def CR (CX : CXT) (outer : List Env) (P : Program) (w : World) (H : Hp) (s : Shared) (Q : VK) (E : XK) (r : Result) (s' : Shared) : Prop :=
  match r with
  | .ok (.ret u) => CE outer P w H s Q u s'
  | .ok _ => False
  | .error e => CX outer H s E e s'
structure FnOk (P : Program) (w : World) (K : PySem.W.Frag) (mg : Str → Option Value) (base : Heap) (CX : CXT) (k : Nat) (f : Addr) (fd : FuncData) (ps : List Str) (sp : Sp) : Prop where
  len : ∀ vs H Q E, sp vs H Q E → vs.length = ps.length
  run : ∀ (A : Around) (outer : List Env) (s : Shared) (H : Hp) (args : Args) (us : List Value) (vs : List V) (Q : VK) (E : XK), Room k A → Env0 P w K mg base A outer s H → BindsTo s fd args (ps.zip us) → Vals vs us → sp vs H Q E →
    codeAny (model P w) A (.call (.ref f) args) (CR CX outer P w H s Q E) s
/-- a weaker promise -/
theorem FnOk.imp {P : Program} {w : World} {K : PySem.W.Frag} {mg : Str → Option Value} {base : Heap} {CX : CXT} {k : Nat} {f : Addr} {fd : FuncData} {ps : List Str} {sp sp' : Sp} (F : FnOk P w K mg base CX k f fd ps sp)
    (h : ∀ vs H Q E, sp' vs H Q E → sp vs H Q E) : FnOk P w K mg base CX k f fd ps sp' :=
  ⟨fun vs H Q E q => F.len vs H Q E (h _ _ _ _ q), fun A outer s H args us vs Q E hr he hb hv hs => F.run A outer s H args us vs Q E hr he hb hv (h _ _ _ _ hs)⟩

theorem Env0.make {P : Program} {w : World} {K : PySem.W.Frag} {mg : Str → Option Value} {base : Heap} {A : Around} {outer : List Env} {s : Shared} {H : Hp} (e : Env0 P w K mg base A outer s H) (C : Addr) (us : List Value) (kw : List (Str × Value)) :
    Env0 P w K mg base (A.under (.builtin "type.__call__" ⟨.ref C :: us, kw⟩)) outer s H := ⟨by first | exact e.frames | (simpa [Around.under, Code.envs, Code.isFrame, pushEnvs] using e.frames), e.mod, e.bs, e.bsz, e.funs, e.frf, e.hok, e.bare⟩
section
variable {X : Cx} {pins : List (Addr × Obj)} {σ : St} {H : Hp} {s s' : Shared}
/-- from a body: what a callee wants -/
theorem Inv.env0 (I : Inv X pins σ H s) : Env0 X.prog X.w X.K X.mg X.base X.A X.stack s H :=
  ⟨I.ok.frames, I.ok.mod, I.bs, Nat.le_trans I.ok.bsz I.sz, I.stack, I.stkFree, I.hok, I.bare⟩
/-- behind a call -/
theorem Inv.after {Q : VK} {u : Value} (I : Inv X pins σ H s) (h : CE X.stack X.prog X.w H s Q u s') : EP X pins σ Q u s' := by
  obtain ⟨v, H', os, bare, un, hok, r, q⟩ := h
  obtain ⟨hh, g, d, t, os'⟩ := s'
  obtain rfl : os' = s.os := os
  exact ⟨v, H', I.call (h' := hh) (g' := g) (d' := d) (t' := t) (ch := []) un hok bare (fun b z => absurd z (by simp)), r, q⟩
end

/-! ### calls -/
/-- f(..): the written arguments, then the defaults dvs; E: what is wanted of an exception -/
def tCall (sp : Sp) (dvs : List V) (E : XK) (t : TA) : TE := fun σ H Q => t σ H fun vs H1 => sp (vs ++ dvs) H1 Q E
/-- o.m(..) of an instance of the class at C -/
def tMeth (C : Addr) (m : Str) (sp : Sp) (dvs : List V) (E : XK) (ta : TE) (t : TA) : TE := fun σ H Q => ta σ H fun x H1 => ∃ a dx fs, x = .ref a ∧ H1 a = some (.ins C dx fs) ∧ fs.lookup m = none ∧
  t σ H1 fun vs H2 => sp (x :: (vs ++ dvs)) H2 Q E
/-- C(..): a new instance and its dict, then __init__ -/
def tMake (C : Addr) (sp : Sp) (dvs : List V) (E : XK) (t : TA) : TE := fun σ H Q => t σ H fun vs H1 => ∀ x dx, H1 x = none → H1 dx = none → dx ≠ x →
  sp (.ref x :: (vs ++ dvs)) (upd (upd H1 dx (.own x)) x (.ins C dx [])) (fun v H2 => v = .non ∧ Q (.ref x) H2) E

/-- how the parameters are bound: us the positional arguments, kw the keywords' values by name, ds the defaults that fill up -/
def Binds (K : PySem.W.Frag) (fd : FuncData) (ps : List Str) (ds : List Value) : Prop :=
  ∀ (s : Shared) (us : List Value), K.In s.heap → (us ++ ds).length = ps.length → BindsTo s fd ⟨us, []⟩ (ps.zip (us ++ ds))
/-- every parameter is given -/
theorem Binds.all {K : PySem.W.Frag} {fd : FuncData} {ps : List Str} (h : ∀ us : List Value, us.length = ps.length → bindArgs fd ⟨us, []⟩ = pure (ps.zip us)) : Binds K fd ps [] := fun s us _ hl => by
  rw [List.append_nil] at hl ⊢
  exact .of_eq (h us hl)

/-- an exception of a callee reaches what this body wants of exceptions -/
def Passes (CX : CXT) (X : Cx) (E : XK) : Prop := ∀ (pins : List (Addr × Obj)) (σ : St) (H : Hp) (s : Shared) (e : Value) (s' : Shared), Inv X pins σ H s → CX X.stack H s E e s' → X.xe e s'

section
variable {X : Cx} {CX : CXT} {k : Nat} {f C : Addr} {fd : FuncData} {ps : List Str} {sp : Sp} {dvs : List V} {ds : List Value} {E : XK} {x m : Str} {p pos apos : Pos} {e o : Expr} {es : List Expr} {ta : TE} {t : TA}

/-- the callee runs -/
theorem run_fn {pins : List (Addr × Obj)} {σ : St} {H : Hp} {s : Shared} {Q : VK} {us : List Value} {vs : List V} (F : FnOk X.prog X.w X.K X.mg X.base CX k f fd ps sp) (hr : Room k X.A) (hb : Binds X.K fd ps ds) (hd : Vals dvs ds) (hx : Passes CX X E)
    (I : Inv X pins σ H s) (r : Vals vs us) (h : sp (vs ++ dvs) H Q E) : wpAny (model X.prog X.w) X.A (call (.ref f) us) (EP X pins σ Q) X.xe s := by
  have r2 : Vals (vs ++ dvs) (us ++ ds) := r.append hd
  have hl : (us ++ ds).length = ps.length := by rw [← r2.length]; exact F.len _ _ _ _ h
  refine wpAny_call (codeAny_mono (F.run X.A X.stack s H ⟨us, []⟩ (us ++ ds) (vs ++ dvs) Q E hr I.env0 (hb s us I.kIn hl) r2 h) fun r s' hq => ?_)
  cases r with
  | error e => exact hx pins σ H s e s' I hq
  | ok fl =>
    cases fl with
    | ret u => exact I.after hq
    | next => exact False.elim hq
    | brk => exact False.elim hq
    | cont => exact False.elim hq

theorem pe_call (F : FnOk X.prog X.w X.K X.mg X.base CX k f fd ps sp) (hr : Room k X.A) (hg : Gl X x) (hm : X.mg x = some (.ref f)) (hk : PySem.W.keepIn X.K (.ref f) = true) (hb : Binds X.K fd ps ds) (hd : Vals dvs ds) (hx : Passes CX X E)
    (ha : PA X (e :: es) t) (hdb : (x == ("__debug__" : Str)) = false := by decide) (he : starEach (e :: es) X.env = (false, eval e X.env) :: starEach es X.env := by rfl) (hpl : (backTo pos (starEach es X.env)).any (·.1) = false := by rfl) :
    PE X (.Call (.Name x p) (e :: es) [] pos) (tCall sp dvs E t) := by
  intro pins s σ H Q I h
  refine wpAny_Call_Name_kw (ld_glob I hg hm ?_ hdb)
  refine PySem.W.callWith_K (h₀ := X.base) I.ok.mod.kin hk (thn (ha pos pins s σ H _ I h) fun us s1 ⟨vs, H1, I1, r, q⟩ => ⟨I1.kIn, ?_⟩) he hpl
  exact run_fn F hr hb hd hx I1 r q
/-- o.m(e, ..) -/
theorem pe_meth {pl : Sem Bool} (he : PE X o ta) (c : Cls X.K C) (hm : Meth X.K C m f) (F : FnOk X.prog X.w X.K X.mg X.base CX k f fd ps sp) (hr : Room k X.A) (hb : Binds X.K fd ps ds) (hd : Vals dvs ds) (hx : Passes CX X E) (ha : PA X (e :: es) t)
    (hst : starEach (e :: es) X.env = (false, eval e X.env) :: starEach es X.env := by rfl) (hpl : (backTo pos (starEach es X.env)).any (·.1) = false := by rfl)
    (ht : eval (.Call (.Attribute o m apos) (e :: es) [] pos) X.env = (do
      let ov ← eval o X.env
      standAt apos.atName
      let (f, first) ← holding [ov] (getMethod ov m pl)
      callWith pos f first (backTo pos (starEach (e :: es) X.env)) (backToKw pos (keywordEach [] X.env))) := by rfl) :
    PE X (.Call (.Attribute o m apos) (e :: es) [] pos) (tMeth C m sp dvs E ta t) := by
  intro pins s σ H Q I h
  refine PySem.W.methodCall_KW (pl := pl) (thn (he pins s σ H _ I h) fun u s1 ⟨x, H1, I1, rx, a, dx, fs, ex, ea, l, q⟩ => ?_) ht
  subst ex
  obtain rfl : u = Value.ref a := rx
  refine getmeth_ok I1 ea c hm l ?_
  refine PySem.W.callWith_K (first := [.ref a]) (h₀ := X.base) I.ok.mod.kin hm.kp (thn (ha pos pins s1 σ H1 _ I1 q) fun us s2 ⟨vs, H2, I2, r, q2⟩ => ⟨I2.kIn, ?_⟩) hst hpl
  exact run_fn (us := .ref a :: us) (vs := .ref a :: vs) F hr hb hd hx I2 (.cons rfl r) q2
/-- what a class must have to be made -/
structure Mk (K : PySem.W.Frag) (C f : Addr) : Prop where
  makes : PySem.W.makesIn K C = true
  init : PySem.W.findIn K (.ref C) "__init__" = some (some (.ref f))
  fn : PySem.W.isFn K (.ref f) = true
  kp : PySem.W.keepIn K (.ref C) = true

theorem run_make {pins : List (Addr × Obj)} {σ : St} {H : Hp} {s : Shared} {Q : VK} {us : List Value} {vs : List V} (M : Mk X.K C f) (F : FnOk X.prog X.w X.K X.mg X.base CX k f fd ps sp) (hr : Room (k + 1) X.A) (hb : Binds X.K fd ps ds) (hd : Vals dvs ds)
    (hx : Passes CX X E) (I : Inv X pins σ H s) (r : Vals vs us)
    (h : ∀ x dx, H x = none → H dx = none → dx ≠ x → sp (.ref x :: (vs ++ dvs)) (upd (upd H dx (.own x)) x (.ins C dx [])) (fun v H2 => v = .non ∧ Q (.ref x) H2) E) :
    wpAny (model X.prog X.w) X.A (call (.ref C) us) (EP X pins σ Q) X.xe s := by
  have hq := h (s.heap.objs.size + 1) s.heap.objs.size (I.hok.fresh (Nat.le_succ _)) (I.hok.fresh (Nat.le_refl _)) (Nat.ne_of_lt (Nat.lt_succ_self _))
  have I2 := Inv.made (C := C) I
  have r2 : Vals (V.ref (s.heap.objs.size + 1) :: (vs ++ dvs)) (Value.ref (s.heap.objs.size + 1) :: (us ++ ds)) := .cons rfl (r.append hd)
  have hl : (Value.ref (s.heap.objs.size + 1) :: us ++ ds).length = ps.length := by
    have e := r2.length
    rw [F.len _ _ _ _ hq] at e
    exact e.symm
  refine wpAny_call (make_map (f := f) I.kIn M.makes M.init (beq_iff_eq.mp M.fn) (codeAny_mono (F.run _ X.stack _ _ ⟨Value.ref (s.heap.objs.size + 1) :: us, []⟩ (Value.ref (s.heap.objs.size + 1) :: (us ++ ds)) _ _ E (hr.make C us [])
    (I2.env0.make C us []) (hb _ (Value.ref (s.heap.objs.size + 1) :: us) I2.kIn hl) r2 hq) fun r s' hq' => ?_))
  cases r with
  | error e => exact hx pins σ _ _ e s' I2 hq'
  | ok fl =>
    cases fl with
    | ret u =>
      obtain ⟨v, H', I3, rv, ev, q3⟩ := I2.after hq'
      subst ev
      exact ⟨rv, ⟨V.ref (s.heap.objs.size + 1), H', I3, rfl, q3⟩⟩
    | next => exact False.elim hq'
    | brk => exact False.elim hq'
    | cont => exact False.elim hq'
theorem pe_make (M : Mk X.K C f) (F : FnOk X.prog X.w X.K X.mg X.base CX k f fd ps sp) (hr : Room (k + 1) X.A) (hg : Gl X x) (hm : X.mg x = some (.ref C)) (hb : Binds X.K fd ps ds) (hd : Vals dvs ds) (hx : Passes CX X E)
    (ha : PA X (e :: es) t) (hdb : (x == ("__debug__" : Str)) = false := by decide) (he : starEach (e :: es) X.env = (false, eval e X.env) :: starEach es X.env := by rfl) (hpl : (backTo pos (starEach es X.env)).any (·.1) = false := by rfl) :
    PE X (.Call (.Name x p) (e :: es) [] pos) (tMake C sp dvs E t) := by
  intro pins s σ H Q I h
  refine wpAny_Call_Name_kw (ld_glob I hg hm ?_ hdb)
  refine PySem.W.callWith_K (h₀ := X.base) I.ok.mod.kin M.kp (thn (ha pos pins s σ H _ I h) fun us s1 ⟨vs, H1, I1, r, q⟩ => ⟨I1.kIn, ?_⟩) he hpl
  exact run_make M F hr hb hd hx I1 r q
end

/-! ### keywords -/
section
variable {X : Cx} {CX : CXT} {k : Nat} {f C : Addr} {fd : FuncData} {ps ks : List Str} {sp : Sp} {E : XK} {x m : Str} {p pos apos kpos : Pos} {e o : Expr} {es : List Expr} {kws : List Keyword} {te ta : TE} {t tk : TA} {nm : Option Str}
variable {g : List Value → List Value → List Value} {gV : List V → List V → List V}
end

/-! ### a def's body keeps its promise -/
/-- names: the parameters first -/
structure FnScope (N P : List Str) (sc : Scope) : Prop where
  kind : sc.kind = .function
  co : sc.isCoroutine = false
  gen : sc.isGenerator = false
  nd : N.Nodup
  pre : N.take P.length = P
  par : ∀ x ∈ P, sc.names.lookup x = some .local ∨ sc.names.lookup x = some .cell
  nofree : ∀ y ∈ sc.names, y.2 ≠ .free

theorem bindL_out {kindOf : Str → Option NameKind} {x : Str} : ∀ {binds : List (Str × Value)} {m : Str → Option Value}, (∀ v, (x, v) ∉ binds) → bindL kindOf binds m x = m x
  | [], _, _ => rfl
  | (n, v) :: r, m, h => by
    unfold bindL
    rw [bindL_out fun w hw => h w (List.mem_cons_of_mem _ hw)]
    split
    · have : x ≠ n := by rintro rfl; exact h v List.mem_cons_self
      simp [this]
    · rfl
theorem bindC_out {kindOf : Str → Option NameKind} {x : Str} : ∀ {binds : List (Str × Value)} {m : Str → Option Value}, (∀ v, (x, v) ∉ binds) → bindC kindOf binds m x = m x
  | [], _, _ => rfl
  | (n, v) :: r, m, h => by
    unfold bindC
    rw [bindC_out fun w hw => h w (List.mem_cons_of_mem _ hw)]
    split
    · rfl
    · have : x ≠ n := by rintro rfl; exact h v List.mem_cons_self
      simp [this]
theorem bindL_get {kindOf : Str → Option NameKind} {x : Str} {v : Value} : ∀ {P : List Str} {vs : List Value} {i : Nat} {m : Str → Option Value}, P.Nodup → P[i]? = some x → vs[i]? = some v → kindOf x = some .local →
    bindL kindOf (P.zip vs) m x = some v
  | [], _, _, _, _, h, _, _ => by simp at h
  | _ :: _, [], _, _, _, _, h, _ => by simp at h
  | p :: P, w :: vs, 0, m, nd, h1, h2, hk => by
    simp at h1 h2; subst h1; subst h2
    show bindL kindOf ((p, w) :: P.zip vs) m p = _
    unfold bindL
    rw [bindL_out fun v hv => (List.nodup_cons.mp nd).1 (List.of_mem_zip hv).1, if_pos hk]
    simp
  | p :: P, w :: vs, i + 1, m, nd, h1, h2, hk => by
    show bindL kindOf ((p, w) :: P.zip vs) m x = _
    unfold bindL
    exact bindL_get (i := i) (List.nodup_cons.mp nd).2 (by simpa using h1) (by simpa using h2) hk
theorem bindC_get {kindOf : Str → Option NameKind} {x : Str} {v : Value} : ∀ {P : List Str} {vs : List Value} {i : Nat} {m : Str → Option Value}, P.Nodup → P[i]? = some x → vs[i]? = some v → kindOf x ≠ some .local →
    bindC kindOf (P.zip vs) m x = some v
  | [], _, _, _, _, h, _, _ => by simp at h
  | _ :: _, [], _, _, _, _, h, _ => by simp at h
  | p :: P, w :: vs, 0, m, nd, h1, h2, hk => by
    simp at h1 h2; subst h1; subst h2
    show bindC kindOf ((p, w) :: P.zip vs) m p = _
    unfold bindC
    rw [bindC_out fun v hv => (List.nodup_cons.mp nd).1 (List.of_mem_zip hv).1, if_neg hk]
    simp
  | p :: P, w :: vs, i + 1, m, nd, h1, h2, hk => by
    show bindC kindOf ((p, w) :: P.zip vs) m x = _
    unfold bindC
    exact bindC_get (i := i) (List.nodup_cons.mp nd).2 (by simpa using h1) (by simpa using h2) hk

/-- the names' values at the entry -/
def start (N : List Str) (vs : List V) : St := vs.map some ++ List.replicate (N.length - vs.length) none

/-- the context of a def's body, at its entry; an exception leaves the frame, then lies as CX says -/
def cxOf (CX : CXT) (P : Program) (w : World) (K : PySem.W.Frag) (mg : Str → Option Value) (base : Heap) (N : List Str) (qual : Str) (scope : Scope) (f : Addr) (cd : Value) (A : Around) (outer : List Env) (s : Shared) (H : Hp) (E : XK) : Cx where
  prog := P
  w := w
  K := K
  mg := mg
  base := base
  A := A.deeper (envOfC qual scope s.heap.objs.size f cd)
  N := N
  s₀ := s
  H₀ := H
  env := envOfC qual scope s.heap.objs.size f cd
  outer := outer
  stack := envOfC qual scope s.heap.objs.size f cd :: outer
  ex := []
  calm := true
  fn := fun _ => true
  pn := []
  xe := fun e s' => wpAny (model P w) (A.deeper (envOfC qual scope s.heap.objs.size f cd)) (leaving (envOfC qual scope s.heap.objs.size f cd) e) (fun _ s'' => CX outer H s E e s'') (fun e' s'' => CX outer H s E e' s'') s'

theorem cell_has {sc : Scope} {n : Nat} {x : Str} (h : sc.names.lookup x = some .cell) : ∃ c, (cellsFrom n sc.names []).lookup x = some c := by
  have q := PySem.W.cellsFrom_some sc.names n [] (.inl h)
  exact Option.isSome_iff_exists.mp q

theorem inv_start {CX : CXT} {P : Program} {w : World} {K : PySem.W.Frag} {mg : Str → Option Value} {base : Heap} {N ps : List Str} {qual : Str} {scope : Scope} {f : Addr} {cd : Value} {A : Around} {outer : List Env} {s s1 : Shared} {H : Hp} {E : XK} {us : List Value} {vs : List V}
    (S : FnScope N ps scope) (hd : A.handled = none) (e0 : Env0 P w K mg base A outer s H) (hl : vs.length = ps.length) (r : Vals vs us)
    (x : InCallC s s.heap.objs.size (bindL (envOfC qual scope s.heap.objs.size f cd).kindOf (ps.zip us) fun _ => none) (cellsFrom (s.heap.objs.size + 1) scope.names []) (bindC (envOfC qual scope s.heap.objs.size f cd).kindOf (ps.zip us) fun _ => none) s1) :
    Inv (cxOf CX P w K mg base N qual scope f cd A outer s H E) [] (start N vs) H s1 := by
  have hpl : ps.length ≤ N.length := by have := congrArg List.length S.pre; rw [List.length_take] at this; omega
  obtain ⟨h1, tk, rfl, hk⟩ := x.done
  have noA : ∀ b : Addr, b ∉ (cxOf CX P w K mg base N qual scope f cd A outer s H E).ex := fun b z => absurd (show b ∈ ([] : List Addr) from z) (by simp)
  refine ⟨⟨e0.mod, S.kind, rfl, rfl, Nat.le_refl _, fun y z c h1 h2 => ?_, fun y hy => ?_, fun y c _ h => ?_, fun _ => hd, Around.frames_deeper e0.frames, .inr ⟨rfl, rfl⟩, fun b z => absurd z (noA b), e0.bs, e0.bsz, fun b _ _ => noA b, fun b z => absurd z (noA b), e0.funs, e0.frf⟩,
    rfl, e0.bare, Un.kept hk, ⟨_, x.toInCall.ns, fun i y v h1 h2 h3 => ?_⟩, fun y c h => ⟨_, x.cell y c h⟩, e0.hok.fresh (Nat.le_refl _), fun y c h => ?_, fun p hp => absurd (show p ∈ ([] : List (Addr × Obj)) from hp) (by simp), e0.hok.kept hk, ?_⟩
  · exact name_of_addr x.apart (PySem.mem_of_lookup h1) (PySem.mem_of_lookup h2)
  · have hy : scope.names.lookup y = some .cell ∨ scope.names.lookup y = some .free := hy
    rcases hy with hy | hy
    · exact cell_has hy
    · exact absurd rfl (S.nofree _ (PySem.mem_of_lookup hy))
  · exact Nat.le_of_lt (x.above y c (PySem.mem_of_lookup h))
  · have hi : i < vs.length := by
      unfold start at h2
      by_cases hi : i < vs.length
      · exact hi
      · rw [List.getElem?_append_right (by simpa using hi)] at h2
        rw [List.getElem?_replicate] at h2
        split at h2 <;> cases h2
    have ha : vs[i]? = some v := by
      unfold start at h2
      rw [List.getElem?_append_left (by simpa using hi), List.getElem?_map] at h2
      cases e : vs[i]? with
      | none => rw [e] at h2; cases h2
      | some a => rw [e] at h2; cases h2; rfl
    obtain ⟨u, hu, rv⟩ := r.get ha
    have hp : ps[i]? = some y := by
      rw [← S.pre, List.getElem?_take_of_lt (by omega)]; exact h1
    have ndP : ps.Nodup := by rw [← S.pre]; exact S.nd.sublist (List.take_sublist _ _)
    refine ⟨u, rv, ?_⟩
    rcases S.par y (List.mem_of_getElem? hp) with k | k
    · exact .inl ⟨k, bindL_get ndP hp hu k⟩
    · obtain ⟨c, e⟩ := cell_has (n := s.heap.objs.size + 1) k
      refine .inr ⟨.inl k, c, e, ?_⟩
      have q := x.cell y c e
      rw [bindC_get ndP hp hu (by show scope.names.lookup y ≠ _; rw [k]; decide)] at q
      exact q
  · exact e0.hok.fresh (Nat.le_of_lt (x.above y c (PySem.mem_of_lookup h)))
  · unfold start
    show _ = N.length
    rw [List.length_append, List.length_map, List.length_replicate]
    omega

/-- THE RULE: a def (or a method) of the text, by its body. The body's reading t is chosen for each entry; it is run at the parameters' values -/
theorem fn_of {CX : CXT} {P : Program} {w : World} {K : PySem.W.Frag} {mg : Str → Option Value} {base : Heap} {k : Nat} {f : Addr} {name qual : Str} {params : Arguments} {body : List Stmt} {scope : Scope} {dV kV doc pm cdv ct oc : Value} {an od : Option Addr}
    {osl : Array (Option Value)} {N ps : List Str} {sp : Sp} (lk : K.lookup f = some ⟨oc, od, .func (PySem.W.fnOf name qual params body scope dV kV doc pm an cdv ct), osl⟩) (hcd : PySem.W.codeIn K cdv qual = true) (S : FnScope N ps scope)
    (len : ∀ vs H Q E, sp vs H Q E → vs.length = ps.length)
    (hbody : ∀ (A : Around) (outer : List Env) (s : Shared) (H : Hp) (vs : List V) (Q : VK) (E : XK), Room k (A.deeper (envOfC qual scope s.heap.objs.size f cdv)) → sp vs H Q E →
      ∃ t, PSs (cxOf CX P w K mg base N qual scope f cdv A outer s H E) body t ∧ t { nx := fun _ H' => Q .non H', rt := Q } (start N vs) H) :
    FnOk P w K mg base CX (k + 1) f (PySem.W.fnOf name qual params body scope dV kV doc pm an cdv ct) ps sp := by
  refine ⟨len, fun A outer s H args us vs Q E hr e0 hb r hsp => ?_⟩
  have hl := len _ _ _ _ hsp
  have KX : K.In s.heap := e0.mod.kin.keeps fun b o e => (e0.bs b o e).1
  have lim : s.heap.NoLimit := e0.mod.nolimit.keeps fun b o e => (e0.bs b o e).1
  have hkind : ∀ y ∈ ps.zip us, scope.names.lookup y.1 = some .local ∨ (scope.names.lookup y.1 = some .cell ∧ ((cellsFrom (s.heap.objs.size + 1) scope.names []).lookup y.1).isSome = true) := fun ⟨n, v⟩ hy => by
    rcases S.par n (List.of_mem_zip hy).1 with q | q
    · exact .inl q
    · exact .inr ⟨q, PySem.W.cellsFrom_some _ _ _ (.inl q)⟩
  refine codeAny_call_function hr.depth (KX _ _ lk) rfl S.co S.gen rfl (PySem.W.codeRec_of KX hcd) (hb _ _ _ _ ?_)
  refine wpAny_newFunctionEnv_cells S.kind hkind fun env he s1 x => ?_
  subst he
  refine ⟨lim.keeps x.toInCall.keep, codeAny_func ?_⟩
  obtain ⟨t, ht, hq⟩ := hbody A outer s H vs Q E (hr.deeper _) hsp
  have I : Inv (cxOf CX P w K mg base N qual scope f cdv A outer s H E) [] (start N vs) H s1 := inv_start S hr.hd e0 hl r x
  refine wpAny_mono (ht [] s1 (start N vs) H _ I hq) (fun fl s' hs => ?_) fun e s' hs => hs
  have fin : ∀ {σ' : St} {H' : Hp} {v : V} {u : Value}, Inv (cxOf CX P w K mg base N qual scope f cdv A outer s H E) [] σ' H' s' → RelV v u → Q v H' → CE outer P w H s Q u s' :=
    fun {σ' H' v u} J rv q => ⟨v, H', J.os, J.bare, J.base, J.hok, rv, q⟩
  cases fl with
  | ret u =>
    obtain ⟨v, σ', H', J, rv, q⟩ := hs
    exact fin J rv q
  | next =>
    obtain ⟨σ', H', J, q⟩ := hs
    exact fin (v := V.non) (u := Value.none) J rfl q
  | brk =>
    obtain ⟨_, _, _, q⟩ := hs
    exact False.elim q
  | cont =>
    obtain ⟨_, _, _, q⟩ := hs
    exact False.elim q
end L2

namespace L2
open PySem PySem.Spec PyProof.Rows
section
variable {X : Cx} {x : Str} {p pos : Pos} {e : Expr} {es : List Expr} {t : TA} {id T : String} {r : List V → Hp → VK → Prop}

def tCB (r : List V → Hp → VK → Prop) (t : TA) : TE := fun σ H Q => t σ H fun vs H1 => r vs H1 Q
/-- f(e, ..), f a built-in function -/
theorem pe_callB (hc : CallR X (.builtin id) r) (hg : Gl X x) (hm : X.mg x = none) (hv : bootBuiltins x = some (.builtin id)) (ha : PA X (e :: es) t) (hn : x ≠ "__name__" := by decide) (hdb : (x == ("__debug__" : Str)) = false := by decide)
    (he : starEach (e :: es) X.env = (false, eval e X.env) :: starEach es X.env := by rfl) (hpl : (backTo pos (starEach es X.env)).any (·.1) = false := by rfl) : PE X (.Call (.Name x p) (e :: es) [] pos) (tCB r t) := by
  intro pins s σ H Q I h
  refine wpAny_Call_Name_kw (ld_blt I hg hm hv ?_ hn hdb)
  exact PyProof.Rows.callWith_builtin1 (thn (ha pos pins s σ H _ I h) fun us s1 ⟨vs, H1, I1, r1, q1⟩ => hc pins s1 σ H1 vs us Q I1 r1 q1) he hpl
/-- T(e, ..), T a built-in type -/
theorem pe_callTy (hc : CallR X (.type T) r) (hg : Gl X x) (hm : X.mg x = none) (hv : bootBuiltins x = some (.type T)) (ha : PA X (e :: es) t) (hn : x ≠ "__name__" := by decide) (hdb : (x == ("__debug__" : Str)) = false := by decide)
    (he : starEach (e :: es) X.env = (false, eval e X.env) :: starEach es X.env := by rfl) (hpl : (backTo pos (starEach es X.env)).any (·.1) = false := by rfl) : PE X (.Call (.Name x p) (e :: es) [] pos) (tCB r t) := by
  intro pins s σ H Q I h
  refine wpAny_Call_Name_kw (ld_blt I hg hm hv ?_ hn hdb)
  exact PyProof.Rows.callWith_type1 (thn (ha pos pins s σ H _ I h) fun us s1 ⟨vs, H1, I1, r1, q1⟩ => hc pins s1 σ H1 vs us Q I1 r1 q1) he hpl
end
end L2

namespace HT
open PySem PyProof.Rows

section
open PySem.SeqAt
open PySem.AutoSeq1 (wpAny_loadPart')
open PySem.MeetsSeq PySem.MeetsSeq2 PySem.MeetsSeq3

end

section
variable {prog : Program} {w : World} {A : Around} {E : Value → Shared → Prop} {s : Shared}

/-! ### t[a:b], not the whole -/
/-- a slice's bound as a place among n (d where it is left out) -/
def sIx (n d : Nat) : Option Int → Nat
  | none => d
  | some v => if v < 0 then (v + (n : Int)).toNat else min v.toNat n
theorem sIx_none (n d : Nat) : sIx n d none = d := rfl
theorem sIx_nat (n d k : Nat) : sIx n d (some (k : Int)) = min k n := by
  show (if (k : Int) < 0 then ((k : Int) + (n : Int)).toNat else min (k : Int).toNat n) = min k n
  rw [if_neg (by omega), Int.toNat_natCast]
end
end HT

namespace L2
open PySem PySem.Spec PyProof.Rows

/-! ### the parts of a slice -/
abbrev TO := St → Hp → (Option Int → Hp → Prop) → Prop
/-- a slice's part (left out, or an int) -/
def PO (X : Cx) (e : Option Expr) (t : TO) : Prop :=
  ∀ (pins : List (Addr × Obj)) (s : Shared) (σ : St) (H : Hp) (Q : Option Int → Hp → Prop), Inv X pins σ H s → t σ H Q →
    wpAny (model X.prog X.w) X.A (evalPart e X.env) (fun u s' => ∃ o H', Inv X pins σ H' s' ∧ IsPart u o ∧ Q o H') X.xe s
def tNoPart : TO := fun _ H Q => Q none H
def tPart (t : TE) : TO := fun σ H Q => t σ H fun x H1 => ∃ i, x = .int i ∧ Q (some i) H1

theorem intsAre_of {ns : List Int} : ∀ {us : List Value}, Vals (ns.map V.int) us → IntsAre us ns := by
  induction ns with
  | nil => intro us r; rw [List.map_nil] at r; cases r; exact .nil
  | cons n ns ih =>
    intro us r
    rw [List.map_cons] at r
    cases r with
    | cons r1 r2 =>
      obtain ⟨t, e⟩ := r1
      subst e
      exact .cons n t (ih r2)

section
variable {X : Cx} {e : Expr} {te : TE} {lo hi : Option Expr} {tl th : TO} {pos p2 : Pos}

theorem po_none : PO X none tNoPart := by
  intro pins s σ H Q I h
  rw [evalPart_none]
  exact wpAny_pure ⟨none, H, I, .none, h⟩
theorem po_some (h : PE X e te) : PO X (some e) (tPart te) := by
  intro pins s σ H Q I hw
  rw [evalPart_some]
  refine thn (h pins s σ H _ I hw) fun u s1 ⟨x, H1, I1, r1, q1⟩ => ?_
  obtain ⟨i, rfl, q⟩ := q1
  obtain ⟨t, rfl⟩ := r1
  exact ⟨some i, H1, I1, .int i t, q⟩

/-- what a slice of a value is, by values: the slice object stands at sl -/
def SlR (X : Cx) (r : V → Option Int → Option Int → Hp → VK → Prop) : Prop :=
  ∀ (pins : List (Addr × Obj)) (s : Shared) (σ : St) (H : Hp) (x : V) (v vl vu : Value) (lo hi : Option Int) (sl : Addr) (Q : VK), Inv X pins σ H s → RelV x v → s.heap.IsSliceOf sl vl vu .none → IsPart vl lo → IsPart vu hi → r x lo hi H Q →
    ∃ T id, typeLookup (.type T) "__getitem__" = pure (some (.builtin id)) ∧ s.TypeIs v T ∧ wpAny (model X.prog X.w) X.A (getItem v (.ref sl)) (EP X pins σ Q) X.xe s
def tSl (r : V → Option Int → Option Int → Hp → VK → Prop) (te : TE) (tl th : TO) : TE := fun σ H Q => te σ H fun x H1 => tl σ H1 fun l H2 => th σ H2 fun u H3 => r x l u H3 Q
/-- a[lo:hi], any a -/
theorem pe_slice {r : V → Option Int → Option Int → Hp → VK → Prop} (hr : SlR X r) (he : PE X e te) (hl : PO X lo tl) (hu : PO X hi th) : PE X (.Subscript e (.Slice lo hi none p2) pos) (tSl r te tl th) := by
  intro pins s σ H Q I h
  refine Subscript_ (thn (he pins s σ H _ I h) fun v s1 ⟨x, H1, I1, r1, q1⟩ => ?_)
  refine wpAny_Slice (thn (hl pins s1 σ H1 _ I1 q1) fun vl s2 ⟨l, H2, I2, pl, q2⟩ => thn (hu pins s2 σ H2 _ I2 q2) fun vu s3 ⟨u, H3, I3, pu, q3⟩ => ?_)
  rw [evalPart_none]
  refine wpAny_pure ?_
  have I4 : Inv X pins σ H3 { s3 with heap := s3.heap.push { cls := .type "slice", data := .fields #[vl, vu, .none] } } := I3.kept (t' := s3.toks) fun b ob q => Heap.get?_push_of_some _ q
  obtain ⟨T, id, hT, ht, hg⟩ := hr pins { s3 with heap := s3.heap.push { cls := .type "slice", data := .fields #[vl, vu, .none] } } σ H3 x v vl vu l u s3.heap.objs.size Q I4 r1 (Heap.IsSliceOf.new ..) pl pu q3
  show wpAny (model X.prog X.w) X.A (subscriptTail e (.Slice lo hi none p2) v (.ref s3.heap.objs.size)) (EP X pins σ Q) X.xe { s3 with heap := s3.heap.push { cls := .type "slice", data := .fields #[vl, vu, .none] } }
  exact tail_any (ops := [.ref s3.heap.objs.size, v]) ht hT hg (by with_unfolding_all rfl)

/-- the items of xs[lo:hi] -/
def cutV (xs : List V) (lo hi : Option Int) : List V := (xs.drop (HT.sIx xs.length 0 lo)).take (HT.sIx xs.length xs.length hi - HT.sIx xs.length 0 lo)
theorem cutV_length (xs : List V) (lo hi : Option Int) : (cutV xs lo hi).length ≤ xs.length := by
  unfold cutV
  rw [List.length_take, List.length_drop]
  omega
/-! ### t < u, t + u -/
end
end L2

namespace L2
open PySem PySem.Spec PyProof.Rows

/-! ### places -/
/-- the place that an index of any sign means -/
def ixN (n : Nat) (i : Int) : Option Nat := if 0 ≤ i then (if i < n then some i.toNat else none) else if -(n : Int) ≤ i then some (i + n).toNat else none
def atI {α : Type} (xs : List α) (i : Int) : Option α := (ixN xs.length i).bind fun j => xs[j]?
theorem ixN_seq {n : Nat} {i : Int} {j : Nat} (h : ixN n i = some j) : seqIndex? i n = some j ∧ j < n ∧ -(n : Int) ≤ i ∧ i < n := by
  unfold ixN at h
  by_cases h0 : 0 ≤ i
  · rw [if_pos h0] at h
    by_cases h1 : i < n
    · rw [if_pos h1] at h
      have e : i.toNat = j := Option.some.inj h
      exact ⟨by rw [seqIndex_of h0 h1, e], by omega, by omega, h1⟩
    · rw [if_neg h1] at h; cases h
  · rw [if_neg h0] at h
    by_cases h1 : -(n : Int) ≤ i
    · rw [if_pos h1] at h
      have e : (i + n).toNat = j := Option.some.inj h
      exact ⟨by rw [seqIndex_neg (by omega) h1, e], by omega, h1, by omega⟩
    · rw [if_neg h1] at h; cases h
theorem atI_get {α : Type} {xs : List α} {i : Int} {v : α} (h : atI xs i = some v) : ∃ j, seqIndex? i xs.length = some j ∧ xs[j]? = some v ∧ j < xs.length ∧ -(xs.length : Int) ≤ i ∧ i < xs.length := by
  unfold atI at h
  cases e : ixN xs.length i with
  | none => rw [e] at h; cases h
  | some j =>
    rw [e] at h
    obtain ⟨h1, h2, h3, h4⟩ := ixN_seq e
    exact ⟨j, h1, h, h2, h3, h4⟩
theorem atI_nat {α : Type} {xs : List α} {j : Nat} {v : α} (h : xs[j]? = some v) : atI xs (j : Int) = some v := by
  have hj : j < xs.length := (List.getElem?_eq_some_iff.mp h).1
  have e : ixN xs.length (j : Int) = some j := by
    unfold ixN
    rw [if_pos (by omega), if_pos (by omega)]; simp
  unfold atI; rw [e]; exact h
/-! ### what may be subscripted -/
/-- what stands as an index of a plain subscript -/
def PlainIx (b : Expr) : Prop := ∀ o i, subscripted b false o i = operate [o, i] (getItem o i)
/-- a subscript by values -/
def IxR (X : Cx) (r : R2) : Prop :=
  ∀ (value slice : Expr) (pins : List (Addr × Obj)) (s : Shared) (σ : St) (H : Hp) (x y : V) (v u : Value) (Q : VK), Inv X pins σ H s → RelV x v → RelV y u → r x y H Q →
    subscripted slice false v u = operate [v, u] (getItem v u) → wpAny (model X.prog X.w) X.A (subscriptTail value slice v u) (EP X pins σ Q) X.xe s
/-- a call of a builtin's method by values: the receiver, the arguments -/
def MtR (X : Cx) (id : String) (r : V → List V → Hp → VK → Prop) : Prop :=
  ∀ (pins : List (Addr × Obj)) (s : Shared) (σ : St) (H : Hp) (x : V) (xs : List V) (v : Value) (us : List Value) (Q : VK), Inv X pins σ H s → RelV x v → Vals xs us → r x xs H Q →
    wpAny (model X.prog X.w) X.A (call (.builtin id) (v :: us)) (EP X pins σ Q) X.xe s
section
variable {X : Cx} {a b : Expr} {ta tb : TE} {pos : Pos}
theorem IxR.or {r r' : R2} (h : IxR X r) (h' : IxR X r') : IxR X (fun x y H Q => r x y H Q ∨ r' x y H Q) := by
  intro value slice pins s σ H x y v u Q I rx ry q hs
  rcases q with q | q
  · exact h value slice pins s σ H x y v u Q I rx ry q hs
  · exact h' value slice pins s σ H x y v u Q I rx ry q hs
/-- a[b] -/
theorem pe_ix {r : R2} (hr : IxR X r) (ha : PE X a ta) (hb : PE X b tb) (hs : PlainIx b) : PE X (.Subscript a b pos) (tOp r ta tb) := by
  intro pins s σ H Q I h
  exact Subscript_ (binT ha hb I h fun v u s2 x y H2 I2 rx ry q => hr a b pins s2 σ H2 x y v u Q I2 rx ry q (hs _ _))

def rIxL (K : PySem.W.Frag) : R2 := fun x y H Q => ∃ p xs i v, x = .ref p ∧ y = .int i ∧ SqL K H p xs ∧ atI xs i = some v ∧ Q v H
def rIxT (K : PySem.W.Frag) : R2 := fun x y H Q => ∃ p xs i v, x = .ref p ∧ y = .int i ∧ SqT K H p xs ∧ atI xs i = some v ∧ Q v H
theorem ix_list : IxR X (rIxL X.K) := by
  intro value slice pins s σ H x y v u Q I rx ry h hs
  obtain ⟨p, xs, i, z, rfl, rfl, hq, he, q⟩ := h
  cases rx
  obtain ⟨t, rfl⟩ := ry
  obtain ⟨its, r, pl, hz⟩ := I.list hq
  obtain ⟨j, h1, h2, h3, h4, h5⟩ := atI_get he
  obtain ⟨w, ew, rw'⟩ := r.get h2
  have hl := r.length
  have hn := line63
  have fin : EP X pins σ Q w s := ⟨z, H, I, rw', q⟩
  by_cases h0 : 0 ≤ i
  · have hj : i.toNat = j := by
      rw [seqIndex_of h0 h5] at h1
      exact Option.some.inj h1
    exact item_listR pl.isList h0 (by omega) (by rw [hj]; simpa using ew) fin hs
  · have hj : (i + (its.toArray.size : Int)).toNat = j := by
      rw [seqIndex_neg (by omega) h4] at h1
      rw [List.size_toArray, ← hl]
      exact Option.some.inj h1
    exact subscriptTail_builtinR (x := w) pl.isList.typeIs slot_list_getitem.lookup
      (wpAny_getItem_list_neg (Q := fun r s' => r = w ∧ EP X pins σ Q r s') pl.isList (by omega) (by rw [List.size_toArray] <;> omega) (by omega) (by rw [hj]; simpa using ew) ⟨rfl, fin⟩) hs
theorem ix_tup : IxR X (rIxT X.K) := by
  intro value slice pins s σ H x y v u Q I rx ry h hs
  obtain ⟨p, xs, i, z, rfl, rfl, hq, he, q⟩ := h
  cases rx
  obtain ⟨t, rfl⟩ := ry
  obtain ⟨its, r, pl, hz⟩ := I.tuple hq
  obtain ⟨j, h1, h2, h3, h4, h5⟩ := atI_get he
  obtain ⟨w, ew, rw'⟩ := r.get h2
  have hl := r.length
  have hn := line63
  have fin : EP X pins σ Q w s := ⟨z, H, I, rw', q⟩
  exact subscriptTail_builtinR (x := w) pl.typeIs slot_tuple_getitem.lookup
    (getItem_tuple (j := j) (Q := fun r s' => r = w ∧ EP X pins σ Q r s') pl (by omega) (by omega) (by rw [List.size_toArray, ← hl]; exact h1) (by simpa using ew) ⟨rfl, fin⟩) hs
/-! ### xs[i] = v, any sign -/
/-- the list's object behind a store -/
theorem mapSeq_set (its : List Value) (n j : Nat) (u : Value) : Obj.mapSeq (·.setIfInBounds j u) { cls := .type "list", data := .seq its.toArray n } = { cls := .type "list", data := .seq (its.set j u).toArray n } := by
  simp [Obj.mapSeq]
theorem Inv.lst {pins : List (Addr × Obj)} {σ : St} {H : Hp} {s : Shared} {p : Addr} {xs : List V} (I : Inv X pins σ H s) (h : H p = some (.lst xs)) :
    ∃ (its : List Value) (n : Nat), Vals xs its ∧ s.heap.get? p = some { cls := .type "list", data := .seq its.toArray n } ∧ xs.length ≤ sizeLine := by
  obtain ⟨z, its, n, r, e⟩ := I.hok p _ h
  exact ⟨its, n, r, e, z⟩
/-- the list at p is written by an update of its object -/
theorem Inv.lstUpd {pins : List (Addr × Obj)} {σ : St} {H : Hp} {s : Shared} {p : Addr} {xs ys : List V} {its its' : List Value} {n n' : Nat} {f : Obj → Obj} (I : Inv X pins σ H s) (h : H p = some (.lst xs))
    (ho : s.heap.get? p = some { cls := .type "list", data := .seq its.toArray n }) (hf : f { cls := .type "list", data := .seq its.toArray n } = { cls := .type "list", data := .seq its'.toArray n' }) (r : Vals ys its') (hz : ys.length ≤ sizeLine) (t : Nat) :
    Inv X pins σ (upd H p (.lst ys)) { s with heap := s.heap.update p f, toks := t } := by
  have e : (s.heap.update p f).get? p = some { cls := .type "list", data := .seq its'.toArray n' } := by
    rw [Heap.get?_update_self f ho (by rw [hf] <;> rfl), hf]
  refine I.write (x := p) (e := p) (by rw [h]; trivial) (.inl rfl) (fun b u hb q => (Heap.get?_update_other _ _ (Ne.symm hb)).trans q) ⟨_, e⟩ ?_
  exact ⟨hz, its', n', r, e⟩
def rSetL : V → V → V → Hp → (Hp → Prop) → Prop := fun o i v H Q => ∃ p xs k j, o = .ref p ∧ i = .int k ∧ H p = some (.lst xs) ∧ ixN xs.length k = some j ∧ Q (upd H p (.lst (xs.set j v)))
theorem set_list : PSet X rSetL := by
  intro pins s σ H o i v ov iv u Q I ro ri rv h
  obtain ⟨p, xs, k, j, rfl, rfl, hp, hj, q⟩ := h
  cases ro
  obtain ⟨t, rfl⟩ := ri
  obtain ⟨its, n, r, ho, hz⟩ := I.lst hp
  obtain ⟨h1, h2, h3, h4⟩ := ixN_seq hj
  have hl := r.length
  have hn := line63
  have I' : Inv X pins σ (upd H p (.lst (xs.set j v))) { s with heap := s.heap.update p (Obj.mapSeq (·.setIfInBounds j u)) } :=
    I.lstUpd hp ho (mapSeq_set its n j u) (r.set rv j) (by rw [List.length_set]; exact hz) s.toks
  by_cases h0 : 0 ≤ k
  · have hk : k.toNat = j := by
      rw [seqIndex_of h0 h4] at h1
      exact Option.some.inj h1
    exact PySem.W.ki_setAt ho h0 (by omega) (by rw [List.size_toArray, ← hl]; exact h4) (by rw [hk]; exact ⟨_, I', q⟩)
  · have hk : (k + (its.toArray.size : Int)).toNat = j := by
      rw [seqIndex_neg (by omega) h3] at h1
      rw [List.size_toArray, ← hl]
      exact Option.some.inj h1
    exact PySem.W.ki_setBack ho (by omega) (by rw [List.size_toArray, ← hl]; exact h3) (by omega) (by rw [hk]; exact ⟨_, I', q⟩)

/-! ### slices -/
theorem slice_bounds (lo hi : Option Int) (n : Nat) : (sliceBounds lo hi none n).1 = ((HT.sIx n 0 lo : Nat) : Int) ∧ (sliceBounds lo hi none n).2.1 = ((HT.sIx n n hi : Nat) : Int) ∧ (sliceBounds lo hi none n).2.2 = 1 := by
  refine ⟨?_, ?_, rfl⟩
  · cases lo with
    | none => simp [sliceBounds, HT.sIx]
    | some i =>
      simp only [sliceBounds, HT.sIx, Option.getD_none, show (1 : Int) > 0 by decide, if_true]
      by_cases h : i < 0
      · simp only [h, if_true] <;> omega
      · simp only [h, if_false] <;> omega
  · cases hi with
    | none => simp [sliceBounds, HT.sIx]
    | some i =>
      simp only [sliceBounds, HT.sIx, Option.getD_none, show (1 : Int) > 0 by decide, if_true]
      by_cases h : i < 0
      · simp only [h, if_true] <;> omega
      · simp only [h, if_false] <;> omega
theorem slicePick_cut (its : List Value) (lo hi : Option Int) : slicePick its.toArray lo hi none = ((its.drop (HT.sIx its.length 0 lo)).take (HT.sIx its.length its.length hi - HT.sIx its.length 0 lo)).toArray := by
  obtain ⟨h1, h2, h3⟩ := slice_bounds lo hi its.toArray.size
  unfold slicePick
  rw [h1, h2, h3]
  simp only [sliceRange_one, pick_run, List.size_toArray] <;> rfl
/-- xs[lo:hi] of a list: a new list -/
def rSlL (K : PySem.W.Frag) : V → Option Int → Option Int → Hp → VK → Prop := fun x lo hi H Q => ∃ a xs, x = .ref a ∧ SqL K H a xs ∧ ∀ p, H p = none → Q (.ref p) (upd H p (.lst (cutV xs lo hi)))
theorem sl_list : SlR X (rSlL X.K) := by
  intro pins s σ H x v vl vu lo hi sl Q I rx hs pl pu h
  obtain ⟨a, xs, rfl, hx, q⟩ := h
  cases rx
  obtain ⟨its, r, ht, hz⟩ := I.list hx
  have hlen := r.length
  refine ⟨"list", _, slot_list_getitem.lookup, ht.isList.typeIs, ?_⟩
  refine wpAny_getItem_list_slice ht.isList hs pl pu .none (by simp) ?_ (by rw [List.size_toArray] <;> omega)
  rw [slicePick_cut, ← hlen]
  refine ⟨.ref s.heap.objs.size, _, I.laid (t' := s.toks) (o := .lst (cutV xs lo hi)) (fun b ob q => Heap.get?_push_of_some _ q) (Nat.le_refl _) ?_, rfl, q _ (I.hok.fresh (Nat.le_refl _))⟩
  exact ⟨Nat.le_trans (cutV_length xs lo hi) hz, _, 0, (r.drop (HT.sIx xs.length 0 lo)).take (HT.sIx xs.length xs.length hi - HT.sIx xs.length 0 lo), Heap.get?_push_size _ rfl⟩

/-! ### in, not in: flat items -/
/-! ### len, list(x), tuple(x) of any list or tuple that is read -/
theorem call_len_seq : CallR X (.builtin "len") (fun xs H Q => ∃ p ys, xs = [.ref p] ∧ (SqL X.K H p ys ∨ SqT X.K H p ys) ∧ Q (.int ys.length) H) := by
  intro pins s σ H xs us Q I r h
  obtain ⟨p, ys, rfl, hq, q⟩ := h
  obtain ⟨u, rfl, rx⟩ := vals1 r
  cases rx
  have hn := line63
  rcases hq with hq | hq
  · obtain ⟨its, r', pl, hz⟩ := I.list hq
    have hlen := r'.length
    exact Calls.call_len_list pl.isList (by simp only [List.size_toArray] <;> omega) ⟨.int ys.length, H, I.tok _, ⟨s.toks + 1, by rw [List.size_toArray, hlen]⟩, q⟩
  · obtain ⟨its, r', pl, hz⟩ := I.tuple hq
    have hlen := r'.length
    exact len_tuple pl (by simp only [List.size_toArray] <;> omega) ⟨.int ys.length, H, I.tok _, ⟨s.toks + 1, by rw [List.size_toArray, hlen]⟩, q⟩
theorem call_list_of : CallR X (.type "list") (fun xs H Q => ∃ p ys, xs = [.ref p] ∧ (SqL X.K H p ys ∨ SqT X.K H p ys) ∧ ∀ l, H l = none → Q (.ref l) (upd H l (.lst ys))) := by
  intro pins s σ H xs us Q I r h
  obtain ⟨p, ys, rfl, hq, q⟩ := h
  obtain ⟨u, rfl, rx⟩ := vals1 r
  cases rx
  have fin : ∀ (its : List Value), Vals ys its → ys.length ≤ sizeLine → ∀ (h' : Heap) (c' : Nat), (∀ b o', s.heap.get? b = some o' → h'.get? b = some o') →
      h'.get? s.heap.objs.size = some { cls := .type "list", dict := none, data := .seq its.toArray c', slots := #[] } → EP X pins σ Q (.ref s.heap.objs.size) { s with heap := h' } := fun its r' hz h' c' kp e =>
    ⟨.ref s.heap.objs.size, _, I.laid (t' := s.toks) kp (Nat.le_refl _) (show ObjOk X.prog X.w _ h' _ (.lst ys) from ⟨hz, its, c', r', e⟩), rfl, q _ (I.hok.fresh (Nat.le_refl _))⟩
  rcases hq with hq | hq
  · obtain ⟨its, r', pl, hz⟩ := I.list hq
    have hlen := r'.length
    obtain ⟨o, ho, hc, n, hd⟩ := pl.isList
    exact call_list_seq p (.inl rfl) ho hc hd (fun h' c' kp e => fin its r' hz h' c' kp e) (by simp only [List.size_toArray] <;> omega)
  · obtain ⟨its, r', pl, hz⟩ := I.tuple hq
    have hlen := r'.length
    obtain ⟨o, ho, hc, n, hd⟩ := pl
    exact call_list_seq p (.inr rfl) ho hc hd (fun h' c' kp e => fin its r' hz h' c' kp e) (by simp only [List.size_toArray] <;> omega)
/-! ### the call of a builtin's method: o.m(..) -/
/-- the value is of that builtin type -/
def tyV (K : PySem.W.Frag) (T : String) (x : V) (H : Hp) : Prop := match x with
  | .str _ => T = "str"
  | .int _ => T = "int"
  | .ref p => (T = "list" ∧ ∃ xs, SqL K H p xs) ∨ (T = "tuple" ∧ ∃ o, K.lookup p = some o ∧ o.cls = .type "tuple" ∧ o.dict = none) ∨
      (T = "dict" ∧ ((∃ kvs, H p = some (.dK kvs)) ∨ ∃ kvs, H p = some (.dT kvs))) ∨ (T = "set" ∧ ∃ S n, H p = some (.set S n))
  | _ => False
theorem tyV_is {pins : List (Addr × Obj)} {σ : St} {H : Hp} {s : Shared} {T : String} {x : V} {v : Value} (I : Inv X pins σ H s) (r : RelV x v) (ty : tyV X.K T x H) :
    s.TypeIs v T ∧ ∀ a, v = .ref a → ∃ ob, s.heap.get? a = some ob ∧ ob.dict = none := by
  cases x with
  | str z =>
    obtain ⟨t, rfl⟩ := r
    cases (show T = "str" from ty)
    exact ⟨typeIs_str s z t, fun _ e => nomatch e⟩
  | int i =>
    obtain ⟨t, rfl⟩ := r
    cases (show T = "int" from ty)
    exact ⟨typeIs_int s i t, fun _ e => nomatch e⟩
  | ref p =>
    cases r
    rcases ty with ⟨rfl, xs, hq⟩ | ⟨rfl, o, hk, hc, hd⟩ | ⟨rfl, hk⟩ | ⟨rfl, S, n, hk⟩
    · obtain ⟨its, _, pl, _⟩ := I.list hq
      refine ⟨pl.isList.typeIs, fun a e => ?_⟩
      cases e
      obtain ⟨o, n, e, c, hd, _⟩ := pl
      exact ⟨o, e, hd⟩
    · refine ⟨⟨o, I.kIn p o hk, hc⟩, fun a e => ?_⟩
      cases e
      exact ⟨o, I.kIn _ o hk, hd⟩
    · have z : ∃ o, s.heap.get? p = some o ∧ o.ExactDict := by
        rcases hk with ⟨kvs, hk⟩ | ⟨kvs, hk⟩
        · obtain ⟨_, _, _, _, o, _, _, e, ex, _⟩ := I.hok p _ hk
          exact ⟨o, e, ex⟩
        · obtain ⟨_, _, _, _, o, _, _, e, ex, _⟩ := I.hok p _ hk
          exact ⟨o, e, ex⟩
      obtain ⟨o, e, ex⟩ := z
      refine ⟨⟨o, e, ex.1⟩, fun a e2 => ?_⟩
      cases e2
      exact ⟨o, e, ex.2.1⟩
    · obtain ⟨o, _, _, _, e, ex, _⟩ := I.hok p _ hk
      refine ⟨⟨o, e, ex.1⟩, fun a e2 => ?_⟩
      cases e2
      exact ⟨o, e, ex.2.1⟩
  | _ => exact False.elim ty
def tBM (K : PySem.W.Frag) (T : String) (r : V → List V → Hp → VK → Prop) (to : TE) (t : TA) : TE := fun σ H Q => to σ H fun x H1 => tyV K T x H1 ∧ t σ H1 fun xs H2 => r x xs H2 Q
variable {o e : Expr} {es : List Expr} {to : TE} {t : TA} {name : Str} {apos cpos : Pos} {T id : String} {r : V → List V → Hp → VK → Prop}
theorem pe_bm (pa : PlainAttrs T) (slot : Slot T name id) (hty : typeOf (.builtin id) = pure (.type "method_descriptor")) (hm : MtR X id r) (ho : PE X o to) (ha : PA X (e :: es) t)
    (hbase : attributeBase o name X.env (eval o X.env) = eval o X.env := by rfl)
    (hfew : ((backTo cpos (starEach (e :: es) X.env)).all (fun x => !x.1) && (backToKw cpos (keywordEach [] X.env)).all (fun x => x.1.isSome)
      && decide ((e :: es).length + ([] : List Keyword).length + (if ([] : List Keyword).isEmpty then 0 else 1) < 30)) = true := by rfl)
    (hline : (apos.endLine == cpos.line) = true := by rfl) (hs : starEach (e :: es) X.env = (false, eval e X.env) :: starEach es X.env := by rfl) (hplain : (backTo cpos (starEach es X.env)).any (·.1) = false := by rfl) :
    PE X (.Call (.Attribute o name apos) (e :: es) [] cpos) (tBM X.K T r to t) := by
  intro pins s σ H Q I h
  refine wpAny_Call_method_late hbase hfew hline rfl (thn (ho pins s σ H _ I h) fun v s1 ⟨x, H1, I1, r1, ty, q1⟩ => ?_)
  obtain ⟨h1, h2⟩ := tyV_is I1 r1 ty
  refine ⟨T, id, pa, slot, hty, h1, h2, ?_⟩
  have hA := ha cpos pins s1 σ H1 _ I1 q1
  rw [hs] at hA ⊢
  refine Calls.callWith_builtin (by show (false || (backTo cpos (starEach es X.env)).any (·.1)) = false; rw [hplain] <;> rfl) (Calls.evalArgs_plain ?_)
  exact thn hA fun us s2 ⟨vs, H2, I2, r2, q2⟩ => hm pins s2 σ H2 x vs v us Q I2 r1 r2 q2
/- xs.append(e), list.index on a module's tuple .. are MtR facts of 06m -/
end
end L2

namespace L2
open PySem PySem.Spec PyProof.Rows

def MtM (X : Cx) (id : String) (r : V → List V → Hp → VK → Prop) : Prop :=
  ∀ (pins : List (Addr × Obj)) (s : Shared) (σ : St) (H : Hp) (x : V) (xs : List V) (v : Value) (us : List Value) (Q : VK), Inv X pins σ H s → RelV x v → Vals xs us → r x xs H Q →
    wpAny (model X.prog X.w) X.A (call (.builtin id) (v :: us)) (EP X pins σ Q) X.xe s

/-! ### lists of values -/
theorem Vals.one : ∀ {x : V} {us : List Value}, Vals [x] us → ∃ u, us = [u] ∧ RelV x u
  | _, _, .cons r .nil => ⟨_, rfl, r⟩
section
variable {X : Cx} {pins : List (Addr × Obj)} {σ : St} {H : Hp} {s : Shared} {l b : Addr} {xs ys zs : List V}

/-! ### the two steps: a tracked list is rewritten, a new list is laid -/
theorem Inv.lset {its its' : List Value} {n : Nat} {f : Array Value → Array Value} {t' : Nat} (I : Inv X pins σ H s) (hH : H l = some (.lst xs))
    (e : s.heap.get? l = some { cls := .type "list", data := .seq its.toArray n }) (hf : f its.toArray = its'.toArray) (hv : Vals ys its') (hz : ys.length ≤ sizeLine) :
    Inv X pins σ (upd H l (.lst ys)) { s with heap := s.heap.update l (Obj.mapSeq f), toks := t' } := by
  have q := PySem.IsL.update e f
  rw [hf] at q
  refine I.write (x := l) (e := l) (by rw [hH]; exact trivial) (.inl rfl) (fun b' u hb hu => (Heap.get?_update_other s.heap (Obj.mapSeq f) (Ne.symm hb)).trans hu) ⟨_, q⟩ ?_
  exact ⟨hz, its', _, hv, q⟩
theorem Inv.lnew {its : List Value} {t' : Nat} (I : Inv X pins σ H s) (hv : Vals ys its) (hz : ys.length ≤ sizeLine) :
    Inv X pins σ (upd H s.heap.objs.size (.lst ys)) { s with heap := s.heap.push { cls := .type "list", data := .seq its.toArray }, toks := t' } :=
  I.laid (fun _ _ q => Heap.get?_push_of_some _ q) (Nat.le_refl _) ⟨hz, its, 0, hv, Heap.get?_push_size _ rfl⟩
theorem Inv.fresh (I : Inv X pins σ H s) : H s.heap.objs.size = none := I.hok.fresh (Nat.le_refl _)
theorem Inv.lstM (I : Inv X pins σ H s) (hH : H l = some (.lst xs)) : xs.length ≤ sizeLine ∧ ∃ (its : List Value) (n : Nat), Vals xs its ∧ xs.length = its.length ∧ s.heap.get? l = some { cls := .type "list", data := .seq its.toArray n } := by
  obtain ⟨z, its, n, r, e⟩ := I.hok l _ hH
  exact ⟨z, its, n, r, r.length, e⟩

theorem notLongL {n : Nat} (h : n ≤ sizeLine) : Builtin.List.listTooLong n = false := by
  unfold Builtin.List.listTooLong
  exact decide_eq_false (by omega)
end

section
variable {X : Cx}

/-! ### methods -/
def rAppend : V → List V → Hp → VK → Prop := fun x vs H Q => ∃ l xs y, x = .ref l ∧ vs = [y] ∧ H l = some (.lst xs) ∧ xs.length < sizeLine ∧ Q .non (upd H l (.lst (xs ++ [y])))
theorem mt_append : MtM X "list.append" rAppend := by
  intro pins s σ H x vs v us Q I rx rv h
  obtain ⟨l, xs, y, rfl, rfl, hH, hz, q⟩ := h
  cases rx
  obtain ⟨u, rfl, ru⟩ := rv.one
  obtain ⟨z, its, n, r, hl, e⟩ := I.lstM hH
  refine call_meets F.slot_list_append ⟨_, e, rfl⟩ F.entry_list_append (F.args_list_append_2 _ _) (PySem.list_append l its.toArray n u (by rw [List.size_toArray]; omega)) ⟨e, ?_⟩
  refine ⟨.non, _, I.lset (its' := its ++ [u]) hH e (by simp) (r.append (.cons ru .nil)) ?_, rfl, q⟩
  rw [List.length_append, List.length_singleton]
  omega

def rExtend : V → List V → Hp → VK → Prop := fun x vs H Q => ∃ l b xs zs, x = .ref l ∧ vs = [.ref b] ∧ H l = some (.lst xs) ∧ H b = some (.lst zs) ∧ xs.length + zs.length ≤ sizeLine ∧ Q .non (upd H l (.lst (xs ++ zs)))
theorem mt_extend : MtM X "list.extend" rExtend := by
  intro pins s σ H x vs v us Q I rx rv h
  obtain ⟨l, b, xs, zs, rfl, rfl, hH, hB, hz, q⟩ := h
  cases rx
  obtain ⟨u, rfl, ru⟩ := rv.one
  cases ru
  obtain ⟨z, its, n, r, hl, e⟩ := I.lstM hH
  obtain ⟨z2, its2, n2, r2, hl2, e2⟩ := I.lstM hB
  have hsz : its.toArray.size + its2.toArray.size ≤ sizeLine := by rw [List.size_toArray, List.size_toArray]; omega
  have hlong : ¬ (!its.toArray.isEmpty && Builtin.List.listTooLong (its.toArray.size + its2.toArray.size)) = true := by
    rw [notLongL hsz, Bool.and_false]
    exact Bool.false_ne_true
  refine call_meets F.slot_list_extend ⟨_, e, rfl⟩ F.entry_list_extend (F.args_list_extend_2 _ _)
    (AutoSeq1.list_extend_list_list_0 l its.toArray n b its2.toArray n2 hlong (by rw [List.size_toArray]; omega) (by omega)) ⟨e, e2, ?_⟩
  refine ⟨.non, _, I.lset (its' := its ++ its2) hH e (by simp) (r.append r2) ?_, rfl, q⟩
  rw [List.length_append]
  omega

/-! ### list + list, list += list, list * int -/
/-! ### del xs[i] -/
end

/-! ### xs[a:b] = ys -/
section
variable {prog : Program} {w : World} {A : Around} {E : Value → Shared → Prop} {s : Shared}
end

section
variable {X : Cx}
end
end L2

namespace Att
open PySem PySem.W PySem.Calls PyProof.Rows

/-! ### the script -/
theorem ints_of_wellAll {P : Params} {h : Heap} : ∀ (ns : List Int) (vs : List Value), WellAll P h vs (ns.map WData.int) → IntsAre vs ns := by
  intro ns
  induction ns with
  | nil =>
    intro vs w
    rw [List.map_nil] at w
    cases w
    exact .nil
  | cons n ns ih =>
    intro vs w
    rw [List.map_cons] at w
    cases w with
    | cons a b =>
      cases a
      exact .cons _ _ (ih _ b)

theorem script_of {l : OpenLaw} {n : Nat} (hn : l.most = some n) {P : Params} {h : Heap} {args : List WData} {vals : List Value}
    (hpre : l.row.toRowW.claim.pre args = true) (hwl : WellAll P h vals args) :
    ∃ a vs ns, vals = [Value.ref a] ∧ args = [WData.list (ns.map WData.int)] ∧ h.get? a = some { cls := .type "list", data := .seq vs.toArray } ∧ IntsAre vs ns ∧ ns.length ≤ n := by
  have hsh : WShape.hasAll [] args [.list .int] = true := (pre_splitW hpre).1
  have hc : l.pre.holds [] { args := args } = true := (pre_splitW hpre).2
  obtain ⟨d, r, rfl, h1, h2⟩ := hasAllW_cons hsh
  obtain rfl := hasAllW_nil h2
  obtain ⟨xs, rfl, h3⟩ := hasW_list h1
  obtain ⟨ns, rfl⟩ := items_int h3
  have hlen : ns.length ≤ n := by
    unfold OpenLaw.pre at hc
    have h4 : (WTm.not (.lt (.lit (.int (n : Int))) (.len (.arg 0)))).holds [] { args := [.list (ns.map .int)] } = true := by
      have h4 := (holds_andW hc).1
      rw [hn] at h4
      exact h4
    have h5 := condW_of h4 (w_not (w_lt w_lit (w_len_list (w_arg rfl))))
    rw [List.length_map] at h5
    refine Nat.le_of_not_lt fun q => ?_
    have q' : (n : Int) < ((ns.length : Nat) : Int) := by omega
    first
      | (rw [decide_eq_true q'] at h5; exact absurd h5 (by decide))
      | (simp at h5; omega)
  cases hwl with
  | cons w1 w2 =>
    cases w2
    cases w1 with
    | list ho hall => exact ⟨_, _, ns, rfl, rfl, ho, ints_of_wellAll ns _ hall, hlen⟩

theorem post_true (l : OpenLaw) (args : List WData) : l.row.toRowW.claim.post args (.bool true) args = true :=
  postW_of (r := l.row.toRowW) (X := (true == true))
    (show WShape.has [] (.bool true) .bool = true by first | rfl | decide | simp [WShape.has, WShape.arms, WShape.armsAll])
    (show (WTm.eq .res (.lit (.bool true))).value [] { args := args, res := some (.bool true), after := args } = some (.bool (true == true)) from w_eq_bool (w_res rfl) w_lit) rfl

/-! ### the attachment: holds_open's last premise (the goal 'hc' behind k_head) from a wpAny of the law's body -/
/-- the same from a codeAny of the CALL (for a layer whose function contracts speak of calls) -/
theorem attach_call {l : OpenLaw} {n : Nat} {q : Program} {loose : List Str} {XP : (Str → Option Value) → Heap → Prop} {YP : World → Heap → Prop} {d : DefRec}
    (hn : l.most = some n) (hdf : d.params.defaults = [])
    (call : ∀ (w : World) (s₀ s₁ : Shared) (mg mb : Str → Option Value) (fa : Addr) (o : Obj) (pm cd doc : Value) (a : Addr) (vs : List Value) (ns : List Int),
      Ground q loose [] XP w s₀ mg mb s₁.heap → YP w s₁.heap →
      s₁.heap.get? fa = some o → o.data = .func (docDef d.name d.params d.body d.scope pm cd doc) → s₁.heap.CodeRec cd d.name → mg d.name = some (.ref fa) →
      s₁.heap.get? a = some { cls := .type "list", data := .seq vs.toArray } → IntsAre vs ns → ns.length ≤ n → s₁.gens = #[] →
      codeAny (model l.prog w) callerA (.call (.ref fa) ⟨[.ref a], []⟩) (fun r s' => r = .ok (.ret (.bool true)) ∧ OldK s₁.heap s'.heap ∧ s'.os = s₁.os ∧ AllBare s'.gens) s₁) :
    WalkO q loose XP YP l.row.toRowW d [] (fun f vs => PySem.call f vs) := by
  intro w s₀ s₁ mg mb G Y fa o pm cd doc dV kV ho hd hcd hD hmg hg args vals as hpre hlay hrd hwl hlo
  obtain rfl : dV = .none := Dflts.none hD hdf
  obtain rfl : kV = .none := Dflts.noKw hD
  obtain ⟨a, vs, ns, rfl, rfl, hobj, hints, hlen⟩ := script_of hn hpre hwl
  refine enter_call (codeAny_mono (call w s₀ s₁ mg mb fa o pm cd doc a vs ns G Y ho (fd_plain hd) hcd hmg hobj hints hlen hg) fun r s' hq => ?_)
  obtain ⟨rfl, h2, h3, h4⟩ := hq
  exact ⟨.inl ⟨.bool true, .bool true, [], rfl, fun _ => rfl, .bool true, post_true l _, fun _ => ⟨List.Pairwise.nil, fun _ hm => (nomatch hm)⟩⟩, h2, h3, h4⟩

/-! ### rules over ANY heap (no ledger) from facts about the written part K: the library's own take a ledger (News) for what they write -/
section
variable {prog : Program} {w : World} {A : Around} {E : Value → Shared → Prop} {s : Shared} {K : Frag}

/-! the whole heap as the ledger: makes every rule that writes through a ledger a rule over any heap -/
end
end Att

namespace L2
open PySem PySem.Spec PyProof.Rows

theorem vals_ints : ∀ {vs : List Value} {ns : List Int}, IntsAre vs ns → Vals (ns.map V.int) vs
  | _, _, .nil => .nil
  | _, _, .cons n t h => .cons ⟨t, rfl⟩ (vals_ints h)

/-- nothing is tracked but the script, known to the object (or it is an object of the module) -/
def Only (H : Hp) : Prop := ∀ b, H b = none ∨ ∃ o xs, H b = some (.frz o (.lst xs))

/-- THE HEAD: the law's promise, at the heap behind the top. F, the promise of the law's def, may use that base is part of the heap (so K.In base, base.Ns mainGlobals mg stand in Mod) -/
theorem law_call {P : Program} {w : World} {K : PySem.W.Frag} {mg mb : Str → Option Value} {CX : CXT} {k : Nat} {fa a : Addr} {fd : FuncData} {x : Str} {sp : Sp} {s₁ : Shared} {vs : List Value} {ns : List Int}
    (KX : K.In s₁.heap) (hns : s₁.heap.Ns mainGlobals mg) (hb : s₁.heap.Ns builtinsNs mb) (hbb : ∀ x : Str, x ≠ "__name__" → mb x = bootBuiltins x) (hlim : s₁.heap.NoLimit) (hg : s₁.gens = #[])
    (ha : s₁.heap.get? a = some { cls := .type "list", data := .seq vs.toArray }) (hi : IntsAre vs ns) (hl : ns.length ≤ sizeLine) (hr : Room k callerA)
    (F : ∀ base : Heap, K.In base → base.Ns mainGlobals mg → FnOk P w K mg base CX k fa fd [x] sp) (hbind : ∀ (s : Shared) (u : Value), BindsTo s fd ⟨[u], []⟩ [(x, u)])
    (hsp : ∀ H : Hp, Only H → SqL K H a (ns.map V.int) → sp [.ref a] H (fun v _ => v = .bl true) fun _ _ _ => False)
    (hCX : ∀ H e s', CX [] H s₁ (fun _ _ _ => False) e s' → False) :
    codeAny (model P w) callerA (.call (.ref fa) ⟨[.ref a], []⟩) (fun r s' => r = .ok (.ret (.bool true)) ∧ OldK s₁.heap s'.heap ∧ s'.os = s₁.os ∧ AllBare s'.gens) s₁ := by
  have rv := vals_ints hi
  have lenV := hi.length
  -- from an abstract heap in which nothing but the script may be tracked
  have core : ∀ H : Hp, Only H → SqL K H a (ns.map V.int) → HOk P w H s₁.heap → (∀ b, H b ≠ none → b = a) → (H a ≠ none → K.lookup a = none) →
      codeAny (model P w) callerA (.call (.ref fa) ⟨[.ref a], []⟩) (fun r s' => r = .ok (.ret (.bool true)) ∧ OldK s₁.heap s'.heap ∧ s'.os = s₁.os ∧ AllBare s'.gens) s₁ := by
    intro H hO hS hok hA hK
    have base_of : ∀ {b : Addr} {o : Obj}, s₁.heap.get? b = some o → H b = none → (hidT s₁.heap H).get? b = some o := fun e n => hidT_get e n
    have noA : ∀ {b : Addr} {o : Obj} {es : Array DictEntry} {ep : Nat}, s₁.heap.get? b = some o → o.data = .dict es ep → H b = none := fun {b o es ep} e d => by
      cases q : H b with
      | none => rfl
      | some u =>
        have e' : b = a := hA b (by rw [q]; simp)
        subst e'
        rw [ha] at e; cases e
        have d' : Data.seq vs.toArray _ = Data.dict es ep := d
        cases d'
    have nsK : ∀ {b : Addr} {m : Str → Option Value}, s₁.heap.Ns b m → (hidT s₁.heap H).Ns b m := fun {b m} ⟨o, es, ep, e, d, r⟩ => ⟨o, es, ep, base_of e (noA e d), d, r⟩
    have hKb : K.In (hidT s₁.heap H) := fun b o e => base_of (KX b o e) (by
      cases q : H b with
      | none => rfl
      | some u =>
        have e' : b = a := hA b (by rw [q]; simp)
        subst e'
        rw [hK (by rw [q]; simp)] at e; cases e)
    have hM : Mod K mg (hidT s₁.heap H) := ⟨hKb, nsK hns, ⟨mb, nsK hb, hbb⟩, let ⟨mc, h1, h2⟩ := hlim; ⟨mc, nsK h1, h2⟩⟩
    have e0 : Env0 P w K mg (hidT s₁.heap H) callerA [] s₁ H := ⟨rfl, hM, fun b o e => of_hidT e, Nat.le_of_eq (hidT_size _ _), trivial, fun b hb => absurd (show b ∈ ([] : List Addr) from hb) (by simp), hok, .of_eq hg⟩
    refine codeAny_mono ((F _ hKb (nsK hns)).run callerA [] s₁ H ⟨[.ref a], []⟩ [.ref a] [.ref a] _ _ hr e0 (hbind s₁ (.ref a)) (.cons rfl .nil) (hsp H hO hS)) fun r s' h => ?_
    cases r with
    | error e => exact (hCX H e s' h).elim
    | ok fl =>
      cases fl with
      | next => exact False.elim h
      | brk => exact False.elim h
      | cont => exact False.elim h
      | ret u =>
        obtain ⟨v, H', os, bare, un, hok', r', q⟩ := h
        have q' : v = .bl true := q
        subst q'
        obtain rfl : u = Value.bool true := r'
        refine ⟨rfl, OldK.of_keep fun b o e => ?_, os, bare⟩
        cases q : H b with
        | none => exact un.keep b o e q (by intro z; exact absurd (show b ∈ ([] : List Addr) from z) (by simp)) (by simp)
        | some u =>
          rcases hO b with z | ⟨ob, xs, z⟩
          · rw [q] at z; cases z
          · have z2 := un.frzs b ob _ z
            obtain ⟨e1, _⟩ := hok b _ z
            obtain ⟨e2, _⟩ := hok' b _ z2
            rw [e] at e1; cases e1
            exact e2
  cases hk : K.lookup a with
  | some o =>
    -- the script is one of the module's own objects
    have e := KX a o hk
    rw [ha] at e
    cases e
    refine core (fun _ => none) (fun _ => .inl rfl) (.inr ⟨_, vs.toArray, _, hk, rfl, rfl, rfl, by rw [List.size_toArray, lenV]; exact hl, by simpa using rv⟩) (fun b u z => by have z' : (none : Option HO) = some u := z; cases z') (fun b z => absurd rfl z) fun z => absurd rfl z
  | none =>
    refine core (fun b => if b = a then some (.frz { cls := .type "list", data := .seq vs.toArray } (.lst (ns.map V.int))) else none) (fun b => ?_) (.inl (.inr ⟨{ cls := .type "list", data := .seq vs.toArray }, if_pos rfl⟩)) (fun b u z => ?_) (fun b z => ?_) fun _ => hk
    · by_cases hb : b = a
      · exact .inr ⟨_, _, if_pos hb⟩
      · exact .inl (if_neg hb)
    · by_cases hb : b = a
      · have z' := (if_pos hb).symm.trans z
        cases z'
        subst hb
        exact ⟨ha, by rw [List.length_map]; exact hl, vs, _, rv, ha⟩
      · have z' := (if_neg hb).symm.trans z
        cases z'
    · by_cases hb : b = a
      · exact hb
      · exact absurd (if_neg hb) z
end L2

namespace L2
open PySem PySem.Spec PyProof.Rows

/-- the goal that k_head leaves (case hc), from the law's promise. F gives the function object fd (K's own) once, then the promise over every base -/
theorem walk_of {l : PySem.W.OpenLaw} {n k : Nat} {q : Program} {loose : List Str} {XP : (Str → Option Value) → Heap → Prop} {YP : World → Heap → Prop} {d : DefRec} {K : Params → PySem.W.Frag} {CX : World → CXT} {sp : World → Sp} {x : Str}
    (hn : l.most = some n) (hn2 : n ≤ sizeLine) (hdf : d.params.defaults = []) (hr : Room k callerA)
    (hY : ∀ (w : World) (h : Heap), YP w h → (K w.params).In h)
    (F : ∀ (w : World) (mg : Str → Option Value) (fa : Addr) (h : Heap), (K w.params).In h → h.Ns mainGlobals mg → mg d.name = some (.ref fa) →
      ∃ fd : FuncData, (∀ (s : Shared) (u : Value), BindsTo s fd ⟨[u], []⟩ [(x, u)]) ∧
        ∀ base : Heap, (K w.params).In base → base.Ns mainGlobals mg → FnOk l.prog w (K w.params) mg base (CX w) k fa fd [x] (sp w))
    (hsp : ∀ (w : World) (H : Hp) (a : Addr) (ns : List Int), ns.length ≤ n → Only H → SqL (K w.params) H a (ns.map V.int) → sp w [.ref a] H (fun v _ => v = .bl true) fun _ _ _ => False)
    (hCX : ∀ (w : World) (H : Hp) (s : Shared) (e : Value) (s' : Shared), CX w [] H s (fun _ _ _ => False) e s' → False) :
    PySem.W.WalkO q loose XP YP l.row.toRowW d [] (fun f vs => PySem.call f vs) := by
  refine Att.attach_call hn hdf fun w s₀ s₁ mg mb fa o pm cd doc a vs ns G Y ho hd hcd hmg hobj hints hlen hg => ?_
  have KX := hY w _ Y
  obtain ⟨fd, hb, hF⟩ := F w mg fa _ KX G.T.g hmg
  exact law_call KX G.T.g G.T.b G.T.builtins G.T.nolimit hg hobj hints (Nat.le_trans hlen hn2) hr hF hb (fun H hO hS => hsp w H a ns hlen hO hS) fun H e s' => hCX w H s₁ e s'
end L2



/-! SHORT WORDS over the layer: a def of the text, its body, what a loop and a test want. -/
namespace L2
open PySem PySem.Spec PyProof.Rows

/-! ### the text by places -/
/-- the j-th statement of a class's body -/
def inClass (s : Stmt) (j : Nat) : Stmt := match s with
  | .ClassDef _ _ _ body _ _ _ _ _ _ _ => body.getD j (.Pass ⟨0, 0, 0, 0⟩)
  | _ => .Pass ⟨0, 0, 0, 0⟩
def defArgs (s : Stmt) : Arguments := match s with
  | .FunctionDef _ a _ _ _ _ _ _ _ _ => a
  | _ => { posonlyargs := [], args := [], vararg := none, kwonlyargs := [], kw_defaults := [], kwarg := none, defaults := [] }
def defBody (s : Stmt) : List Stmt := match s with
  | .FunctionDef _ _ b _ _ _ _ _ _ _ => b
  | _ => []
def defScope (s : Stmt) : Scope := match s with
  | .FunctionDef _ _ _ _ _ _ sc _ _ _ => sc
  | _ => { kind := .function, names := [], isGenerator := false, isCoroutine := false }

/-! ### no exception leaves a def -/
abbrev CX0 : CXT := fun _ _ _ _ _ _ => False
abbrev E0 : XK := fun _ _ _ => False
theorem pass0 {X : Cx} : Passes CX0 X E0 := fun _ _ _ _ _ _ _ h => h.elim

/-! ### a def (or method) of the text as it stands behind the top -/
section
variable {P : Program} {w : World} {K : PySem.W.Frag} {mg : Str → Option Value} {base : Heap}
end
theorem small1000 {n : Nat} (h : n ≤ 1000) : n < sizeLine := Nat.lt_of_le_of_lt h (by decide)

/-! ### expressions in short: the name that stands in the i-th slot -/
section
variable {X : Cx}
end

/-! ### tests -/
theorem iteF {A B : Prop} (h : B) : if false = true then A else B := by
  rw [if_neg Bool.false_ne_true]
  exact h
theorem iteT {A B : Prop} (h : A) : if true = true then A else B := by
  rw [if_pos rfl]
  exact h
/-! ### heaps -/
/-- all that was tracked is as it was -/
def Same (H H' : Hp) : Prop := ∀ b o, H b = some o → H' b = some o
theorem Same.refl (H : Hp) : Same H H := fun _ _ h => h
theorem Same.trans {H H1 H2 : Hp} (a : Same H H1) (b : Same H1 H2) : Same H H2 := fun c o h => b c o (a c o h)
theorem Same.free {H H' : Hp} (e : Same H H') {l : Addr} (h : H' l = Option.none) : H l = Option.none := by
  cases q : H l with
  | none => rfl
  | some o =>
    rw [e l o q] at h
    cases h
theorem Same.seq {K : PySem.W.Frag} {H H' : Hp} {a : Addr} {xs : List V} (e : Same H H') (h : SqL K H a xs) : SqL K H' a xs := by
  rcases h with (h | ⟨o, h⟩) | h
  · exact .inl (.inl (e _ _ h))
  · exact .inl (.inr ⟨o, e _ _ h⟩)
  · exact .inr h

end L2

namespace Z
open PySem PySem.Spec PyProof.Rows L2

/-- a value of the program as plain data -/
inductive D where
  | non | bl (b : Bool) | int (i : Int) | str (x : Str) | ty (n : String) | cls (c : Nat) | tup (xs : List D) | lst (xs : List D) | obj (c : Nat) (xs : List D) | dct (cs : List (Int × Int)) | exc (c : Nat) (at_ : Option Int)

/-- the program's own classes: their addresses, their objects' fields -/
structure Kl where
  cls : Nat → Addr
  nm : Nat → List Str

/-! a dict whose keys are pairs of ints: what is true of its one object; the keys stand by themselves -/
def thash (ks : List Int) : Int := reduceHash (Builtin.Tuple.tupleHashOf (ks.map hashInt))
def DicO (a : Addr) (xs : List (List Int × Addr × Value)) : Heap → Prop := fun h => (a == sysModules) = false ∧ xs.length ≤ sizeLine ∧ (xs.map (·.1)).Nodup ∧
  ∃ o es ep, h.get? a = some o ∧ o.ExactDict ∧ o.data = .dict es ep ∧ es.toList = xs.map fun x => (⟨thash x.1, .ref x.2.1, x.2.2⟩ : DictEntry)
def KeyOk (K : PySem.W.Frag) (G : Hp) : List (List Int × Addr × Value) → List (Int × Int) → Prop
  | [], [] => True
  | (ks, b, _) :: xs, (x, y) :: cs => ks = [x, y] ∧ SqT K G b [.int x, .int y] ∧ KeyOk K G xs cs
  | _, _ => False
/-- an exception of the class at C, its dict at dx -/
def ExcO (a C : Addr) (dx : Option Addr) : Heap → Prop := fun h => ∃ o vs, h.get? a = some o ∧ o.cls = .ref C ∧ o.dict = dx ∧ o.data = .fields vs
mutual
/-- the value v, by the things of the heap G alone, is the datum d -/
inductive Rp (K : PySem.W.Frag) (L : Kl) (G : Hp) : V → D → Prop
  | non : Rp K L G .non .non
  | bl (b : Bool) : Rp K L G (.bl b) (.bl b)
  | int (i : Int) : Rp K L G (.int i) (.int i)
  | str (x : Str) : Rp K L G (.str x) (.str x)
  | ty (n : String) : Rp K L G (.ty n) (.ty n)
  | cls (c : Nat) : Rp K L G (.ref (L.cls c)) (.cls c)
  | tup {a : Addr} {vs : List V} {ds : List D} : SqT K G a vs → RpA K L G vs ds → Rp K L G (.ref a) (.tup ds)
  | lst {a : Addr} {vs : List V} {ds : List D} : SqL K G a vs → RpA K L G vs ds → Rp K L G (.ref a) (.lst ds)
  | obj {a dx : Addr} {c : Nat} {vs : List V} {ds : List D} : G a = some (.ins (L.cls c) dx ((L.nm c).zip vs)) → (L.nm c).length = vs.length → RpA K L G vs ds → Rp K L G (.ref a) (.obj c ds)
  | dct {a : Addr} {xs : List (List Int × Addr × Value)} {cs : List (Int × Int)} : G a = some (.ext (DicO a xs)) → KeyOk K G xs cs → Rp K L G (.ref a) (.dct cs)
  | exc0 {a : Addr} {c : Nat} : G a = some (.ext (ExcO a (L.cls c) none)) → Rp K L G (.ref a) (.exc c none)
  | exc1 {a dx : Addr} {c : Nat} {i : Int} : G a = some (.ext (ExcO a (L.cls c) (some dx))) → G dx = some (.xd [("at", .int i)]) → Rp K L G (.ref a) (.exc c (some i))
inductive RpA (K : PySem.W.Frag) (L : Kl) (G : Hp) : List V → List D → Prop
  | nil : RpA K L G [] []
  | cons {v : V} {d : D} {vs : List V} {ds : List D} : Rp K L G v d → RpA K L G vs ds → RpA K L G (v :: vs) (d :: ds)
end

theorem seqT {K : PySem.W.Frag} {H H' : Hp} {a : Addr} {xs : List V} (e : Same H H') (h : SqT K H a xs) : SqT K H' a xs := by
  rcases h with (h | ⟨o, h⟩) | h
  · exact .inl (.inl (e _ _ h))
  · exact .inl (.inr ⟨o, e _ _ h⟩)
  · exact .inr h

theorem KeyOk.mono {K : PySem.W.Frag} {G G' : Hp} (e : Same G G') : ∀ {xs : List (List Int × Addr × Value)} {cs : List (Int × Int)}, KeyOk K G xs cs → KeyOk K G' xs cs
  | [], [], _ => trivial
  | (_, _, _) :: _, (_, _) :: _, ⟨h1, h2, h3⟩ => ⟨h1, seqT e h2, KeyOk.mono e h3⟩
  | [], _ :: _, h => h.elim
  | _ :: _, [], h => h.elim
section
variable {K : PySem.W.Frag} {L : Kl} {G G' H H' : Hp}
mutual
theorem Rp.mono (e : Same G G') : ∀ {v : V} {d : D}, Rp K L G v d → Rp K L G' v d
  | _, _, .non => .non
  | _, _, .bl b => .bl b
  | _, _, .int i => .int i
  | _, _, .str x => .str x
  | _, _, .ty n => .ty n
  | _, _, .cls c => .cls c
  | _, _, .tup h hs => .tup (seqT e h) (RpA.mono e hs)
  | _, _, .lst h hs => .lst (Same.seq e h) (RpA.mono e hs)
  | _, _, .obj h hl hs => .obj (e _ _ h) hl (RpA.mono e hs)
  | _, _, .dct h hk => .dct (e _ _ h) (hk.mono e)
  | _, _, .exc0 h => .exc0 (e _ _ h)
  | _, _, .exc1 h h2 => .exc1 (e _ _ h) (e _ _ h2)
theorem RpA.mono (e : Same G G') : ∀ {vs : List V} {ds : List D}, RpA K L G vs ds → RpA K L G' vs ds
  | _, _, .nil => .nil
  | _, _, .cons h hs => .cons (Rp.mono e h) (RpA.mono e hs)
end
theorem RpA.length : ∀ {vs : List V} {ds : List D}, RpA K L G vs ds → vs.length = ds.length
  | _, _, .nil => rfl
  | _, _, .cons _ hs => congrArg (· + 1) (RpA.length hs)
theorem RpA.get : ∀ {vs : List V} {ds : List D} {i : Nat} {d : D}, RpA K L G vs ds → ds[i]? = some d → ∃ v, vs[i]? = some v ∧ Rp K L G v d
  | _, _, _, _, .nil, e => by simp at e
  | _, _, 0, _, .cons h _, e => by simp at e; subst e; exact ⟨_, rfl, h⟩
  | _, _, i + 1, d, .cons _ hs, e => by
    obtain ⟨u, h1, h2⟩ := RpA.get (i := i) (d := d) hs (by simpa using e)
    exact ⟨u, by simpa using h1, h2⟩
theorem RpA.get' : ∀ {vs : List V} {ds : List D} {i : Nat} {v : V}, RpA K L G vs ds → vs[i]? = some v → ∃ d, ds[i]? = some d ∧ Rp K L G v d
  | _, _, _, _, .nil, e => by simp at e
  | _, _, 0, _, .cons h _, e => by simp at e; subst e; exact ⟨_, rfl, h⟩
  | _, _, i + 1, v, .cons _ hs, e => by
    obtain ⟨u, h1, h2⟩ := RpA.get' (i := i) (v := v) hs (by simpa using e)
    exact ⟨u, by simpa using h1, h2⟩
theorem RpA.append : ∀ {vs ws : List V} {ds es : List D}, RpA K L G vs ds → RpA K L G ws es → RpA K L G (vs ++ ws) (ds ++ es)
  | _, _, _, _, .nil, s => s
  | _, _, _, _, .cons h hs, s => .cons h (RpA.append hs s)
theorem RpA.take : ∀ {vs : List V} {ds : List D} (n : Nat), RpA K L G vs ds → RpA K L G (vs.take n) (ds.take n)
  | _, _, 0, _ => .nil
  | _, _, _ + 1, .nil => .nil
  | _, _, n + 1, .cons h hs => .cons h (RpA.take n hs)
theorem RpA.drop : ∀ {vs : List V} {ds : List D} (n : Nat), RpA K L G vs ds → RpA K L G (vs.drop n) (ds.drop n)
  | _, _, 0, r => r
  | _, _, _ + 1, .nil => .nil
  | _, _, n + 1, .cons _ hs => RpA.drop n hs
theorem RpA.ints : ∀ (ns : List Int), RpA K L G (ns.map V.int) (ns.map D.int)
  | [] => .nil
  | n :: r => .cons (.int n) (RpA.ints r)
theorem RpA.of_ints : ∀ {vs : List V} {ns : List Int}, RpA K L G vs (ns.map D.int) → vs = ns.map V.int
  | _, [], .nil => rfl
  | _, n :: r, .cons h hs => by
    cases h
    rw [RpA.of_ints hs]
    rfl

/-- from the heap H with the known part G to H' with G': nothing is lost, and what is newly known is newly made -/
structure Ext (G H G' H' : Hp) : Prop where
  gg : Same G G'
  gh : Same G' H'
  hh : Same H H'
  nw : ∀ b, G' b ≠ none → G b ≠ none ∨ H b = none
theorem Ext.refl (s : Same G H) : Ext G H G H := ⟨.refl _, s, .refl _, fun _ h => .inl h⟩
theorem Ext.trans {G1 H1 : Hp} (a : Ext G H G1 H1) (b : Ext G1 H1 G' H') : Ext G H G' H' :=
  ⟨a.gg.trans b.gg, b.gh, a.hh.trans b.hh, fun c h => by
    rcases b.nw c h with h1 | h1
    · exact a.nw c h1
    · exact .inr (a.hh.free h1)⟩
/-- the known part at the start is the later one -/
theorem Ext.pre {G1 H1 : Hp} (a : Ext G H G1 H1) (b : Ext G1 H G' H') : Ext G H G' H' :=
  ⟨a.gg.trans b.gg, b.gh, b.hh, fun c h => by
    rcases b.nw c h with h1 | h1
    · exact a.nw c h1
    · exact .inr h1⟩
theorem Ext.rebase (a : Ext G H G' H') : Ext G' H G' H' := ⟨.refl _, a.gh, a.hh, fun _ h => .inl h⟩
theorem same_new {H : Hp} {p : Addr} (h : H p = none) (o : HO) : Same H (upd H p o) := fun b u q => by rw [upd_ne (ne_of_none q h)]; exact q
theorem Ext.alloc {p : Addr} (s : Same G H) (hp : H p = none) (o : HO) : Ext G H (upd G p o) (upd H p o) :=
  ⟨same_new (s.free hp) o, fun b u q => by
    by_cases e : b = p
    · subst e
      rw [upd_same] at q ⊢
      exact q
    · rw [upd_ne e] at q ⊢
      exact s _ _ q, same_new hp o, fun b h => by
    by_cases e : b = p
    · subst e
      exact .inr hp
    · rw [upd_ne e] at h
      exact .inl h⟩
end

/-- what is known of a name: nothing; its datum; a list of the def's own, which no one else has; an object of a class that is being made, its first fields -/
inductive Sl where
  | no | v (d : D) | own (ds : List D) | ob (p : Addr) (c : Nat) (ds : List D) | dic (cs : List (Int × Int))
def isOwn : Sl → Prop
  | .own _ => True
  | .ob _ _ _ => True
  | .dic _ => True
  | _ => False

def SlOk (K : PySem.W.Frag) (L : Kl) (H0 G H : Hp) (o : Option V) : Sl → Prop
  | .no => True
  | .v d => ∃ v, o = some v ∧ Rp K L G v d
  | .own ds => ∃ p vs, o = some (.ref p) ∧ H p = some (.lst vs) ∧ G p = none ∧ H0 p = none ∧ RpA K L G vs ds
  | .ob p c ds => ∃ vs, o = some (.ref p) ∧ (∃ dx, H p = some (.ins (L.cls c) dx ((L.nm c).zip vs))) ∧ G p = none ∧ H0 p = none ∧ RpA K L G vs ds ∧ ds.length ≤ (L.nm c).length
  | .dic cs => ∃ p xs, o = some (.ref p) ∧ H p = some (.ext (DicO p xs)) ∧ G p = none ∧ H0 p = none ∧ KeyOk K G xs cs

structure StOk (K : PySem.W.Frag) (L : Kl) (G0 H0 : Hp) (ρ : List Sl) (σ : L2.St) (G H : Hp) : Prop where
  ext : Ext G0 H0 G H
  sl : ∀ (i : Nat) (r : Sl), ρ[i]? = some r → SlOk K L H0 G H (σ[i]?.join) r
  len : ρ.length = σ.length
  dist : ∀ (i j : Nat) (p : Addr) (r r' : Sl), ρ[i]? = some r → ρ[j]? = some r' → isOwn r → isOwn r' → σ[i]? = some (some (.ref p)) → σ[j]? = some (some (.ref p)) → i = j

section
variable {K : PySem.W.Frag} {L : Kl} {G0 H0 G H G' H' : Hp} {ρ : List Sl} {σ : L2.St}
theorem join_some {o : Option (Option V)} {v : V} (h : o.join = some v) : o = some (some v) := by
  cases o with
  | none => cases h
  | some x => exact congrArg some h
/-- an own thing stands in the heap, and is known to no one else -/
theorem SlOk.owned {o : Option V} {r : Sl} (h : SlOk K L H0 G H o r) (hr : isOwn r) : ∃ p u, o = some (.ref p) ∧ H p = some u ∧ G p = none ∧ H0 p = none := by
  cases r with
  | no => exact hr.elim
  | v d => exact hr.elim
  | own ds =>
    obtain ⟨p, vs, h1, h2, h3, h4, _⟩ := h
    exact ⟨p, _, h1, h2, h3, h4⟩
  | ob p c ds =>
    obtain ⟨vs, h1, ⟨dx, h2⟩, h3, h4, _⟩ := h
    exact ⟨p, _, h1, h2, h3, h4⟩
  | dic cs =>
    obtain ⟨p, xs, h1, h2, h3, h4, _⟩ := h
    exact ⟨p, _, h1, h2, h3, h4⟩
/-- what is known of a name stays, where its own thing is left as it is -/
theorem SlOk.stay {o : Option V} {r : Sl} (h : SlOk K L H0 G H o r) (hg : Same G G') (hk : ∀ p u, isOwn r → o = some (.ref p) → H p = some u → H' p = some u ∧ G' p = none) : SlOk K L H0 G' H' o r := by
  cases r with
  | no => trivial
  | v d =>
    obtain ⟨v, h1, h2⟩ := h
    exact ⟨v, h1, h2.mono hg⟩
  | own ds =>
    obtain ⟨p, vs, h1, h2, h3, h4, h5⟩ := h
    obtain ⟨k1, k2⟩ := hk p _ trivial h1 h2
    exact ⟨p, vs, h1, k1, k2, h4, h5.mono hg⟩
  | ob p c ds =>
    obtain ⟨vs, h1, ⟨dx, h2⟩, h3, h4, h5, h6⟩ := h
    obtain ⟨k1, k2⟩ := hk p _ trivial h1 h2
    exact ⟨vs, h1, ⟨dx, k1⟩, k2, h4, h5.mono hg, h6⟩
  | dic cs =>
    obtain ⟨p, xs, h1, h2, h3, h4, h5⟩ := h
    obtain ⟨k1, k2⟩ := hk p _ trivial h1 h2
    exact ⟨p, xs, h1, k1, k2, h4, h5.mono hg⟩
theorem SlOk.any {o : Option V} {r : Sl} (h : SlOk K L H0 G H o r) (n : ¬ isOwn r) {H0' H' : Hp} : SlOk K L H0' G H' o r := by
  cases r with
  | no => trivial
  | v d => exact h
  | own ds => exact (n trivial).elim
  | ob p c ds => exact (n trivial).elim
  | dic cs => exact (n trivial).elim
theorem Ext.unknown (e : Ext G H G' H') {p : Addr} {u : HO} (h1 : H p = some u) (h2 : G p = none) : G' p = none := by
  cases q : G' p with
  | none => rfl
  | some o =>
    rcases e.nw p (by rw [q]; exact Option.some_ne_none _) with h6 | h6
    · exact absurd h2 h6
    · rw [h1] at h6; cases h6
theorem StOk.step (st : StOk K L G0 H0 ρ σ G H) (e : Ext G H G' H') : StOk K L G0 H0 ρ σ G' H' where
  ext := st.ext.trans e
  sl := fun i r hr => (st.sl i r hr).stay e.gg fun p u ho h1 h2 => by
    obtain ⟨p', u', h1', _, h3, _⟩ := (st.sl i r hr).owned ho
    rw [h1] at h1'
    cases h1'
    exact ⟨e.hh _ _ h2, e.unknown h2 h3⟩
  len := st.len
  dist := st.dist
theorem StOk.rebase (st : StOk K L G0 H0 ρ σ G H) : StOk K L G H0 ρ σ G H := ⟨st.ext.rebase, st.sl, st.len, st.dist⟩
theorem StOk.unbase {G1 H1 : Hp} (a : Ext G0 H0 G1 H1) (st : StOk K L G1 H0 ρ σ G H) : StOk K L G0 H0 ρ σ G H := ⟨a.pre st.ext, st.sl, st.len, st.dist⟩
theorem StOk.same (st : StOk K L G0 H0 ρ σ G H) : Same G H := st.ext.gh
theorem StOk.var (st : StOk K L G0 H0 ρ σ G H) {i : Nat} {d : D} (h : ρ[i]? = some (.v d)) : ∃ v, σ[i]? = some (some v) ∧ Rp K L G v d := by
  obtain ⟨v, h1, h2⟩ := st.sl i _ h
  exact ⟨v, join_some h1, h2⟩
theorem get_set {α : Type} {l : List α} {i j : Nat} {x y : α} (h : (l.set i x)[j]? = some y) : (j = i ∧ y = x ∧ i < l.length) ∨ (j ≠ i ∧ l[j]? = some y) := by
  by_cases e : j = i
  · subst e
    rw [List.getElem?_set] at h
    simp only [if_true] at h
    split at h
    · rename_i hl
      exact .inl ⟨rfl, (Option.some.inj h).symm, hl⟩
    · cases h
  · rw [List.getElem?_set_ne (fun z => e z.symm)] at h
    exact .inr ⟨e, h⟩
theorem StOk.set (st : StOk K L G0 H0 ρ σ G H) {i : Nat} {v : V} {d : D} (r : Rp K L G v d) : StOk K L G0 H0 (ρ.set i (.v d)) (σ.set i (some v)) G H where
  ext := st.ext
  sl := fun j s hs => by
    rcases get_set hs with ⟨rfl, rfl, hl⟩ | ⟨hne, hs⟩
    · refine ⟨v, ?_, r⟩
      rw [List.getElem?_set_self (by rw [← st.len]; exact hl)]
      rfl
    · rw [List.getElem?_set_ne (fun z => hne z.symm)]
      exact st.sl j s hs
  len := by rw [List.length_set, List.length_set]; exact st.len
  dist := fun j k p r1 r2 h1 h2 o1 o2 h3 h4 => by
    rcases get_set h1 with ⟨_, e, _⟩ | ⟨n1, g1⟩
    · rw [e] at o1; exact o1.elim
    rcases get_set h2 with ⟨_, e, _⟩ | ⟨n2, g2⟩
    · rw [e] at o2; exact o2.elim
    rw [List.getElem?_set_ne (fun z => n1 z.symm)] at h3
    rw [List.getElem?_set_ne (fun z => n2 z.symm)] at h4
    exact st.dist j k p r1 r2 g1 g2 o1 o2 h3 h4
/-- less is known of a name -/
theorem StOk.forget (st : StOk K L G0 H0 ρ σ G H) {ρ' : List Sl} (hl : ρ'.length = ρ.length) (hw : ∀ (i : Nat) (r : Sl), ρ'[i]? = some r → r = .no ∨ ρ[i]? = some r) : StOk K L G0 H0 ρ' σ G H where
  ext := st.ext
  sl := fun i r hr => by
    rcases hw i r hr with rfl | h
    · trivial
    · exact st.sl i r h
  len := hl.trans st.len
  dist := fun i j p r1 r2 h1 h2 o1 o2 h3 h4 => by
    rcases hw i _ h1 with h | h1'
    · rw [h] at o1; exact o1.elim
    rcases hw j _ h2 with h | h2'
    · rw [h] at o2; exact o2.elim
    exact st.dist i j p r1 r2 h1' h2' o1 o2 h3 h4
/-- a new list of the def's own -/
theorem StOk.newOwn (st : StOk K L G0 H0 ρ σ G H) {i : Nat} {p : Addr} {vs : List V} {ds : List D} (hp : H p = none) (r : RpA K L G vs ds) : StOk K L G0 H0 (ρ.set i (.own ds)) (σ.set i (some (.ref p))) G (upd H p (.lst vs)) where
  ext := ⟨st.ext.gg, st.ext.gh.trans (same_new hp _), st.ext.hh.trans (same_new hp _), st.ext.nw⟩
  sl := fun j s hs => by
    rcases get_set hs with ⟨rfl, rfl, hl⟩ | ⟨hne, hs⟩
    · refine ⟨p, vs, ?_, upd_same, st.ext.gh.free hp, st.ext.hh.free hp, r⟩
      rw [List.getElem?_set_self (by rw [← st.len]; exact hl)]
      rfl
    · rw [List.getElem?_set_ne (fun z => hne z.symm)]
      refine (st.sl j s hs).stay (.refl _) fun q u ho h1 h2 => ?_
      obtain ⟨q', u', h1', _, h3, _⟩ := (st.sl j s hs).owned ho
      rw [h1] at h1'
      cases h1'
      exact ⟨by rw [upd_ne (ne_of_none h2 hp)]; exact h2, h3⟩
  len := by rw [List.length_set, List.length_set]; exact st.len
  dist := fun j k q r1 r2 h1 h2 o1 o2 h3 h4 => by
    have old : ∀ {j : Nat} {r : Sl}, ρ[j]? = some r → isOwn r → σ[j]? = some (some (.ref p)) → False := fun {j r} a o b => by
      obtain ⟨q, u, c1, c2, _⟩ := (st.sl j _ a).owned o
      rw [b] at c1
      cases c1
      rw [hp] at c2
      cases c2
    rcases get_set h1 with ⟨rfl, e1, l1⟩ | ⟨n1, g1⟩
    · rcases get_set h2 with ⟨rfl, _, _⟩ | ⟨n2, g2⟩
      · rfl
      · rw [List.getElem?_set_self (by rw [← st.len]; exact l1)] at h3
        cases h3
        rw [List.getElem?_set_ne (fun z => n2 z.symm)] at h4
        exact (old g2 o2 h4).elim
    · rw [List.getElem?_set_ne (fun z => n1 z.symm)] at h3
      rcases get_set h2 with ⟨rfl, _, l2⟩ | ⟨n2, g2⟩
      · rw [List.getElem?_set_self (by rw [← st.len]; exact l2)] at h4
        cases h4
        exact (old g1 o1 h3).elim
      · rw [List.getElem?_set_ne (fun z => n2 z.symm)] at h4
        exact st.dist j k q r1 r2 g1 g2 o1 o2 h3 h4
/-- a new dict of the def's own -/
theorem StOk.newDic (st : StOk K L G0 H0 ρ σ G H) {i : Nat} {p : Addr} {xs : List (List Int × Addr × Value)} {cs : List (Int × Int)} (hp : H p = none) (r : KeyOk K G xs cs) : StOk K L G0 H0 (ρ.set i (.dic cs)) (σ.set i (some (.ref p))) G (upd H p (.ext (DicO p xs))) where
  ext := ⟨st.ext.gg, st.ext.gh.trans (same_new hp _), st.ext.hh.trans (same_new hp _), st.ext.nw⟩
  sl := fun j s hs => by
    rcases get_set hs with ⟨rfl, rfl, hl⟩ | ⟨hne, hs⟩
    · refine ⟨p, xs, ?_, upd_same, st.ext.gh.free hp, st.ext.hh.free hp, r⟩
      rw [List.getElem?_set_self (by rw [← st.len]; exact hl)]
      rfl
    · rw [List.getElem?_set_ne (fun z => hne z.symm)]
      refine (st.sl j s hs).stay (.refl _) fun q u ho h1 h2 => ?_
      obtain ⟨q', u', h1', _, h3, _⟩ := (st.sl j s hs).owned ho
      rw [h1] at h1'
      cases h1'
      exact ⟨by rw [upd_ne (ne_of_none h2 hp)]; exact h2, h3⟩
  len := by rw [List.length_set, List.length_set]; exact st.len
  dist := fun j k q r1 r2 h1 h2 o1 o2 h3 h4 => by
    have old : ∀ {j : Nat} {r : Sl}, ρ[j]? = some r → isOwn r → σ[j]? = some (some (.ref p)) → False := fun {j r} a o b => by
      obtain ⟨q, u, c1, c2, _⟩ := (st.sl j _ a).owned o
      rw [b] at c1
      cases c1
      rw [hp] at c2
      cases c2
    rcases get_set h1 with ⟨rfl, e1, l1⟩ | ⟨n1, g1⟩
    · rcases get_set h2 with ⟨rfl, _, _⟩ | ⟨n2, g2⟩
      · rfl
      · rw [List.getElem?_set_self (by rw [← st.len]; exact l1)] at h3
        cases h3
        rw [List.getElem?_set_ne (fun z => n2 z.symm)] at h4
        exact (old g2 o2 h4).elim
    · rw [List.getElem?_set_ne (fun z => n1 z.symm)] at h3
      rcases get_set h2 with ⟨rfl, _, l2⟩ | ⟨n2, g2⟩
      · rw [List.getElem?_set_self (by rw [← st.len]; exact l2)] at h4
        cases h4
        exact (old g1 o1 h3).elim
      · rw [List.getElem?_set_ne (fun z => n2 z.symm)] at h4
        exact st.dist j k q r1 r2 g1 g2 o1 o2 h3 h4
/-- an own thing is changed -/
theorem StOk.updO (st : StOk K L G0 H0 ρ σ G H) {i : Nat} {p : Addr} {r r' : Sl} {o : HO} (hi : ρ[i]? = some r) (hr : isOwn r) (hr' : isOwn r') (hp : σ[i]? = some (some (.ref p))) (hok : G p = none → H0 p = none → SlOk K L H0 G (upd H p o) (some (.ref p)) r') :
    StOk K L G0 H0 (ρ.set i r') σ G (upd H p o) := by
  obtain ⟨p', u, h1, h2, h3, h4⟩ := (st.sl i _ hi).owned hr
  have e1 := join_some h1
  rw [hp] at e1
  cases e1
  have hG : Same G (upd H p o) := fun b u q => by
    rw [upd_ne (ne_of_none q h3)]
    exact st.ext.gh _ _ q
  have hH : Same H0 (upd H p o) := fun b u q => by
    rw [upd_ne (ne_of_none q h4)]
    exact st.ext.hh _ _ q
  refine ⟨⟨st.ext.gg, hG, hH, st.ext.nw⟩, fun j s hs => ?_, by rw [List.length_set]; exact st.len, fun j k q r1 r2 g1 g2 o1 o2 g3 g4 => ?_⟩
  · rcases get_set hs with ⟨rfl, rfl, hl⟩ | ⟨hne, hs⟩
    · rw [hp]
      exact hok h3 h4
    · refine (st.sl j s hs).stay (.refl _) fun q u' ho c1 c2 => ?_
      obtain ⟨q', u'', c1', _, c3, _⟩ := (st.sl j s hs).owned ho
      rw [c1] at c1'
      cases c1'
      have hq : q ≠ p := fun z => by
        subst z
        exact hne (st.dist j i _ _ _ hs hi ho hr (join_some c1) hp)
      exact ⟨by rw [upd_ne hq]; exact c2, c3⟩
  · have back : ∀ {j : Nat} {s : Sl}, (ρ.set i r')[j]? = some s → isOwn s → ∃ s', ρ[j]? = some s' ∧ isOwn s' := fun {j s} a ho => by
      rcases get_set a with ⟨rfl, _, _⟩ | ⟨_, a⟩
      · exact ⟨_, hi, hr⟩
      · exact ⟨_, a, ho⟩
    obtain ⟨_, b1, b2⟩ := back g1 o1
    obtain ⟨_, b3, b4⟩ := back g2 o2
    exact st.dist j k q _ _ b1 b3 b2 b4 g3 g4
/-- the own list is handed over: a datum from now on -/
theorem StOk.freeze (st : StOk K L G0 H0 ρ σ G H) {i : Nat} {ds : List D} (hi : ρ[i]? = some (.own ds)) : ∃ p vs, σ[i]? = some (some (.ref p)) ∧ H p = some (.lst vs) ∧ G p = none ∧ Same G (upd G p (.lst vs)) ∧ StOk K L G0 H0 (ρ.set i (.v (.lst ds))) σ (upd G p (.lst vs)) H := by
  obtain ⟨p, vs, h1, h2, h3, h4, h5⟩ := st.sl i _ hi
  have gg : Same G (upd G p (.lst vs)) := same_new h3 _
  have gh : Same (upd G p (.lst vs)) H := fun b u q => by
    by_cases e : b = p
    · subst e
      rw [upd_same] at q
      rw [h2]
      exact q
    · rw [upd_ne e] at q
      exact st.ext.gh _ _ q
  refine ⟨p, vs, join_some h1, h2, h3, gg, ⟨st.ext.gg.trans gg, gh, st.ext.hh, fun b hb => ?_⟩, fun j s hs => ?_, by rw [List.length_set]; exact st.len, fun j k q r1 r2 g1 g2 o1 o2 g3 g4 => ?_⟩
  · by_cases e : b = p
    · subst e
      exact .inr h4
    · rw [upd_ne e] at hb
      exact st.ext.nw b hb
  · rcases get_set hs with ⟨rfl, rfl, hl⟩ | ⟨hne, hs⟩
    · exact ⟨.ref p, h1, .lst (SqL.of upd_same) (h5.mono gg)⟩
    · refine (st.sl j s hs).stay gg fun q u ho c1 c2 => ?_
      obtain ⟨q', u'', c1', _, c3, _⟩ := (st.sl j s hs).owned ho
      rw [c1] at c1'
      cases c1'
      have hq : q ≠ p := fun z => by
        subst z
        exact hne (st.dist j i _ _ _ hs hi ho trivial (join_some c1) (join_some h1))
      exact ⟨c2, by rw [upd_ne hq]; exact c3⟩
  · rcases get_set g1 with ⟨_, e, _⟩ | ⟨n1, g1⟩
    · rw [e] at o1; exact o1.elim
    rcases get_set g2 with ⟨_, e, _⟩ | ⟨n2, g2⟩
    · rw [e] at o2; exact o2.elim
    exact st.dist j k q r1 r2 g1 g2 o1 o2 g3 g4
/-- the own dict is handed over -/
theorem StOk.freezeD (st : StOk K L G0 H0 ρ σ G H) {i : Nat} {cs : List (Int × Int)} (hi : ρ[i]? = some (.dic cs)) : ∃ p xs, σ[i]? = some (some (.ref p)) ∧ H p = some (.ext (DicO p xs)) ∧ G p = none ∧ Same G (upd G p (.ext (DicO p xs))) ∧ StOk K L G0 H0 (ρ.set i (.v (.dct cs))) σ (upd G p (.ext (DicO p xs))) H := by
  obtain ⟨p, xs, h1, h2, h3, h4, h5⟩ := st.sl i _ hi
  have gg : Same G (upd G p (.ext (DicO p xs))) := same_new h3 _
  have gh : Same (upd G p (.ext (DicO p xs))) H := fun b u q => by
    by_cases e : b = p
    · subst e
      rw [upd_same] at q
      rw [h2]
      exact q
    · rw [upd_ne e] at q
      exact st.ext.gh _ _ q
  refine ⟨p, xs, join_some h1, h2, h3, gg, ⟨st.ext.gg.trans gg, gh, st.ext.hh, fun b hb => ?_⟩, fun j s hs => ?_, by rw [List.length_set]; exact st.len, fun j k q r1 r2 g1 g2 o1 o2 g3 g4 => ?_⟩
  · by_cases e : b = p
    · subst e
      exact .inr h4
    · rw [upd_ne e] at hb
      exact st.ext.nw b hb
  · rcases get_set hs with ⟨rfl, rfl, hl⟩ | ⟨hne, hs⟩
    · exact ⟨.ref p, h1, .dct upd_same (h5.mono gg)⟩
    · refine (st.sl j s hs).stay gg fun q u ho c1 c2 => ?_
      obtain ⟨q', u'', c1', _, c3, _⟩ := (st.sl j s hs).owned ho
      rw [c1] at c1'
      cases c1'
      have hq : q ≠ p := fun z => by
        subst z
        exact hne (st.dist j i _ _ _ hs hi ho trivial (join_some c1) (join_some h1))
      exact ⟨c2, by rw [upd_ne hq]; exact c3⟩
  · rcases get_set g1 with ⟨_, e, _⟩ | ⟨n1, g1⟩
    · rw [e] at o1; exact o1.elim
    rcases get_set g2 with ⟨_, e, _⟩ | ⟨n2, g2⟩
    · rw [e] at o2; exact o2.elim
    exact st.dist j k q r1 r2 g1 g2 o1 o2 g3 g4
end
end Z

namespace Z
open PySem PySem.Spec PyProof.Rows L2

/-! ### the weakest readings -/
section
variable (X : Cx)
def wE (e : Expr) : TE := fun σ H Q => ∀ (pins : List (Addr × Obj)) (s : Shared), Inv X pins σ H s → wpAny (model X.prog X.w) X.A (eval e X.env) (EP X pins σ Q) X.xe s
def wT (e : Expr) : TT := fun σ H Q => ∀ (pins : List (Addr × Obj)) (s : Shared), Inv X pins σ H s → wpAny (model X.prog X.w) X.A (isTrue e X.env (eval e X.env)) (TP X pins σ Q) X.xe s
def wA (es : List Expr) : TA := fun σ H Q => ∀ (pos : Pos) (pins : List (Addr × Obj)) (s : Shared), Inv X pins σ H s → wpAny (model X.prog X.w) X.A (spliced (backTo pos (starEach es X.env))) (AP X pins σ Q) X.xe s
def wS (st : Stmt) : TS := fun D σ H => ∀ (pins : List (Addr × Obj)) (s : Shared), Inv X pins σ H s → wpAny (model X.prog X.w) X.A (exec st X.env) (SP X pins D) X.xe s
def wSs (st : List Stmt) : TS := fun D σ H => ∀ (pins : List (Addr × Obj)) (s : Shared), Inv X pins σ H s → wpAny (model X.prog X.w) X.A (execs st X.env) (SP X pins D) X.xe s
end
section
variable {X : Cx} {e : Expr} {es : List Expr} {st : Stmt} {sts : List Stmt} {σ : L2.St} {H : Hp}
theorem pe_w : PE X e (wE X e) := fun pins s σ H Q I h => h pins s I
theorem pt_w : PT X e (wT X e) := fun pins s σ H Q I h => h pins s I
theorem pa_w : PA X es (wA X es) := fun pos pins s σ H Q I h => h pos pins s I
theorem ps_w : PS X st (wS X st) := fun pins s σ H Q I h => h pins s I
theorem pss_w : PSs X sts (wSs X sts) := fun pins s σ H Q I h => h pins s I
theorem wE_of {t : TE} {Q : VK} (h : PE X e t) (q : t σ H Q) : wE X e σ H Q := fun pins s I => h pins s σ H Q I q
theorem wT_of {t : TT} {Q : Bool → Hp → Prop} (h : PT X e t) (q : t σ H Q) : wT X e σ H Q := fun pins s I => h pins s σ H Q I q
theorem wA_of {t : TA} {Q : List V → Hp → Prop} (h : PA X es t) (q : t σ H Q) : wA X es σ H Q := fun pos pins s I => h pos pins s σ H Q I q
theorem wS_of {t : TS} {D : Ends} (h : PS X st t) (q : t D σ H) : wS X st D σ H := fun pins s I => h pins s σ H D I q
theorem wSs_of {t : TS} {D : Ends} (h : PSs X sts t) (q : t D σ H) : wSs X sts D σ H := fun pins s I => h pins s σ H D I q
/-- ends that say more -/
structure EndsLe (D D' : Ends) : Prop where
  nx : ∀ σ H, D.nx σ H → D'.nx σ H
  rt : ∀ v H, D.rt v H → D'.rt v H
  bk : ∀ σ H, D.bk σ H → D'.bk σ H
  ct : ∀ σ H, D.ct σ H → D'.ct σ H
theorem SP_mono {pins : List (Addr × Obj)} {D D' : Ends} (l : EndsLe D D') {f : Flow} {s : Shared} (h : SP X pins D f s) : SP X pins D' f s := by
  cases f with
  | next => obtain ⟨σ', H', I, q⟩ := h; exact ⟨σ', H', I, l.nx _ _ q⟩
  | brk => obtain ⟨σ', H', I, q⟩ := h; exact ⟨σ', H', I, l.bk _ _ q⟩
  | cont => obtain ⟨σ', H', I, q⟩ := h; exact ⟨σ', H', I, l.ct _ _ q⟩
  | ret u => obtain ⟨v, σ', H', I, r, q⟩ := h; exact ⟨v, σ', H', I, r, l.rt _ _ q⟩
theorem wSs_mono {D D' : Ends} (l : EndsLe D D') (h : wSs X sts D σ H) : wSs X sts D' σ H := fun pins s I => thn (h pins s I) fun _ _ q => SP_mono l q
theorem wSs_cons {D : Ends} (h : wS X st { D with nx := fun σ' H' => wSs X sts D σ' H' } σ H) : wSs X (st :: sts) D σ H := wSs_of (pss_cons ps_w pss_w) h
theorem wSs_nil {D : Ends} (h : D.nx σ H) : wSs X [] D σ H := wSs_of pss_nil h
end

/-! ### the judgements over data -/
/-- what is wanted behind a block: ρ behind it; the datum handed back -/
structure En where
  nx : List Sl → Prop
  rt : D → Prop
  bk : List Sl → Prop := fun _ => False
  ct : List Sl → Prop := fun _ => False
  rl : List D → Prop := fun _ => False

theorem retPre {K : PySem.W.Frag} {L : Kl} {G0 H0 G1 : Hp} {v : V} {H' : Hp} {Ha : Hp} {R : D → Prop} {RL : List D → Prop} (e : Ext G0 H0 G1 Ha)
    (h : (∃ d G, Ext G1 H0 G H' ∧ Rp K L G v d ∧ R d) ∨ ∃ p vs ds G, v = .ref p ∧ Ext G1 H0 G H' ∧ H0 p = none ∧ G p = none ∧ H' p = some (.lst vs) ∧ RpA K L G vs ds ∧ RL ds) :
    (∃ d G, Ext G0 H0 G H' ∧ Rp K L G v d ∧ R d) ∨ ∃ p vs ds G, v = .ref p ∧ Ext G0 H0 G H' ∧ H0 p = none ∧ G p = none ∧ H' p = some (.lst vs) ∧ RpA K L G vs ds ∧ RL ds := by
  rcases h with ⟨d, G, x, r, q⟩ | ⟨p, vs, ds, G, e1, x, h1, h2, h3, h4, h5⟩
  · exact .inl ⟨d, G, e.pre x, r, q⟩
  · exact .inr ⟨p, vs, ds, G, e1, e.pre x, h1, h2, h3, h4, h5⟩
def ends (K : PySem.W.Frag) (L : Kl) (G0 H0 : Hp) (E : En) : Ends where
  nx := fun σ H => ∃ ρ G, StOk K L G0 H0 ρ σ G H ∧ E.nx ρ
  rt := fun v H => (∃ d G, Ext G0 H0 G H ∧ Rp K L G v d ∧ E.rt d) ∨ ∃ p vs ds G, v = .ref p ∧ Ext G0 H0 G H ∧ H0 p = none ∧ G p = none ∧ H p = some (.lst vs) ∧ RpA K L G vs ds ∧ E.rl ds
  bk := fun σ H => ∃ ρ G, StOk K L G0 H0 ρ σ G H ∧ E.bk ρ
  ct := fun σ H => ∃ ρ G, StOk K L G0 H0 ρ σ G H ∧ E.ct ρ

section
variable (X : Cx) (L : Kl) (ρ : List Sl)
/-- the expression is the datum d, and nothing else happens -/
structure EV (e : Expr) (d : D) : Prop where
  run : ∀ (σ : L2.St) (G0 H0 G H : Hp), StOk X.K L G0 H0 ρ σ G H → ∀ Q : VK, (∀ v G' H', Ext G H G' H' → Rp X.K L G' v d → Q v H') → wE X e σ H Q
structure TV (e : Expr) (b : Bool) : Prop where
  run : ∀ (σ : L2.St) (G0 H0 G H : Hp), StOk X.K L G0 H0 ρ σ G H → ∀ Q : Bool → Hp → Prop, (∀ G' H', Ext G H G' H' → Q b H') → wT X e σ H Q
structure EVs (es : List Expr) (ds : List D) : Prop where
  run : ∀ (σ : L2.St) (G0 H0 G H : Hp), StOk X.K L G0 H0 ρ σ G H → ∀ Q : List V → Hp → Prop, (∀ vs G' H', Ext G H G' H' → RpA X.K L G' vs ds → Q vs H') → wA X es σ H Q
structure SV (ss : List Stmt) (E : En) : Prop where
  run : ∀ (σ : L2.St) (G0 H0 G H : Hp), StOk X.K L G0 H0 ρ σ G H → wSs X ss (ends X.K L G0 H0 E) σ H
end

section
variable {X : Cx} {L : Kl} {ρ : List Sl} {e a b c : Expr} {es : List Expr} {d da db : D} {ds : List D} {pos : Pos} {E : En} {rest : List Stmt}

/-! ### expressions -/
theorem ev_var (i : Nat) {x : Str} (hρ : ρ[i]? = some (.v d) := by rfl) (hN : X.N[i]? = some x := by rfl) (hv : Vis X.env.scope x := by first | exact Or.inl rfl | exact Or.inr (Or.inl rfl) | exact Or.inr (Or.inr rfl))
    (hd : (x == ("__debug__" : Str)) = false := by decide) (hcd : (x == ("__classdict__" : Str)) = false := by decide) : EV X L ρ (.Name x pos) d := .mk fun σ G0 H0 G H st Q k => by
  obtain ⟨v, h1, h2⟩ := st.var hρ
  exact wE_of (pe_var hN hv hd hcd) ⟨v, h1, k v G H (.refl st.same) h2⟩
theorem ev_int {i : Int} {j} : EV X L ρ (.Constant (.int i) j pos) (.int i) := .mk fun σ G0 H0 G H st Q k => wE_of pe_int (k _ G H (.refl st.same) (.int i))
theorem ev_bl {i : Bool} {j} : EV X L ρ (.Constant (.bool i) j pos) (.bl i) := .mk fun σ G0 H0 G H st Q k => wE_of pe_bl (k _ G H (.refl st.same) (.bl i))
theorem ev_non {j} : EV X L ρ (.Constant .none j pos) .non := .mk fun σ G0 H0 G H st Q k => wE_of pe_non (k _ G H (.refl st.same) .non)
theorem ev_str {x : Str} {j} : EV X L ρ (.Constant (.str x) j pos) (.str x) := .mk fun σ G0 H0 G H st Q k => wE_of pe_str (k _ G H (.refl st.same) (.str x))
/-- a name of the module -/
theorem ev_glob {x : Str} {v : V} {u : Value} (hm : X.mg x = some u) (r : RelV v u) (hr : ∀ G, Rp X.K L G v d) (hg : Gl X x := by rfl) (hd : (x == ("__debug__" : Str)) = false := by decide) : EV X L ρ (.Name x pos) d := .mk fun σ G0 H0 G H st Q k =>
  wE_of (pe_glob hg hm r hd) (k v G H (.refl st.same) (hr G))
theorem ev_bltn {x : Str} {v : V} {u : Value} (hm : X.mg x = none) (hv : bootBuiltins x = some u) (r : RelV v u) (hr : ∀ G, Rp X.K L G v d) (hg : Gl X x := by rfl) (hn : x ≠ "__name__" := by decide) (hd : (x == ("__debug__" : Str)) = false := by decide) :
    EV X L ρ (.Name x pos) d := .mk fun σ G0 H0 G H st Q k => wE_of (pe_bltn hg hm hv r hn hd) (k v G H (.refl st.same) (hr G))

/-- what a two-place operation makes of two data -/
def Op2 (K : PySem.W.Frag) (L : Kl) (r : R2) (da db d : D) : Prop := ∀ (G H : Hp) (v u : V), Same G H → Rp K L G v da → Rp K L G u db → ∀ Q : VK, (∀ z G' H', Ext G H G' H' → Rp K L G' z d → Q z H') → r v u H Q
theorem op2I {f : Int → Int → Int} {i j : Int} {K : PySem.W.Frag} : Op2 K L (rI0 fun i j => .int (f i j)) (.int i) (.int j) (.int (f i j)) := fun G H v u s r1 r2 Q k => by
  cases r1; cases r2
  exact ⟨i, j, rfl, rfl, k _ G H (.refl s) (.int _)⟩
theorem op2B {f : Int → Int → Bool} {i j : Int} {K : PySem.W.Frag} : Op2 K L (rI0 fun i j => .bl (f i j)) (.int i) (.int j) (.bl (f i j)) := fun G H v u s r1 r2 Q k => by
  cases r1; cases r2
  exact ⟨i, j, rfl, rfl, k _ G H (.refl s) (.bl _)⟩
theorem op2C {C : Int → Int → Prop} {f : Int → Int → Int} {i j : Int} {K : PySem.W.Frag} (hc : C i j) : Op2 K L (rI C fun i j => .int (f i j)) (.int i) (.int j) (.int (f i j)) := fun G H v u s r1 r2 Q k => by
  cases r1; cases r2
  exact ⟨i, j, rfl, rfl, hc, k _ G H (.refl s) (.int _)⟩
theorem bin2 {r : R2} (ha : EV X L ρ a da) (hb : EV X L ρ b db) (hr : Op2 X.K L r da db d) {σ : L2.St} {G0 H0 G H : Hp} (st : StOk X.K L G0 H0 ρ σ G H) {Q : VK} (k : ∀ v G' H', Ext G H G' H' → Rp X.K L G' v d → Q v H') : tOp r (wE X a) (wE X b) σ H Q :=
  ha.run σ G0 H0 G H st _ fun v G1 H1 e1 r1 => hb.run σ G0 H0 G1 H1 (st.step e1) _ fun u G2 H2 e2 r2 => hr G2 H2 v u e2.gh (r1.mono e2.gg) r2 _ fun z G3 H3 e3 r3 => k z G3 H3 ((e1.trans e2).trans e3) r3
theorem ev_op {op : Operator} {r : R2} (ho : OpR X (binaryOp op) r) (hr : Op2 X.K L r da db d) (ha : EV X L ρ a da) (hb : EV X L ρ b db) : EV X L ρ (.BinOp a op b pos) d := .mk fun σ G0 H0 G H st Q k =>
  wE_of (pe_op ho pe_w pe_w) (bin2 ha hb hr st k)
theorem ev_add {i j : Int} (ha : EV X L ρ a (.int i)) (hb : EV X L ρ b (.int j)) : EV X L ρ (.BinOp a .Add b pos) (.int (i + j)) := ev_op op_add op2I ha hb
theorem ev_sub {i j : Int} (ha : EV X L ρ a (.int i)) (hb : EV X L ρ b (.int j)) : EV X L ρ (.BinOp a .Sub b pos) (.int (i - j)) := ev_op op_sub op2I ha hb
theorem op_mulK : OpR X (binaryOp .Mult) (rI IntMulOk fun i j => .int (i * j)) := opI fun _ _ _ _ _ _ _ hc q => mul_int q hc
theorem ev_mul {i j : Int} (ha : EV X L ρ a (.int i)) (hb : EV X L ρ b (.int j)) (hc : IntMulOk i j) : EV X L ρ (.BinOp a .Mult b pos) (.int (i * j)) := ev_op op_mulK (op2C hc) ha hb
theorem ev_fdiv {i j : Int} (ha : EV X L ρ a (.int i)) (hb : EV X L ρ b (.int j)) (hc : CDiv i j) : EV X L ρ (.BinOp a .FloorDiv b pos) (.int (i / j)) := ev_op op_fdiv (op2C (f := fun i j => i / j) hc) ha hb
theorem ev_mod {i j : Int} (ha : EV X L ρ a (.int i)) (hb : EV X L ρ b (.int j)) (hc : 0 < j) : EV X L ρ (.BinOp a .Mod b pos) (.int (i % j)) := ev_op op_mod (op2C (C := fun _ j => 0 < j) (f := fun i j => i % j) hc) ha hb
theorem ev_pow {i j : Int} (ha : EV X L ρ a (.int i)) (hb : EV X L ρ b (.int j)) (hc : CPow i j) : EV X L ρ (.BinOp a .Pow b pos) (.int (i ^ j.toNat)) := ev_op op_pow (op2C (f := fun i j => i ^ j.toNat) hc) ha hb
theorem ev_neg {i : Int} (ha : EV X L ρ a (.int i)) : EV X L ρ (.UnaryOp .USub a pos) (.int (-i)) := .mk fun σ G0 H0 G H st Q k =>
  wE_of (pe_un un_neg pe_w) (ha.run σ G0 H0 G H st _ fun v G1 H1 e1 r1 => by cases r1; exact ⟨i, rfl, k _ G1 H1 e1 (.int _)⟩)

/-- a comparison's value; a comparison as a test -/
theorem ev_cmp {op : CmpOp} {r : R2} (ho : OpR X (compareOp op) r) (hr : Op2 X.K L r da db d) (ha : EV X L ρ a da) (hb : EV X L ρ b db) (hm : behindInMarks op b = false) : EV X L ρ (.Compare a [op] [b] pos) d := .mk fun σ G0 H0 G H st Q k =>
  wE_of (pe_cmpR ho pe_w pe_w hm) (bin2 ha hb hr st k)
theorem tv_cmp {op : CmpOp} {r : R2} {t : Bool} (ho : OpR X (compareOp op) r) (hr : Op2 X.K L r da db (.bl t)) (ha : EV X L ρ a da) (hb : EV X L ρ b db) (hm : behindInMarks op b = false) : TV X L ρ (.Compare a [op] [b] pos) t := .mk fun σ G0 H0 G H st Q k =>
  wT_of (pt_cmpR ho pe_w pe_w hm) (bin2 ha hb hr st fun v G1 H1 e1 r1 => by cases r1; exact ⟨t, rfl, k G1 H1 e1⟩)
theorem tv_lt {i j : Int} (ha : EV X L ρ a (.int i)) (hb : EV X L ρ b (.int j)) : TV X L ρ (.Compare a [.Lt] [b] pos) (decide (i < j)) := tv_cmp op_lt op2B ha hb (nomark _)
theorem tv_le {i j : Int} (ha : EV X L ρ a (.int i)) (hb : EV X L ρ b (.int j)) : TV X L ρ (.Compare a [.LtE] [b] pos) (decide (i ≤ j)) := tv_cmp op_le op2B ha hb (nomark _)
theorem tv_gt {i j : Int} (ha : EV X L ρ a (.int i)) (hb : EV X L ρ b (.int j)) : TV X L ρ (.Compare a [.Gt] [b] pos) (decide (j < i)) := tv_cmp op_gt (op2B (f := fun i j => decide (j < i))) ha hb (nomark _)
theorem ev_lt {i j : Int} (ha : EV X L ρ a (.int i)) (hb : EV X L ρ b (.int j)) : EV X L ρ (.Compare a [.Lt] [b] pos) (.bl (decide (i < j))) := ev_cmp op_lt op2B ha hb (nomark _)
theorem ev_ge {i j : Int} (ha : EV X L ρ a (.int i)) (hb : EV X L ρ b (.int j)) : EV X L ρ (.Compare a [.GtE] [b] pos) (.bl (decide (j ≤ i))) := ev_cmp op_ge (op2B (f := fun i j => decide (j ≤ i))) ha hb (nomark _)

/-! ### tests -/
theorem tv_val {t : Bool} (h : EV X L ρ e (.bl t)) (he : ∀ whole, isTrue e X.env whole = (do let v ← whole; standAt e.pos; holding [v] (truthy v)) := by intro _; rfl) : TV X L ρ e t := .mk fun σ G0 H0 G H st Q k =>
  wT_of (pt_val pe_w he) (h.run σ G0 H0 G H st _ fun v G1 H1 e1 r1 => by cases r1; exact ⟨t, rfl, k G1 H1 e1⟩)
theorem tv_not {t : Bool} (h : TV X L ρ e t) : TV X L ρ (.UnaryOp .Not e pos) (!t) := .mk fun σ G0 H0 G H st Q k => wT_of (pt_not pt_w) (h.run σ G0 H0 G H st _ fun G1 H1 e1 => k G1 H1 e1)
end
end Z

namespace Z
open PySem PySem.Spec PyProof.Rows L2

section
variable (X : Cx) (L : Kl) (ρ : List Sl)
def wW (e : Expr) : TT := fun σ H Q => ∀ (whole : Sem Value) (pins : List (Addr × Obj)) (s : Shared), Inv X pins σ H s → wpAny (model X.prog X.w) X.A (isTrue e X.env whole) (TP X pins σ Q) X.xe s
structure WV (e : Expr) (b : Bool) : Prop where
  run : ∀ (σ : L2.St) (G0 H0 G H : Hp), StOk X.K L G0 H0 ρ σ G H → ∀ Q : Bool → Hp → Prop, (∀ G' H', Ext G H G' H' → Q b H') → wW X e σ H Q
end
section
variable {X : Cx} {L : Kl} {ρ : List Sl} {e a b c o : Expr} {es rs : List Expr} {d da db : D} {ds : List D} {pos p : Pos} {E : En} {rest : List Stmt} {t u : Bool}
theorem pw_w : PW X e (wW X e) := fun whole pins s σ H Q I h => h whole pins s I
theorem wW_of {σ : L2.St} {H : Hp} {t : TT} {Q : Bool → Hp → Prop} (h : PW X e t) (q : t σ H Q) : wW X e σ H Q := fun whole pins s I => h whole pins s σ H Q I q
theorem WV.tv (h : WV X L ρ e t) : TV X L ρ e t := .mk fun σ G0 H0 G H st Q k => wT_of (PW.pt pw_w) (h.run σ G0 H0 G H st Q k)
theorem wv_and1 (h : TV X L ρ a t) : WV X L ρ (.BoolOp .And [a] pos) t := .mk fun σ G0 H0 G H st Q k => wW_of (pw_and1 pt_w) (h.run σ G0 H0 G H st Q k)
theorem wv_or1 (h : TV X L ρ a t) : WV X L ρ (.BoolOp .Or [a] pos) t := .mk fun σ G0 H0 G H st Q k => wW_of (pw_or1 pt_w) (h.run σ G0 H0 G H st Q k)
theorem wv_and (ha : TV X L ρ a t) (hb : t = true → WV X L ρ (.BoolOp .And (b :: rs) pos) u) : WV X L ρ (.BoolOp .And (a :: b :: rs) pos) (t && u) := .mk fun σ G0 H0 G H st Q k =>
  wW_of (pw_and pt_w pw_w) (ha.run σ G0 H0 G H st _ fun G1 H1 e1 => by
    cases t with
    | true => exact iteT ((hb rfl).run σ G0 H0 G1 H1 (st.step e1) Q fun G2 H2 e2 => k G2 H2 (e1.trans e2))
    | false => exact iteF (k G1 H1 e1))
theorem wv_or (ha : TV X L ρ a t) (hb : t = false → WV X L ρ (.BoolOp .Or (b :: rs) pos) u) : WV X L ρ (.BoolOp .Or (a :: b :: rs) pos) (t || u) := .mk fun σ G0 H0 G H st Q k =>
  wW_of (pw_or pt_w pw_w) (ha.run σ G0 H0 G H st _ fun G1 H1 e1 => by
    cases t with
    | true => exact iteT (k G1 H1 e1)
    | false => exact iteF ((hb rfl).run σ G0 H0 G1 H1 (st.step e1) Q fun G2 H2 e2 => k G2 H2 (e1.trans e2)))
theorem ev_one {op} (h : EV X L ρ a d) : EV X L ρ (.BoolOp op [a] pos) d := .mk fun σ G0 H0 G H st Q k => wE_of (pe_one pe_w) (h.run σ G0 H0 G H st Q k)
theorem ev_and (ha : EV X L ρ a (.bl t)) (hb : t = true → EV X L ρ (.BoolOp .And (b :: rs) pos) (.bl u)) : EV X L ρ (.BoolOp .And (a :: b :: rs) pos) (.bl (t && u)) := .mk fun σ G0 H0 G H st Q k =>
  wE_of (pe_and pe_w pe_w) (ha.run σ G0 H0 G H st _ fun v G1 H1 e1 r1 => by
    cases r1
    refine ⟨t, rfl, ?_⟩
    cases t with
    | true => exact iteT ((hb rfl).run σ G0 H0 G1 H1 (st.step e1) Q fun v G2 H2 e2 r2 => k v G2 H2 (e1.trans e2) r2)
    | false => exact iteF (k _ G1 H1 e1 (.bl false)))
theorem ev_not (ha : EV X L ρ a (.bl t)) : EV X L ρ (.UnaryOp .Not a pos) (.bl (!t)) := .mk fun σ G0 H0 G H st Q k =>
  wE_of (pe_not pe_w) (ha.run σ G0 H0 G H st _ fun v G1 H1 e1 r1 => by
    cases r1
    exact ⟨t, rfl, k _ G1 H1 e1 (.bl _)⟩)
/-- a <= b < c -/
theorem ev_chain {op op' : CmpOp} {r r' : R2} {dc : D} (ho : OpR X (compareOp op) r) (ho' : OpR X (compareOp op') r') (hr : Op2 X.K L r da db (.bl t)) (hr' : t = true → Op2 X.K L r' db dc (.bl u)) (ha : EV X L ρ a da) (hb : EV X L ρ b db) (hc : t = true → EV X L ρ c dc)
    (hl : lastMarks [op, op'] [b, c] = false := by with_unfolding_all rfl) : EV X L ρ (.Compare a [op, op'] [b, c] pos) (.bl (t && u)) := .mk fun σ G0 H0 G H st Q k =>
  wE_of (pe_chain ho ho' pe_w pe_w pe_w hl) (ha.run σ G0 H0 G H st _ fun v G1 H1 e1 r1 => hb.run σ G0 H0 G1 H1 (st.step e1) _ fun w' G2 H2 e2 r2 => hr G2 H2 v w' e2.gh (r1.mono e2.gg) r2 _ fun z G3 H3 e3 r3 => by
    cases r3
    refine ⟨t, rfl, ?_⟩
    have e4 := (e1.trans e2).trans e3
    cases t with
    | true => exact iteT ((hc rfl).run σ G0 H0 G3 H3 (st.step e4) _ fun y G5 H5 e5 r5 => hr' rfl G5 H5 w' y e5.gh ((r2.mono e3.gg).mono e5.gg) r5 _ fun z G6 H6 e6 r6 => k z G6 H6 ((e4.trans e5).trans e6) r6)
    | false => exact iteF (k _ G3 H3 e4 (.bl false)))

/-! ### lists of arguments, displays -/
theorem evs_nil : EVs X L ρ [] [] := .mk fun σ G0 H0 G H st Q k => wA_of pa_nil (k [] G H (.refl st.same) .nil)
theorem evs_cons (h : EV X L ρ e d) (hs : EVs X L ρ es ds) (hst : starEach (e :: es) X.env = (false, eval e X.env) :: starEach es X.env := by rfl) : EVs X L ρ (e :: es) (d :: ds) := .mk fun σ G0 H0 G H st Q k =>
  wA_of (pa_cons pe_w pa_w hst) (h.run σ G0 H0 G H st _ fun v G1 H1 e1 r1 => hs.run σ G0 H0 G1 H1 (st.step e1) _ fun vs G2 H2 e2 r2 => k (v :: vs) G2 H2 (e1.trans e2) (.cons (r1.mono e2.gg) r2))
theorem ev_tup {x1} (h : EVs X L ρ es ds) (hl : ds.length ≤ 1000 := by simp) : EV X L ρ (.Tuple es x1 pos) (.tup ds) := .mk fun σ G0 H0 G H st Q k =>
  wE_of (pe_tup pa_w) (h.run σ G0 H0 G H st _ fun vs G1 H1 e1 r1 => ⟨by rw [r1.length]; exact Nat.le_of_lt (small1000 hl), fun p hp => k _ (upd G1 p (.tup vs)) _ (e1.trans (.alloc e1.gh hp _)) (.tup (SqT.of upd_same) (r1.mono (same_new (e1.gh.free hp) _)))⟩)
theorem ev_lst (h : EVs X L ρ es ds) (hl : ds.length ≤ 1000 := by simp) : EV X L ρ (.List es pos) (.lst ds) := .mk fun σ G0 H0 G H st Q k =>
  wE_of (pe_lst pa_w) (h.run σ G0 H0 G H st _ fun vs G1 H1 e1 r1 => ⟨by rw [r1.length]; exact Nat.le_of_lt (small1000 hl), fun p hp => k _ (upd G1 p (.lst vs)) _ (e1.trans (.alloc e1.gh hp _)) (.lst (SqL.of upd_same) (r1.mono (same_new (e1.gh.free hp) _)))⟩)

/-! ### items -/
/-- the items of a list or a tuple -/
def sq : D → Option (List D)
  | .tup ds => some ds
  | .lst ds => some ds
  | _ => none
theorem ix_both : IxR X (fun x y H Q => rIxL X.K x y H Q ∨ rIxT X.K x y H Q) := ix_list.or ix_tup
theorem atI_rel {K : PySem.W.Frag} {G : Hp} {vs : List V} {ds : List D} {i : Int} {d : D} (r : RpA K L G vs ds) (h : atI ds i = some d) : ∃ v, atI vs i = some v ∧ Rp K L G v d := by
  unfold atI at h ⊢
  rw [r.length]
  cases q : ixN ds.length i with
  | none => rw [q] at h; cases h
  | some j =>
    rw [q] at h
    obtain ⟨v, h1, h2⟩ := r.get h
    exact ⟨v, h1, h2⟩
theorem op2Ix {K : PySem.W.Frag} {i : Int} (hs : sq da = some ds) (h : atI ds i = some d) : Op2 K L (fun x y H Q => rIxL K x y H Q ∨ rIxT K x y H Q) da (.int i) d := fun G H v u s r1 r2 Q k => by
  cases r2
  cases r1 with
  | tup hq hr =>
    cases hs
    obtain ⟨x, h1, h2⟩ := atI_rel hr h
    exact .inr ⟨_, _, i, x, rfl, rfl, seqT s hq, h1, k _ G H (.refl s) h2⟩
  | lst hq hr =>
    cases hs
    obtain ⟨x, h1, h2⟩ := atI_rel hr h
    exact .inl ⟨_, _, i, x, rfl, rfl, Same.seq s hq, h1, k _ G H (.refl s) h2⟩
  | _ => cases hs
theorem ev_ix {i : Int} (ha : EV X L ρ a da) (hb : EV X L ρ b (.int i)) (hs : sq da = some ds) (h : atI ds i = some d) (hx : PlainIx b := by intro _ _; rfl) : EV X L ρ (.Subscript a b pos) d := .mk fun σ G0 H0 G H st Q k =>
  wE_of (pe_ix ix_both pe_w pe_w hx) (bin2 ha hb (op2Ix hs h) st k)
/-- t[0], t[1], .. of a tuple that is written out -/
theorem ev_t0 {xs : List D} (ha : EV X L ρ a (.tup (d :: xs))) (hb : EV X L ρ b (.int 0)) (hx : PlainIx b := by intro _ _; rfl) : EV X L ρ (.Subscript a b pos) d := ev_ix ha hb rfl (atI_nat (j := 0) rfl) hx
theorem ev_t1 {d0 : D} {xs : List D} (ha : EV X L ρ a (.tup (d0 :: d :: xs))) (hb : EV X L ρ b (.int 1)) (hx : PlainIx b := by intro _ _; rfl) : EV X L ρ (.Subscript a b pos) d := ev_ix ha hb rfl (atI_nat (j := 1) rfl) hx
theorem ev_t2 {d0 d1 : D} {xs : List D} (ha : EV X L ρ a (.tup (d0 :: d1 :: d :: xs))) (hb : EV X L ρ b (.int 2)) (hx : PlainIx b := by intro _ _; rfl) : EV X L ρ (.Subscript a b pos) d := ev_ix ha hb rfl (atI_nat (j := 2) rfl) hx
/-- xs[lo:hi] of a list -/
def PV (X : Cx) (L : Kl) (ρ : List Sl) (e : Option Expr) (o : Option Int) : Prop := ∃ t, PO X e t ∧ ∀ (σ : L2.St) (G0 H0 G H : Hp), StOk X.K L G0 H0 ρ σ G H → ∀ Q : Option Int → Hp → Prop, (∀ G' H', Ext G H G' H' → Q o H') → t σ H Q
theorem pv_none : PV X L ρ none none := ⟨_, po_none, fun σ G0 H0 G H st Q k => k G H (.refl st.same)⟩
theorem pv_some {i : Int} (h : EV X L ρ e (.int i)) : PV X L ρ (some e) (some i) := ⟨_, po_some pe_w, fun σ G0 H0 G H st Q k => h.run σ G0 H0 G H st _ fun v G1 H1 e1 r1 => by cases r1; exact ⟨i, rfl, k G1 H1 e1⟩⟩
def cutD (xs : List D) (lo hi : Option Int) : List D := (xs.drop (HT.sIx xs.length 0 lo)).take (HT.sIx xs.length xs.length hi - HT.sIx xs.length 0 lo)
theorem cut_rel {K : PySem.W.Frag} {G : Hp} {vs : List V} {ds : List D} (r : RpA K L G vs ds) (lo hi : Option Int) : RpA K L G (cutV vs lo hi) (cutD ds lo hi) := by
  unfold cutV cutD
  rw [r.length]
  exact (r.drop _).take _
theorem ev_slice {lo hi : Option Expr} {l h : Option Int} {p2 : Pos} (ha : EV X L ρ a (.lst ds)) (hl : PV X L ρ lo l) (hh : PV X L ρ hi h) : EV X L ρ (.Subscript a (.Slice lo hi none p2) pos) (.lst (cutD ds l h)) := .mk fun σ G0 H0 G H st Q k => by
  obtain ⟨tl, pl, ql⟩ := hl
  obtain ⟨th, ph, qh⟩ := hh
  refine wE_of (pe_slice sl_list pe_w pl ph) (ha.run σ G0 H0 G H st _ fun v G1 H1 e1 r1 => ql σ G0 H0 G1 H1 (st.step e1) _ fun G2 H2 e2 => qh σ G0 H0 G2 H2 ((st.step e1).step e2) _ fun G3 H3 e3 => ?_)
  cases r1 with
  | lst hq hr =>
    have s13 : Same G1 G3 := e2.gg.trans e3.gg
    refine ⟨_, _, rfl, Same.seq e3.gh (Same.seq s13 hq), fun p hp => k _ (upd G3 p _) _ (((e1.trans e2).trans e3).trans (.alloc e3.gh hp _)) (.lst (SqL.of upd_same) ?_)⟩
    exact (cut_rel (hr.mono s13) l h).mono (same_new (e3.gh.free hp) _)

/-! ### calls of built-ins -/
/-- what a built-in makes of data -/
def CallD (K : PySem.W.Frag) (L : Kl) (r : List V → Hp → VK → Prop) (ds : List D) (d : D) : Prop := ∀ (G H : Hp) (vs : List V), Same G H → RpA K L G vs ds → ∀ Q : VK, (∀ z G' H', Ext G H G' H' → Rp K L G' z d → Q z H') → r vs H Q
theorem ev_callB {id : String} {x : Str} {r : List V → Hp → VK → Prop} (hc : CallR X (.builtin id) r) (hr : CallD X.K L r ds d) (hm : X.mg x = none) (hv : bootBuiltins x = some (.builtin id)) (ha : EVs X L ρ (e :: es) ds) (hg : Gl X x := by rfl) (hn : x ≠ "__name__" := by decide)
    (hdb : (x == ("__debug__" : Str)) = false := by decide) (he : starEach (e :: es) X.env = (false, eval e X.env) :: starEach es X.env := by rfl) (hpl : (backTo pos (starEach es X.env)).any (·.1) = false := by rfl) : EV X L ρ (.Call (.Name x p) (e :: es) [] pos) d := .mk fun σ G0 H0 G H st Q k =>
  wE_of (pe_callB hc hg hm hv pa_w hn hdb he hpl) (ha.run σ G0 H0 G H st _ fun vs G1 H1 e1 r1 => hr G1 H1 vs e1.gh r1 Q fun z G2 H2 e2 r2 => k z G2 H2 (e1.trans e2) r2)
theorem ev_callTy {T : String} {x : Str} {r : List V → Hp → VK → Prop} (hc : CallR X (.type T) r) (hr : CallD X.K L r ds d) (hm : X.mg x = none) (hv : bootBuiltins x = some (.type T)) (ha : EVs X L ρ (e :: es) ds) (hg : Gl X x := by rfl) (hn : x ≠ "__name__" := by decide)
    (hdb : (x == ("__debug__" : Str)) = false := by decide) (he : starEach (e :: es) X.env = (false, eval e X.env) :: starEach es X.env := by rfl) (hpl : (backTo pos (starEach es X.env)).any (·.1) = false := by rfl) : EV X L ρ (.Call (.Name x p) (e :: es) [] pos) d := .mk fun σ G0 H0 G H st Q k =>
  wE_of (pe_callTy hc hg hm hv pa_w hn hdb he hpl) (ha.run σ G0 H0 G H st _ fun vs G1 H1 e1 r1 => hr G1 H1 vs e1.gh r1 Q fun z G2 H2 e2 r2 => k z G2 H2 (e1.trans e2) r2)
theorem RpA.one {K : PySem.W.Frag} {G : Hp} {vs : List V} (r : RpA K L G vs [d]) : ∃ v, vs = [v] ∧ Rp K L G v d := by
  cases r with
  | cons h t => cases t; exact ⟨_, rfl, h⟩
theorem RpA.two {K : PySem.W.Frag} {G : Hp} {vs : List V} (r : RpA K L G vs [da, db]) : ∃ v u, vs = [v, u] ∧ Rp K L G v da ∧ Rp K L G u db := by
  cases r with
  | cons h t =>
    obtain ⟨u, rfl, h2⟩ := RpA.one t
    exact ⟨_, u, rfl, h, h2⟩
theorem ev_abs {i : Int} {x : Str} (ha : EV X L ρ a (.int i)) (hm : X.mg x = none) (hx : x = "abs" := by rfl) (hg : Gl X x := by rfl) (he : starEach [a] X.env = (false, eval a X.env) :: starEach [] X.env := by rfl) : EV X L ρ (.Call (.Name x p) [a] [] pos) (.int (if i < 0 then -i else i)) := by
  subst hx
  exact ev_callB call_abs (fun G H vs s r Q k => by obtain ⟨v, rfl, h⟩ := r.one; cases h; exact ⟨i, rfl, k _ G H (.refl s) (.int _)⟩) hm (by decide +kernel) (evs_cons ha evs_nil he) hg (he := he)
theorem ev_len {x : Str} (ha : EV X L ρ a da) (hs : sq da = some ds) (hm : X.mg x = none) (hx : x = "len" := by rfl) (hg : Gl X x := by rfl) (he : starEach [a] X.env = (false, eval a X.env) :: starEach [] X.env := by rfl) : EV X L ρ (.Call (.Name x p) [a] [] pos) (.int ds.length) := by
  subst hx
  refine ev_callB call_len_seq (fun G H vs s r Q k => ?_) hm PySem.boot_len (evs_cons ha evs_nil he) hg (he := he)
  obtain ⟨v, rfl, h⟩ := r.one
  cases h with
  | tup hq hr => cases hs; rw [← hr.length] at k; exact ⟨_, _, rfl, .inr (seqT s hq), k _ G H (.refl s) (.int _)⟩
  | lst hq hr => cases hs; rw [← hr.length] at k; exact ⟨_, _, rfl, .inl (Same.seq s hq), k _ G H (.refl s) (.int _)⟩
  | _ => cases hs
theorem ev_list {x : Str} (ha : EV X L ρ a da) (hs : sq da = some ds) (hm : X.mg x = none) (hx : x = "list" := by rfl) (hg : Gl X x := by rfl) (he : starEach [a] X.env = (false, eval a X.env) :: starEach [] X.env := by rfl) : EV X L ρ (.Call (.Name x p) [a] [] pos) (.lst ds) := by
  subst hx
  refine ev_callTy call_list_of (fun G H vs s r Q k => ?_) hm (by decide +kernel) (evs_cons ha evs_nil he) hg (he := he)
  obtain ⟨v, rfl, h⟩ := r.one
  have fin : ∀ {ws : List V}, RpA X.K L G ws ds → ∀ l, H l = none → Q (.ref l) (upd H l (.lst ws)) := fun {ws} hr l hl => k _ (upd G l (.lst ws)) _ (.alloc s hl _) (.lst (SqL.of upd_same) (hr.mono (same_new (s.free hl) _)))
  cases h with
  | tup hq hr => cases hs; exact ⟨_, _, rfl, .inr (seqT s hq), fin hr⟩
  | lst hq hr => cases hs; exact ⟨_, _, rfl, .inl (Same.seq s hq), fin hr⟩
  | _ => cases hs
end
end Z

namespace Z
open PySem PySem.Spec PyProof.Rows L2

section
variable {X : Cx} {L : Kl} {ρ : List Sl} {e a b c o tg : Expr} {es rs : List Expr} {d da db : D} {ds : List D} {pos p pos' : Pos} {E : En} {rest body els : List Stmt} {t u : Bool} {st : Stmt}
theorem ends_le {K : PySem.W.Frag} {G0 H0 : Hp} {E E' : En} (nx : ∀ ρ, E.nx ρ → E'.nx ρ) (rt : ∀ d, E.rt d → E'.rt d) (bk : ∀ ρ, E.bk ρ → E'.bk ρ) (ct : ∀ ρ, E.ct ρ → E'.ct ρ) (rl : ∀ ds, E.rl ds → E'.rl ds) : EndsLe (ends K L G0 H0 E) (ends K L G0 H0 E') :=
  ⟨fun _ _ ⟨ρ, G, s, h⟩ => ⟨ρ, G, s, nx ρ h⟩, fun _ _ h => h.elim (fun ⟨d, G, x, r, h⟩ => .inl ⟨d, G, x, r, rt d h⟩) (fun ⟨p, vs, ds, G, a1, a2, a3, a4, a5, a6, h⟩ => .inr ⟨p, vs, ds, G, a1, a2, a3, a4, a5, a6, rl ds h⟩), fun _ _ ⟨ρ, G, s, h⟩ => ⟨ρ, G, s, bk ρ h⟩, fun _ _ ⟨ρ, G, s, h⟩ => ⟨ρ, G, s, ct ρ h⟩⟩
theorem SV.imp {E E' : En} (h : SV X L ρ rest E) (nx : ∀ ρ, E.nx ρ → E'.nx ρ) (rt : ∀ d, E.rt d → E'.rt d) (bk : ∀ ρ, E.bk ρ → E'.bk ρ) (ct : ∀ ρ, E.ct ρ → E'.ct ρ) (rl : ∀ ds, E.rl ds → E'.rl ds := by exact fun _ h => h) : SV X L ρ rest E' := .mk fun σ G0 H0 G H st => wSs_mono (ends_le nx rt bk ct rl) (h.run σ G0 H0 G H st)
theorem sv_nil (h : E.nx ρ) : SV X L ρ [] E := .mk fun σ G0 H0 G H st => wSs_nil ⟨ρ, G, st, h⟩
theorem sv_ret (he : EV X L ρ e d) (h : E.rt d) : SV X L ρ (.Return (some e) pos :: rest) E := .mk fun σ G0 H0 G H st => by
  refine wSs_cons (wS_of (ps_ret pe_w) (he.run σ G0 H0 G H st _ fun v G1 H1 e1 r1 => ?_))
  exact .inl ⟨d, G1, st.ext.trans e1, r1, h⟩
theorem sv_expr (he : EV X L ρ e d) (h : SV X L ρ rest E) (hs : swapsWith e none pos.line X.env = pure false := by rfl) : SV X L ρ (.Expr e pos :: rest) E := .mk fun σ G0 H0 G H st =>
  wSs_cons (wS_of (ps_expr pe_w hs) (he.run σ G0 H0 G H st _ fun v G1 H1 e1 r1 => h.run σ G0 H0 G1 H1 (st.step e1)))
theorem sv_set (i : Nat) {x : Str} (he : EV X L ρ e d) (h : SV X L (ρ.set i (.v d)) rest E) (hN : X.N.Nodup := by first | assumption | decide +kernel) (hi : X.N[i]? = some x := by rfl) (hx : Loc X.env.scope x := by first | exact Or.inl rfl | exact Or.inr rfl)
    (hs : swapsWith e (some (.Name x pos')) pos.line X.env = pure false := by rfl) (hf : X.fn x = true ∨ X.env.scope.names.lookup x = some .local := by first | exact .inl rfl | exact .inr rfl) : SV X L ρ (.Assign [.Name x pos'] e pos :: rest) E := .mk fun σ G0 H0 G H st =>
  wSs_cons (wS_of (ps_set (i := i) hN hi hx pe_w hs hf) (he.run σ G0 H0 G H st _ fun v G1 H1 e1 r1 => h.run _ G0 H0 G1 H1 ((st.step e1).set r1)))
/-- x = [..]: a list that is to grow -/
theorem sv_new (i : Nat) {x : Str} (he : EVs X L ρ es ds) (hl : ds.length ≤ sizeLine) (h : SV X L (ρ.set i (.own ds)) rest E) (hN : X.N.Nodup := by first | assumption | decide +kernel) (hi : X.N[i]? = some x := by rfl) (hx : Loc X.env.scope x := by first | exact Or.inl rfl | exact Or.inr rfl)
    (hs : swapsWith (.List es p) (some (.Name x pos')) pos.line X.env = pure false := by rfl) (hf : X.fn x = true ∨ X.env.scope.names.lookup x = some .local := by first | exact .inl rfl | exact .inr rfl) : SV X L ρ (.Assign [.Name x pos'] (.List es p) pos :: rest) E := .mk fun σ G0 H0 G H st =>
  wSs_cons (wS_of (ps_set (i := i) hN hi hx (pe_lst pa_w) hs hf) (he.run σ G0 H0 G H st _ fun vs G1 H1 e1 r1 => ⟨by rw [r1.length]; exact hl, fun q hq => h.run _ G0 H0 G1 _ ((st.step e1).newOwn hq r1)⟩))
/-- x.append(e), x a list of the def's own -/
theorem sv_append (i : Nat) {x : Str} {apos cpos px : Pos} (hi : ρ[i]? = some (.own ds)) (he : EV X L ρ e d) (hl : ds.length < sizeLine) (h : SV X L (ρ.set i (.own (ds ++ [d]))) rest E) (hN : X.N[i]? = some x := by rfl)
    (hv : Vis X.env.scope x := by first | exact Or.inl rfl | exact Or.inr (Or.inl rfl) | exact Or.inr (Or.inr rfl)) (hd : (x == ("__debug__" : Str)) = false := by decide) (hcd : (x == ("__classdict__" : Str)) = false := by decide)
    (hbase : attributeBase (.Name x px) "append" X.env (eval (.Name x px) X.env) = eval (.Name x px) X.env := by rfl)
    (hfew : ((backTo cpos (starEach [e] X.env)).all (fun x => !x.1) && (backToKw cpos (keywordEach [] X.env)).all (fun x => x.1.isSome)
      && decide (([e] : List Expr).length + ([] : List Keyword).length + (if ([] : List Keyword).isEmpty then 0 else 1) < 30)) = true := by rfl)
    (hline : (apos.endLine == cpos.line) = true := by rfl) (hst : starEach [e] X.env = [(false, eval e X.env)] := by rfl) (hpl : (backTo cpos (starEach [] X.env)).any (·.1) = false := by rfl)
    (hsw : swapsWith (.Call (.Attribute (.Name x px) "append" apos) [e] [] cpos) none pos.line X.env = pure false := by rfl) :
    SV X L ρ (.Expr (.Call (.Attribute (.Name x px) "append" apos) [e] [] cpos) pos :: rest) E := .mk fun σ G0 H0 G H st => by
  obtain ⟨q, vs, h1, h2, h3, h4, h5⟩ := st.sl i _ hi
  have hσ := join_some h1
  refine wSs_cons (wS_of (ps_expr (pe_bm PySem.F.plainAttrs_list PySem.F.slot_list_append PySem.F.type_list_append mt_append (pe_var hN hv hd hcd) (pa_cons pe_w pa_nil hst) hbase hfew hline hst hpl) hsw) ?_)
  refine ⟨_, hσ, .inl ⟨rfl, _, SqL.of h2⟩, he.run σ G0 H0 G H st _ fun v G1 H1 e1 r1 => ?_⟩
  have st1 := st.step e1
  obtain ⟨q', vs', k1, k2, k3, k4, k5⟩ := st1.sl i _ hi
  have hσ' := join_some k1
  rw [hσ] at hσ'
  cases hσ'
  refine ⟨q, vs', v, rfl, rfl, k2, by rw [k5.length]; exact hl, ?_⟩
  exact h.run σ G0 H0 G1 _ (st1.updO (r' := .own (ds ++ [d])) hi trivial trivial hσ fun n1 n2 => ⟨q, _, rfl, upd_same, n1, n2, k5.append (.cons r1 .nil)⟩)
/-- the own list is a datum from here on -/
theorem sv_freeze (i : Nat) (hi : ρ[i]? = some (.own ds)) (h : SV X L (ρ.set i (.v (.lst ds))) rest E) : SV X L ρ rest E := .mk fun σ G0 H0 G H st => by
  obtain ⟨p, vs, _, _, _, _, st1⟩ := st.freeze hi
  exact h.run σ G0 H0 _ H st1
theorem sv_if (hc : TV X L ρ c t) (h1 : t = true → SV X L ρ body { E with nx := fun ρ' => SV X L ρ' rest E }) (h2 : t = false → SV X L ρ els { E with nx := fun ρ' => SV X L ρ' rest E }) : SV X L ρ (.If c body els pos :: rest) E := .mk fun σ G0 H0 G H st => by
  have le : EndsLe (ends X.K L G0 H0 { E with nx := fun ρ' => SV X L ρ' rest E }) { ends X.K L G0 H0 E with nx := fun σ' H' => wSs X rest (ends X.K L G0 H0 E) σ' H' } :=
    ⟨fun σ' H' ⟨ρ', G', s', h'⟩ => h'.run σ' G0 H0 G' H' s', fun _ _ q => q, fun _ _ q => q, fun _ _ q => q⟩
  refine wSs_cons (wS_of (ps_if pt_w pss_w pss_w) (hc.run σ G0 H0 G H st _ fun G1 H1 e1 => ?_))
  cases t with
  | true => exact iteT (wSs_mono le ((h1 rfl).run σ G0 H0 G1 H1 (st.step e1)))
  | false => exact iteF (wSs_mono le ((h2 rfl).run σ G0 H0 G1 H1 (st.step e1)))
/-! ### loops -/
/-- the targets of a for: what they make of the turn's datum -/
def GV (X : Cx) (L : Kl) (tg : Expr) (f : D → List Sl → List Sl) (ok : D → Prop) : Prop := ∃ g : TG, PG X tg g ∧ ∀ (d : D) (ρ : List Sl) (σ : L2.St) (G0 H0 G H : Hp) (v : V), ok d → StOk X.K L G0 H0 ρ σ G H → Rp X.K L G v d → ∀ Q : L2.St → Hp → Prop,
  (∀ σ', StOk X.K L G0 H0 (f d ρ) σ' G H → Q σ' H) → g v σ H Q
theorem gv_name (i : Nat) {x : Str} (hN : X.N.Nodup := by first | assumption | decide +kernel) (hi : X.N[i]? = some x := by rfl) (hx : Loc X.env.scope x := by first | exact Or.inl rfl | exact Or.inr rfl) (hf : X.fn x = true ∨ X.env.scope.names.lookup x = some .local := by first | exact .inl rfl | exact .inr rfl) :
    GV X L (.Name x pos) (fun d ρ => ρ.set i (.v d)) (fun _ => True) := ⟨_, pg_name hN hi hx hf, fun d ρ σ G0 H0 G H v _ st r Q k => k _ (st.set r)⟩
/-- (x, y) = a pair -/
theorem gv_pair (i j : Nat) {x y : Str} {px py pt : Pos} {k : Nat} (hc : X.calm = true := by rfl) (hN : X.N.Nodup := by first | assumption | decide +kernel) (hi : X.N[i]? = some x := by rfl) (hx : Loc X.env.scope x := by first | exact Or.inl rfl | exact Or.inr rfl) (hj : X.N[j]? = some y := by rfl) (hy : Loc X.env.scope y := by first | exact Or.inl rfl | exact Or.inr rfl)
    (hf : X.fn x = true ∨ X.env.scope.names.lookup x = some .local := by first | exact .inl rfl | exact .inr rfl) (hf' : X.fn y = true ∨ X.env.scope.names.lookup y = some .local := by first | exact .inl rfl | exact .inr rfl)
    (hs1 : (assignEach [.Name x px, .Name y py] X.env).map (·.2) = assign (.Name x px) X.env :: (assignEach [.Name y py] X.env).map (·.2) := by rfl) (hs2 : (assignEach [.Name y py] X.env).map (·.2) = assign (.Name y py) X.env :: (assignEach [] X.env).map (·.2) := by rfl)
    (hn : (assignEach [.Name x px, .Name y py] X.env).length = 2 := by rfl) (hst : (assignEach [.Name x px, .Name y py] X.env).findIdx? (·.1) = none := by rfl) :
    GV X L (.Tuple [.Name x px, .Name y py] k pt) (fun d ρ => match d with | .tup [d1, d2] => (ρ.set i (.v d1)).set j (.v d2) | _ => ρ) (fun d => ∃ d1 d2, d = .tup [d1, d2]) :=
  ⟨_, pg_tup hc (pgs_cons (pg_name hN hi hx hf) (pgs_cons (pg_name hN hj hy hf') pgs_nil hs2) hs1) hn hst, fun d ρ σ G0 H0 G H v ok st r Q kk => by
    obtain ⟨d1, d2, rfl⟩ := ok
    cases r with
    | tup hq hr =>
      obtain ⟨v1, v2, rfl, r1, r2⟩ := RpA.two hr
      exact ⟨_, _, rfl, seqT st.same hq, rfl, v1, [v2], rfl, v2, [], rfl, rfl, kk _ ((st.set r1).set r2)⟩⟩

theorem sv_for_seq {f : D → List Sl → List Sl} {ok : D → Prop} {iter : Expr} (Iv : Nat → List Sl → Prop) (hit : EV X L ρ iter (.lst ds)) (hg : GV X L tg f ok) (hok : ∀ d ∈ ds, ok d) (h0 : Iv 0 ρ)
    (hs : ∀ (i : Nat) (d : D) (ρ' : List Sl), ds[i]? = some d → Iv i ρ' → SV X L (f d ρ') body { nx := Iv (i + 1), ct := Iv (i + 1), bk := fun ρ'' => SV X L ρ'' rest E, rt := E.rt, rl := E.rl })
    (hd : ∀ ρ', Iv ds.length ρ' → SV X L ρ' rest E) (hp : PassesOwn (model X.prog X.w) X.A X.env X.xe := by exact PassesOwn.never) (hc : X.calm = true := by rfl) (hfs : ∀ x, foldedSetIterable iter X.env x = pure x := by intro _; rfl) :
    SV X L ρ (.For tg iter body [] pos :: rest) E := .mk fun σ G0 H0 G H st => by
  obtain ⟨g, pg, qg⟩ := hg
  refine wSs_cons (wS_of (ps_for hp hc (pi_list pe_w) pg pss_w hfs) (hit.run σ G0 H0 G H st _ fun v G1 H1 e1 r1 => ?_))
  have st1 := st.step e1
  cases r1 with
  | @lst q vs _ hq hr =>
    refine ⟨q, rfl, ⟨vs, Same.seq e1.gh hq⟩, for_list (K := X.K) (a := q) (xs := vs) (fun i σ' H' => ∃ ρ' G', StOk X.K L G1 H0 ρ' σ' G' H' ∧ Iv i ρ') ⟨ρ, G1, st1.rebase, h0⟩ (fun i σ' H' _ ⟨ρ', G', s', _⟩ => Same.seq (s'.ext.gg.trans s'.ext.gh) hq) ?_ ?_⟩
    · rintro i x σ' H' hx ⟨ρ', G', s', iv⟩
      obtain ⟨d, hd1, hd2⟩ := hr.get' hx
      refine qg d ρ' σ' G1 H0 G' H' x (hok d (List.mem_of_getElem? hd1)) s' (hd2.mono s'.ext.gg) _ fun σ2 s2 => ?_
      have hh := (hs i d ρ' hd1 iv).run σ2 G1 H0 G' H' s2
      refine wSs_mono ?_ hh
      refine ⟨fun _ _ q => q, ?_, ?_, fun _ _ q => q⟩
      · rintro v' H'' q
        exact retPre st1.ext q
      · rintro σ3 H3 ⟨ρ3, G3, s3, q3⟩
        exact q3.run σ3 G0 H0 G3 H3 (s3.unbase st1.ext)
    · rintro σ' H' ⟨ρ', G', s', iv⟩
      rw [hr.length] at iv
      exact (hd ρ' iv).run σ' G0 H0 G' H' (s'.unbase st1.ext)
/-- for x in range(n) -/
theorem sv_for_range {f : D → List Sl → List Sl} {ok : D → Prop} {x : Str} {n : Int} {p2 : Pos} (Iv : Nat → List Sl → Prop) (ha : EV X L ρ a (.int n)) (hn : -(2 ^ 62) ≤ n ∧ n < 2 ^ 62) (hm : X.mg x = none) (hx : x = "range") (hg : GV X L tg f ok) (hok : ∀ i : Int, ok (.int i)) (h0 : Iv 0 ρ)
    (hs : ∀ (i : Nat) (ρ' : List Sl), i < n.toNat → Iv i ρ' → SV X L (f (.int i) ρ') body { nx := Iv (i + 1), ct := Iv (i + 1), bk := fun ρ'' => SV X L ρ'' rest E, rt := E.rt, rl := E.rl })
    (hd : ∀ ρ', Iv n.toNat ρ' → SV X L ρ' rest E) (hgl : Gl X "range" := by rfl) (hst : starEach [a] X.env = [(false, eval a X.env)] := by rfl) (hp : PassesOwn (model X.prog X.w) X.A X.env X.xe := by exact PassesOwn.never) (hc : X.calm = true := by rfl)
    (hfs : ∀ x, foldedSetIterable (.Call (.Name "range" p) [a] [] p2) X.env x = pure x := by intro _; rfl) : SV X L ρ (.For tg (.Call (.Name x p) [a] [] p2) body [] pos :: rest) E := .mk fun σ G0 H0 G H st => by
  subst hx
  obtain ⟨g, pg, qg⟩ := hg
  refine wSs_cons (wS_of (ps_for hp hc (pi_range1 hgl hm (pa_cons pe_w pa_nil hst) hst) pg pss_w hfs) (ha.run σ G0 H0 G H st _ fun v G1 H1 e1 r1 => ?_))
  have st1 := st.step e1
  cases r1
  refine ⟨n, rfl, hn.1, hn.2, for_range (lo := 0) (n := n.toNat) (fun i σ' H' => ∃ ρ' G', StOk X.K L G1 H0 ρ' σ' G' H' ∧ Iv i ρ') ⟨ρ, G1, st1.rebase, h0⟩ ?_ ?_⟩
  · rintro i σ' H' hi ⟨ρ', G', s', iv⟩
    refine qg (.int i) ρ' σ' G1 H0 G' H' _ (hok _) s' (by rw [Int.zero_add]; exact .int _) _ fun σ2 s2 => ?_
    have hh := (hs i ρ' hi iv).run σ2 G1 H0 G' H' s2
    refine wSs_mono ?_ hh
    refine ⟨fun _ _ q => q, ?_, ?_, fun _ _ q => q⟩
    · rintro v' H'' q
      exact retPre st1.ext q
    · rintro σ3 H3 ⟨ρ3, G3, s3, q3⟩
      exact q3.run σ3 G0 H0 G3 H3 (s3.unbase st1.ext)
  · rintro σ' H' ⟨ρ', G', s', iv⟩
    exact (hd ρ' iv).run σ' G0 H0 G' H' (s'.unbase st1.ext)
end

/-! ### defs -/
/-- a def that makes of data a datum, and does nothing else -/
def spC (K : PySem.W.Frag) (L : Kl) (C : List D → D → Prop) : Sp := fun vs H Q _ => ∃ G ds r, Same G H ∧ RpA K L G vs ds ∧ C ds r ∧ ∀ v G' H', Ext G H G' H' → Rp K L G' v r → Q v H'
def rho0 (N : List Str) (ds : List D) : List Sl := ds.map Sl.v ++ List.replicate (N.length - ds.length) Sl.no
section
variable {P : Program} {w : World} {K : PySem.W.Frag} {mg : Str → Option Value} {base : Heap} {L : Kl}
theorem st0 {N : List Str} {vs : List V} {ds : List D} {G H : Hp} (s : Same G H) (r : RpA K L G vs ds) : StOk K L G H (rho0 N ds) (start N vs) G H where
  ext := .refl s
  sl := fun i x hx => by
    unfold rho0 at hx
    unfold L2.start
    by_cases h : i < ds.length
    · rw [List.getElem?_append_left (by rw [List.length_map]; exact h), List.getElem?_map] at hx
      rw [List.getElem?_append_left (by rw [List.length_map, r.length]; exact h), List.getElem?_map]
      cases q : ds[i]? with
      | none => rw [q] at hx; cases hx
      | some d =>
        rw [q] at hx
        cases hx
        obtain ⟨v, h1, h2⟩ := r.get q
        rw [h1]
        exact ⟨v, rfl, h2⟩
    · rw [List.getElem?_append_right (by rw [List.length_map]; omega), List.getElem?_replicate] at hx
      split at hx
      · cases hx; trivial
      · cases hx
  len := by
    unfold rho0 L2.start
    rw [List.length_append, List.length_append, List.length_map, List.length_map, List.length_replicate, List.length_replicate, r.length]
  dist := fun i j p r1 r2 h1 h2 o1 => by
    unfold rho0 at h1
    have hm := List.mem_of_getElem? h1
    rcases List.mem_append.mp hm with h | h
    · obtain ⟨d, _, e⟩ := List.mem_map.mp h
      rw [← e] at o1
      exact o1.elim
    · rw [(List.mem_replicate.mp h).2] at o1
      exact o1.elim
/-- the def of that name, with what it makes of data (defaults filled up) -/
structure Fn (P : Program) (w : World) (K : PySem.W.Frag) (mg : Str → Option Value) (base : Heap) (L : Kl) (x : Str) (k : Nat) (C : List D → D → Prop) : Prop where
  ex : ∃ (f : Addr) (fd : FuncData) (ps : List Str) (C0 : List D → D → Prop) (dvs : List V) (us : List Value) (dds : List D), FnOk P w K mg base CX0 k f fd ps (spC K L C0) ∧ mg x = some (.ref f) ∧ PySem.W.keepIn K (.ref f) = true ∧ Binds K fd ps us ∧ Vals dvs us ∧
    (∀ G, RpA K L G dvs dds) ∧ ∀ ds r, C ds r → C0 (ds ++ dds) r
theorem Fn.mk0 {x : Str} {k : Nat} {C : List D → D → Prop} {f : Addr} {fd : FuncData} {ps : List Str} (F : FnOk P w K mg base CX0 k f fd ps (spC K L C)) (hm : mg x = some (.ref f)) (hk : PySem.W.keepIn K (.ref f) = true) (hb : Binds K fd ps []) : Fn P w K mg base L x k C :=
  ⟨f, fd, ps, C, [], [], [], F, hm, hk, hb, .nil, fun _ => .nil, fun ds r h => by rw [List.append_nil]; exact h⟩
end
section
variable {X : Cx} {L : Kl} {ρ : List Sl} {e : Expr} {es : List Expr} {d : D} {ds : List D} {pos p : Pos}
theorem ev_call {x : Str} {k : Nat} {C : List D → D → Prop} (F : Fn X.prog X.w X.K X.mg X.base L x k C) (hr : Room k X.A) (ha : EVs X L ρ (e :: es) ds) (hc : C ds d) (hg : Gl X x := by rfl) (hdb : (x == ("__debug__" : Str)) = false := by decide)
    (he : starEach (e :: es) X.env = (false, eval e X.env) :: starEach es X.env := by rfl) (hpl : (backTo pos (starEach es X.env)).any (·.1) = false := by rfl) : EV X L ρ (.Call (.Name x p) (e :: es) [] pos) d := .mk fun σ G0 H0 G H st Q k => by
  obtain ⟨f, fd, ps, C0, dvs, us, dds, F1, hm, hk, hb, hv, hdd, hC⟩ := F.ex
  refine wE_of (pe_call F1 hr hg hm hk hb hv pass0 pa_w hdb he hpl) (ha.run σ G0 H0 G H st _ fun vs G1 H1 e1 r1 => ?_)
  exact ⟨G1, ds ++ dds, d, e1.gh, r1.append (hdd G1), hC ds d hc, fun v G2 H2 e2 r2 => k v G2 H2 (e1.trans e2) r2⟩
end
end Z

namespace Z
open PySem PySem.Spec PyProof.Rows L2

/-! ### data of the library; == -/
mutual
def pd : D → PyData
  | .non => .none
  | .bl b => .bool b
  | .int i => .int i
  | .str x => .str x
  | .tup xs => .tuple (pdA xs)
  | .lst xs => .list (pdA xs)
  | .ty _ => .none
  | .cls _ => .none
  | .obj _ _ => .none
  | .dct _ => .none
  | .exc _ _ => .none
def pdA : List D → List PyData
  | [] => []
  | x :: xs => pd x :: pdA xs
end
mutual
def okd : D → Bool
  | .non => true
  | .bl _ => true
  | .int _ => true
  | .str _ => true
  | .tup xs => okA xs
  | .lst xs => okA xs
  | .ty _ => false
  | .cls _ => false
  | .obj _ _ => false
  | .dct _ => false
  | .exc _ _ => false
def okA : List D → Bool
  | [] => true
  | x :: xs => okd x && okA xs
end
def eqD (a b : D) : Bool := PyData.eqv (pd a) (pd b)
def okq (d : D) : Bool := okd d && SeqAt.shaped (pd d)

section
variable {X : Cx} {L : Kl} {pins : List (Addr × Obj)} {σ : L2.St} {G H : Hp} {s : Shared}
theorem rd_list (I : Inv X pins σ H s) {a : Addr} {vs : List V} (h : SqL X.K H a vs) : ∃ (its : List Value) (o : Obj) (n : Nat), Vals vs its ∧ s.heap.get? a = some o ∧ o.cls = .type "list" ∧ o.data = .seq its.toArray n ∧ vs.length ≤ sizeLine := by
  obtain ⟨its, r, ⟨o, n, e, c, _, d⟩, z⟩ := I.list h
  exact ⟨its, o, n, r, e, c, d, z⟩
mutual
theorem Rp.reads (I : Inv X pins σ H s) (sm : Same G H) : ∀ {v : V} {d : D} {u : Value}, Rp X.K L G v d → RelV v u → okd d = true → ∃ as, Reads s.heap u (pd d) as
  | _, _, _, .non, r, _ => by cases r; exact ⟨_, .none⟩
  | _, _, _, .bl b, r, _ => by cases r; exact ⟨_, .bool b⟩
  | _, _, _, .int i, r, _ => by obtain ⟨t, rfl⟩ := r; exact ⟨_, .int i t⟩
  | _, _, _, .str x, r, _ => by obtain ⟨t, rfl⟩ := r; exact ⟨_, .str x t⟩
  | _, _, _, .ty n, _, h => by cases h
  | _, _, _, .cls c, _, h => by cases h
  | _, _, _, .obj _ _ _, _, h => by cases h
  | _, _, _, .dct _ _, _, h => by cases h
  | _, _, _, .exc0 _, _, h => by cases h
  | _, _, _, .exc1 _ _, _, h => by cases h
  | _, _, _, .tup hq hr, r, h => by
    cases r
    obtain ⟨its, rv, ⟨o, h1, h2, n, h3⟩, _⟩ := I.tuple (seqT sm hq)
    obtain ⟨as, ha⟩ := RpA.reads I sm hr rv h
    exact ⟨_, .tuple h1 h2 h3 (by simpa using ha)⟩
  | _, _, _, .lst hq hr, r, h => by
    cases r
    obtain ⟨its, o, n, rv, h1, h2, h3, _⟩ := rd_list I (Same.seq sm hq)
    obtain ⟨as, ha⟩ := RpA.reads I sm hr rv h
    exact ⟨_, .list h1 h2 h3 (by simpa using ha)⟩
theorem RpA.reads (I : Inv X pins σ H s) (sm : Same G H) : ∀ {vs : List V} {ds : List D} {us : List Value}, RpA X.K L G vs ds → Vals vs us → okA ds = true → ∃ as, ReadsAll s.heap us (pdA ds) as
  | _, _, _, .nil, r, _ => by cases r; exact ⟨_, .nil⟩
  | _, _, _, .cons h hs, r, q => by
    cases r with
    | cons r rs =>
      have q' := Bool.and_eq_true_iff.mp q
      obtain ⟨as, ha⟩ := Rp.reads I sm h r q'.1
      obtain ⟨bs, hb⟩ := RpA.reads I sm hs rs q'.2
      exact ⟨_, .cons ha hb⟩
end
def rQ (K : PySem.W.Frag) (L : Kl) (neg : Bool) : R2 := fun x y H Q => ∃ G da db, Same G H ∧ Rp K L G x da ∧ Rp K L G y db ∧ okq da = true ∧ okq db = true ∧ Q (.bl (if neg then !eqD da db else eqD da db)) H
theorem op_eqD (hu : X.A.units + 64 < cLine) : OpR X (compareOp .Eq) (rQ X.K L false) := by
  intro pins s σ H x y v u Q I rx ry ⟨G, da, db, sm, ra, rb, oa, ob, q⟩
  have oa' := Bool.and_eq_true_iff.mp oa
  have ob' := Bool.and_eq_true_iff.mp ob
  obtain ⟨as, ha⟩ := Rp.reads I sm ra rx oa'.1
  obtain ⟨bs, hb⟩ := Rp.reads I sm rb ry ob'.1
  exact eq_dataH ha hb oa'.2 ob'.2 hu ⟨.bl _, H, I, rfl, q⟩
theorem op_neD (hu : X.A.units + 64 < cLine) : OpR X (compareOp .NotEq) (rQ X.K L true) := by
  intro pins s σ H x y v u Q I rx ry ⟨G, da, db, sm, ra, rb, oa, ob, q⟩
  have oa' := Bool.and_eq_true_iff.mp oa
  have ob' := Bool.and_eq_true_iff.mp ob
  obtain ⟨as, ha⟩ := Rp.reads I sm ra rx oa'.1
  obtain ⟨bs, hb⟩ := Rp.reads I sm rb ry ob'.1
  exact ne_dataH ha hb oa'.2 ob'.2 hu ⟨.bl _, H, I, rfl, q⟩
end
section
variable {X : Cx} {L : Kl} {ρ : List Sl} {e a b c o tg : Expr} {es rs : List Expr} {d da db : D} {ds : List D} {pos p pos' : Pos} {E : En} {rest body els : List Stmt} {t u : Bool}
theorem op2Q {K : PySem.W.Frag} {neg : Bool} (ha : okq da = true) (hb : okq db = true) : Op2 K L (rQ K L neg) da db (.bl (if neg then !eqD da db else eqD da db)) := fun G H v u s r1 r2 Q k => ⟨G, da, db, s, r1, r2, ha, hb, k _ G H (.refl s) (.bl _)⟩
theorem ev_eq {k : Nat} (hr : Room k X.A) (ha : EV X L ρ a da) (hb : EV X L ρ b db) (oa : okq da = true := by rfl) (ob : okq db = true := by rfl) : EV X L ρ (.Compare a [.Eq] [b] pos) (.bl (eqD da db)) := ev_cmp (op_eqD hr.units) (op2Q (neg := false) oa ob) ha hb (nomark _)
theorem tv_eq {k : Nat} (hr : Room k X.A) (ha : EV X L ρ a da) (hb : EV X L ρ b db) (oa : okq da = true := by rfl) (ob : okq db = true := by rfl) : TV X L ρ (.Compare a [.Eq] [b] pos) (eqD da db) := tv_cmp (op_eqD hr.units) (op2Q (neg := false) oa ob) ha hb (nomark _)
theorem tv_ne {k : Nat} (hr : Room k X.A) (ha : EV X L ρ a da) (hb : EV X L ρ b db) (oa : okq da = true := by rfl) (ob : okq db = true := by rfl) : TV X L ρ (.Compare a [.NotEq] [b] pos) (!eqD da db) := tv_cmp (op_neD hr.units) (op2Q (neg := true) oa ob) ha hb (nomark _)

/-! ### isinstance -/
/-- an own class, as isinstance looks at its instances -/
structure ClsI (K : PySem.W.Frag) (C : Addr) : Prop where
  cl : Cls K C
  ha : PySem.W.findIn K (.ref C) "__class__" = some (some (.builtin "object.__class__"))
  hn : PySem.W.specialIn K (.builtin "object.__class__") "__get__" = some (some (.builtin "getset_descriptor.__get__"))
  htk : PySem.W.takesIn K (.builtin "object.__class__") = some true
  hm : PySem.W.mroIn K C (.type "object") = some true
inductive TyD (K : PySem.W.Frag) (L : Kl) : D → Value → Prop where
  | non : TyD K L .non (.type "NoneType")
  | bl (x : Bool) : TyD K L (.bl x) (.type "bool")
  | int (i : Int) : TyD K L (.int i) (.type "int")
  | str (x : Str) : TyD K L (.str x) (.type "str")
  | tup (ds : List D) : TyD K L (.tup ds) (.type "tuple")
  | lst (ds : List D) : TyD K L (.lst ds) (.type "list")
  | obj {c : Nat} (ds : List D) (h : ClsI K (L.cls c)) : TyD K L (.obj c ds) (.ref (L.cls c))
theorem isinst {pins : List (Addr × Obj)} {σ : L2.St} {G H : Hp} {s : Shared} {Q : Value → Shared → Prop} {A : Around} {E : Value → Shared → Prop} {x : V} {u t cv : Value} {k : Bool} (I : Inv X pins σ H s) (sm : Same G H) (rx : RelV x u) (r : Rp X.K L G x d) (ty : TyD X.K L d t)
    (e : PySem.W.kitOne X.K t cv = some k) (h : ∀ tk, Q (.bool k) { s with toks := tk }) : wpAny (model X.prog X.w) A (call (.builtin "isinstance") [u, cv]) Q E s := by
  cases ty with
  | non => cases r; cases rx; exact PySem.W.kia_one PySem.W.kitx_none I.kIn True.intro e (fun z => nomatch z) h
  | bl y => cases r; cases rx; exact PySem.W.kia_one PySem.W.kitx_bool I.kIn True.intro e (fun z => nomatch z) h
  | int i => cases r; obtain ⟨t, rfl⟩ := rx; exact PySem.W.kia_one PySem.W.kitx_int I.kIn True.intro e (fun z => nomatch z) h
  | str y => cases r; obtain ⟨t, rfl⟩ := rx; exact PySem.W.kia_one PySem.W.kitx_str I.kIn True.intro e (fun z => nomatch z) h
  | tup ds =>
    cases r with
    | tup hq hr =>
      cases rx
      obtain ⟨its, rv, ⟨o, h1, h2, n, h3⟩, _⟩ := I.tuple (seqT sm hq)
      exact PySem.W.kia_one PySem.W.kitx_tuple I.kIn ⟨o, h1, h2⟩ e (fun z => nomatch z) h
  | lst ds =>
    cases r with
    | lst hq hr =>
      cases rx
      obtain ⟨its, o, n, rv, h1, h2, h3, _⟩ := rd_list I (Same.seq sm hq)
      exact PySem.W.kia_one PySem.W.kitx_list I.kIn ⟨_, h1, h2⟩ e (fun z => nomatch z) h
  | obj ds ci =>
    cases r with
    | obj hq hl hr =>
      cases rx
      exact isinst_ok (x := .ref _) I rfl (.ins (sm _ _ hq) ci.cl ci.ha ci.hn ci.htk ci.hm) e h
def rIsi (K : PySem.W.Frag) (L : Kl) : List V → Hp → VK → Prop := fun xs H Q => ∃ G x d t cv c k, xs = [x, c] ∧ Same G H ∧ Rp K L G x d ∧ TyD K L d t ∧ (∀ u, RelV c u → u = cv) ∧ PySem.W.kitOne K t cv = some k ∧ Q (.bl k) H
theorem call_isi : CallR X (.builtin "isinstance") (rIsi X.K L) := by
  intro pins s σ H xs us Q I r ⟨G, x, d, t, cv, c, k, e, sm, rp, ty, rc, hk, q⟩
  subst e
  obtain ⟨u, w', rfl, r1, r2⟩ := vals2 r
  have ec : w' = cv := rc _ r2
  subst ec
  exact isinst I sm r1 rp ty hk fun tk => ⟨.bl k, H, I.tok tk, rfl, q⟩
theorem ev_isiT {x y : Str} {t : Value} {k : Bool} {n : String} {py : Pos} (ha : EV X L ρ a d) (ty : TyD X.K L d t) (hk : PySem.W.kitOne X.K t (.type n) = some k) (hm : X.mg x = none) (hmy : X.mg y = none) (hx : x = "isinstance" := by rfl) (hy : bootBuiltins y = some (.type n) := by decide +kernel) (hg : Gl X x := by rfl) (hgy : Gl X y := by rfl)
    (hn : y ≠ "__name__" := by decide) (hd : (y == ("__debug__" : Str)) = false := by decide)
    (he : starEach [a, .Name y py] X.env = (false, eval a X.env) :: starEach [.Name y py] X.env := by rfl) : EV X L ρ (.Call (.Name x p) [a, .Name y py] [] pos) (.bl k) := by
  subst hx
  refine ev_callB (call_isi (L := L)) (fun G H vs s r Q kk => ?_) hm (by decide +kernel) (evs_cons ha (evs_cons (ev_bltn (d := .ty n) (v := .ty n) hmy hy rfl (fun _ => .ty n) hgy hn hd) evs_nil) he) hg (he := he)
  obtain ⟨v, u, rfl, h1, h2⟩ := RpA.two r
  cases h2
  exact ⟨G, v, d, t, _, _, k, rfl, s, h1, ty, fun _ z => z, hk, kk _ G H (.refl s) (.bl k)⟩
/-! ### max -/
theorem call_max3 (hc : X.calm = true) : CallR X (.builtin "max") (fun xs H Q => ∃ i j k, xs = [.int i, .int j, .int k] ∧ Q (.int (max i (max j k))) H) := by
  intro pins s σ H xs us Q I r ⟨i, j, k, e, q⟩
  subst e
  cases r with
  | cons r1 r =>
    cases r with
    | cons r2 r =>
      cases r with
      | cons r3 r =>
        cases r
        obtain ⟨t1, rfl⟩ := r1
        obtain ⟨t2, rfl⟩ := r2
        obtain ⟨t3, rfl⟩ := r3
        refine max_three_ints (I.ok.hd hc) fun h' tk kp => ⟨_, H, I.kept kp, ?_, q⟩
        have e : ∀ m : Int, m = max i (max j k) → ∃ t, (if j > i then (if k > j then Value.int k t3 else Value.int j t2) else (if k > i then Value.int k t3 else Value.int i t1)) = Value.int m t := fun m hm => by
          split
          · split
            · exact ⟨t3, by rw [hm, show max i (max j k) = k by omega]⟩
            · exact ⟨t2, by rw [hm, show max i (max j k) = j by omega]⟩
          · split
            · exact ⟨t3, by rw [hm, show max i (max j k) = k by omega]⟩
            · exact ⟨t1, by rw [hm, show max i (max j k) = i by omega]⟩
        exact e _ rfl
theorem ev_max3 {i j k : Int} {x : Str} (ha : EV X L ρ a (.int i)) (hb : EV X L ρ b (.int j)) (hcc : EV X L ρ c (.int k)) (hm : X.mg x = none) (hx : x = "max" := by rfl) (hg : Gl X x := by rfl) (hc : X.calm = true := by rfl)
    (he : starEach [a, b, c] X.env = (false, eval a X.env) :: starEach [b, c] X.env := by rfl) (he2 : starEach [b, c] X.env = (false, eval b X.env) :: starEach [c] X.env := by rfl) (he3 : starEach [c] X.env = (false, eval c X.env) :: starEach [] X.env := by rfl) (hpl : (backTo pos (starEach [b, c] X.env)).any (·.1) = false := by rfl) : EV X L ρ (.Call (.Name x p) [a, b, c] [] pos) (.int (max i (max j k))) := by
  subst hx
  refine ev_callB (call_max3 hc) (fun G H vs s r Q kk => ?_) hm boot_max (evs_cons ha (evs_cons hb (evs_cons hcc evs_nil he3) he2) he) hg (he := he) (hpl := hpl)
  cases r with
  | cons h1 r =>
    obtain ⟨v, u, rfl, h2, h3⟩ := RpA.two r
    cases h1; cases h2; cases h3
    exact ⟨i, j, k, rfl, kk _ G H (.refl s) (.int _)⟩
/-- the greatest of a list -/
def maxL : List Int → Int
  | [] => 0
  | [x] => x
  | x :: y :: r => max x (maxL (y :: r))
theorem maxL_mem : ∀ {l : List Int}, l ≠ [] → maxL l ∈ l
  | [], h => absurd rfl h
  | [x], _ => by simp [maxL]
  | x :: y :: r, _ => by
    have ih := maxL_mem (l := y :: r) (by simp)
    show max x (maxL (y :: r)) ∈ x :: y :: r
    by_cases h : maxL (y :: r) ≤ x
    · rw [show max x (maxL (y :: r)) = x by omega]; simp
    · rw [show max x (maxL (y :: r)) = maxL (y :: r) by omega]; exact List.mem_cons_of_mem _ ih
theorem le_maxL : ∀ {l : List Int} {a : Int}, a ∈ l → a ≤ maxL l
  | [], _, h => by cases h
  | [x], a, h => by simp at h; subst h; simp [maxL]
  | x :: y :: r, a, h => by
    show a ≤ max x (maxL (y :: r))
    rcases List.mem_cons.mp h with rfl | h
    · omega
    · have := le_maxL (l := y :: r) h
      omega
theorem call_maxL (hc : X.calm = true) : CallR X (.builtin "max") (fun xs H Q => ∃ p ns, xs = [.ref p] ∧ SqL X.K H p (ns.map V.int) ∧ ns ≠ [] ∧ Q (.int (maxL ns)) H) := by
  intro pins s σ H xs us Q I r ⟨q, ns, e, hq, hne, k⟩
  subst e
  obtain ⟨u, rfl, rx⟩ := vals1 r
  cases rx
  obtain ⟨its, rv, pl, hz⟩ := I.list hq
  have hi := intsAre_of rv
  obtain ⟨ys, e⟩ := hi.allInts.items
  have hns : ns = ys.toList.map (·.1) := by rw [← hi.numsOf, ← nums_intItems, ← e]
  have hpos : 0 < ns.length := by cases ns with | nil => exact absurd rfl hne | cons _ _ => simp
  have hsz : 0 < ys.size := by have h3 := hpos; rw [hns, List.length_map, Array.length_toList] at h3; exact h3
  have hl := pl.isList
  rw [e] at hl
  refine max_intList (I.ok.hd hc) hl hsz fun v h' tk hv kp => ?_
  obtain ⟨tk', rfl⟩ := intItems_at hv
  obtain ⟨h1, h2⟩ := argBest_gt (numAt ys) (ys.size - 1)
  refine ⟨.int (maxL ns), H, I.kept kp, ⟨tk', ?_⟩, k⟩
  have m1 : numAt ys (argBest (fun i j => decide (numAt ys i > numAt ys j)) (ys.size - 1)) ∈ ns := by
    rw [hns, numAt_eq]; exact getD_mem (by rw [List.length_map, Array.length_toList]; omega)
  have m2 : ∀ a, a ∈ ns → a ≤ numAt ys (argBest (fun i j => decide (numAt ys i > numAt ys j)) (ys.size - 1)) := fun a ha => by
    rw [hns] at ha
    obtain ⟨jj, hjj, rfl⟩ := mem_getD ha
    rw [List.length_map, Array.length_toList] at hjj
    rw [← numAt_eq]; exact h2 jj (by omega)
  have e1 := le_maxL m1
  have e2 := m2 _ (maxL_mem hne)
  rw [show numAt ys (argBest (fun i j => decide (numAt ys i > numAt ys j)) (ys.size - 1)) = maxL ns by omega]
theorem ev_maxL {ns : List Int} {x : Str} (ha : EV X L ρ a (.lst (ns.map D.int))) (hne : ns ≠ []) (hm : X.mg x = none) (hx : x = "max" := by rfl) (hg : Gl X x := by rfl) (hc : X.calm = true := by rfl) (he : starEach [a] X.env = (false, eval a X.env) :: starEach [] X.env := by rfl) : EV X L ρ (.Call (.Name x p) [a] [] pos) (.int (maxL ns)) := by
  subst hx
  refine ev_callB (call_maxL hc) (fun G H vs s r Q kk => ?_) hm boot_max (evs_cons ha evs_nil he) hg (he := he)
  obtain ⟨v, rfl, h⟩ := RpA.one r
  cases h with
  | lst hq hr =>
    have e := hr.of_ints
    subst e
    exact ⟨_, ns, rfl, Same.seq s hq, hne, kk _ G H (.refl s) (.int _)⟩
end
end Z

namespace Z
open PySem PySem.Spec PyProof.Rows L2

/-! ### for i, x in enumerate(xs) -/
section
variable {X : Cx} {pins : List (Addr × Obj)} {σ : L2.St} {H : Hp} {s : Shared} {h' : Heap}
/-- records of ours have turned, and a new object is laid and tracked -/
theorem turnedNew {t' : Nat} {ch : List Addr} {N : Addr} {o : HO} (I : Inv X pins σ H s) (k : ∀ b u, b ∉ ch → s.heap.get? b = some u → h'.get? b = some u) (hf : ∀ b ∈ ch, FpOk X pins H b) (hN : s.heap.objs.size ≤ N)
    (new : ObjOk X.prog X.w (upd H N o) h' N o) : Inv X pins σ (upd H N o) { s with heap := h', toks := t' } := by
  have hn : H N = none := I.hok.fresh hN
  have old : ∀ b u, s.heap.get? b = some u → b ≠ N := fun b u e z => by
    subst z
    exact absurd (Nat.lt_of_lt_of_le (Heap.lt_size e) hN) (Nat.lt_irrefl _)
  have nch : ∀ b u, H b = some u → b ∉ ch := fun b u e z => by
    rw [(hf b z).1] at e
    cases e
  refine I.step (g' := s.gens) (d' := s.drawn) (ch := ch) (fun b hb => ?_) (fun b o _ _ hc e _ => k b o hc e) (fun b o _ _ hc e _ => ⟨o.slots, k b o hc e⟩) (fun b o _ e n => by rw [upd_ne (old b o e)]; exact n)
    (fun b o hc e => ⟨o, k b o hc e⟩) (fun b xs e => same_new hn _ _ _ e) (fun b o u e => same_new hn _ _ _ e) (fun b ps e => ⟨#[], by rw [same_new hn _ _ _ e]; simp⟩) (fun m hm => ?_) (fun b u e => ?_) I.bare
  · obtain ⟨f0, f1, f2, f3, f4, f5⟩ := hf b hb
    exact ⟨f3, f1, f4, f5⟩
  · obtain ⟨o, es, ep, ho, r⟩ := hm
    exact ⟨o, es, ep, k _ o (fun z => (hf _ z).2.1 rfl) ho, r⟩
  · by_cases hb : b = N
    · subst hb
      rw [upd_same] at e
      cases e
      exact new
    · rw [upd_ne hb] at e
      refine (I.hok b u e).stay (fun c v hc q => k c v ?_ q) (fun c q => same_new hn _ _ _ q) fun c xs q => same_new hn _ _ _ q
      rcases hc with z | z
      · rw [z]; exact nch b u e
      · exact nch c _ z
theorem turnedL {t' : Nat} {ch : List Addr} (I : Inv X pins σ H s) (k : ∀ b u, b ∉ ch → s.heap.get? b = some u → h'.get? b = some u) (hf : ∀ b ∈ ch, FpOk X pins H b) : Inv X pins σ H { s with heap := h', toks := t' } := by
  have nch : ∀ b u, H b = some u → b ∉ ch := fun b u e z => by
    rw [(hf b z).1] at e
    cases e
  refine I.step (g' := s.gens) (d' := s.drawn) (ch := ch) (fun b hb => ?_) (fun b o _ _ hc e _ => k b o hc e) (fun b o _ _ hc e _ => ⟨o.slots, k b o hc e⟩) (fun b o _ e n => n)
    (fun b o hc e => ⟨o, k b o hc e⟩) (fun b xs e => e) (fun b o u e => e) (fun b ps e => ⟨#[], by rw [e]; simp⟩) (fun m hm => ?_) (fun b u e => ?_) I.bare
  · obtain ⟨f0, f1, f2, f3, f4, f5⟩ := hf b hb
    exact ⟨f3, f1, f4, f5⟩
  · obtain ⟨o, es, ep, ho, r⟩ := hm
    exact ⟨o, es, ep, k _ o (fun z => (hf _ z).2.1 rfl) ho, r⟩
  · refine (I.hok b u e).stay (fun c v hc q => k c v ?_ q) (fun c q => q) fun c xs q => q
    rcases hc with z | z
    · rw [z]; exact nch b u e
    · exact nch c _ z
end
def Ite (K : PySem.W.Frag) (a : Addr) : It :=
  ⟨fun i H => ∃ xs x, SqL K H a xs ∧ xs[i]? = some x, fun i H x H' => ∃ p y, x = .ref p ∧ H p = none ∧ H' = upd H p (.tup [.int i, y]) ∧ ∀ xs, SqL K H a xs → xs[i]? = some y, fun i H => ∃ xs, SqL K H a xs ∧ xs.length ≤ i⟩
theorem turn_enum {P : Program} {w : World} {K : PySem.W.Frag} {elts : List Expr} {x1 : Nat} {pos : Pos} (a e it : Addr) (hne : e ≠ it) :
    Turn P w K (.Tuple elts x1 pos) (Ite K a) [e, it] e (fun i h => (∃ old, IsEnum h e it (i : Nat) old) ∧ h.IsListIter it a i) where
  mem := by simp
  obj := fun i h st b hb => by
    obtain ⟨⟨old, h1⟩, o, h2, h3, h4⟩ := st
    rcases List.mem_cons.mp hb with rfl | hb
    · exact ⟨_, h1, fun v z => by cases z⟩
    · have e : b = it := by simpa using hb
      subst e
      exact ⟨o, h2, fun v z => by rw [h4] at z; cases z⟩
  keep := fun i h h' ⟨⟨old, h1⟩, h2⟩ k => ⟨⟨old, k e (by simp) _ h1⟩, h2.at fun o q => k it (by simp) o q⟩
  item := by
    intro X hP hw hK hc i pins s σ H E I hf st hg
    subst hP hw hK
    obtain ⟨xs, x, hq, hx⟩ := hg
    obtain ⟨⟨old, h1⟩, h2⟩ := st
    obtain ⟨its, ol, n, rv, hl, hlc, hld, hz⟩ := rd_list I hq
    obtain ⟨u, hu, ru⟩ := rv.get hx
    refine wpAny_pyNext_enum_item (items := its.toArray) (x := u) h1 h2 ⟨_, hl, hlc, n, hld⟩ (by simpa using hu) hne fun h' ho hi ht hsz kp => ⟨_, rfl, wpAny_letOwnedTupleGo_enum ho fun h'' he hs => ?_⟩
    have hel : e < s.heap.objs.size := Heap.lt_size h1
    have hnew : h''.get? s.heap.objs.size = some { cls := .type "tuple", data := .seq #[.int i s.toks, u] } := hs.extBut _ _ (Nat.ne_of_gt hel) ht
    refine ⟨.ref s.heap.objs.size, upd H s.heap.objs.size (.tup [.int i, x]), turnedNew (s := s) (t' := s.toks + 1) (ch := [e, it]) I (fun b v hb q => ?_) hf (Nat.le_refl _) ?_, rfl, ⟨_, x, rfl, I.hok.fresh (Nat.le_refl _), rfl, fun ys hy => by rw [I.list_inj hy hq]; exact hx⟩, ⟨⟨u, ?_⟩, ?_⟩, fun b hb => ?_⟩
    · have hb1 : b ≠ e := fun z => hb (by simp [z])
      have hb2 : b ≠ it := fun z => hb (by simp [z])
      exact hs.extBut b v hb1 (kp b v hb1 hb2 q)
    · exact ⟨by show 2 ≤ sizeLine; decide, [.int i s.toks, u], .cons ⟨_, rfl⟩ (.cons ru .nil), _, hnew, rfl, _, rfl⟩
    · have hh : ((i + 1 : Nat) : Int) = (i : Int) + 1 := by push_cast; rfl
      rw [hh]
      exact he
    · exact hi.extBut hs.extBut (Ne.symm hne)
    · rw [upd_ne (fun z => ?_)]
      · exact (hf b hb).1
      · have hlt : b < s.heap.objs.size := by
          obtain ⟨o, q, _⟩ := id h2
          rcases List.mem_cons.mp hb with rfl | hb
          · exact hel
          · have e' : b = it := by simpa using hb
            subst e'
            exact Heap.lt_size q
        exact absurd z (Nat.ne_of_lt hlt)
  done := by
    intro X hP hw hK hc i pins s σ H E I hf st hg
    subst hP hw hK
    obtain ⟨xs, hq, hx⟩ := hg
    obtain ⟨⟨old, h1⟩, h2⟩ := st
    obtain ⟨its, ol, n, rv, hl, hlc, hld, hz⟩ := rd_list I hq
    have hlen := rv.length
    exact wpAny_pyNext_enum_end (items := its.toArray) (I.ok.hd hc) h1 h2 ⟨_, hl, hlc, n, hld⟩ (by simp; omega) fun h' eb => ⟨rfl, turnedL (t' := s.toks) (ch := [e, it]) I (fun b o hb q => eb b o (fun z => hb (by simp [z])) q) hf⟩
  self := fun _ _ _ _ _ st h => wpAny_pyIter_enum st.1.choose_spec h

section
variable {X : Cx} {L : Kl} {ρ : List Sl} {e a b c o tg : Expr} {es rs : List Expr} {d da db : D} {ds : List D} {pos p pos' : Pos} {E : En} {rest body els : List Stmt} {t u : Bool}
theorem boot_enum : bootBuiltins "enumerate" = some (.type "enumerate") := by decide +kernel
def iEnum (K : PySem.W.Frag) (tl : TE) : TI := fun σ H R => tl σ H fun x H1 => ∃ a, x = .ref a ∧ (∃ xs, SqL K H1 a xs) ∧ R (Ite K a) H1
theorem pi_enum {elts : List Expr} {x1 : Nat} {pt p2 : Pos} {tl : TE} (hl : PE X a tl) (hg : Gl X "enumerate") (hm : X.mg "enumerate" = none) (hs : starEach [a] X.env = [(false, eval a X.env)] := by rfl) (hpl : (backTo p2 (starEach [] X.env)).any (·.1) = false := by rfl) :
    PI X (.Tuple elts x1 pt) (.Call (.Name "enumerate" p) [a] [] p2) (iEnum X.K tl) := by
  intro pins s σ H R I h
  refine wpAny_Call_Name_kw (ld_blt I hg hm boot_enum ?_ (by decide) (by decide))
  refine PyProof.Rows.callWith_type1 (thn (pa_cons hl pa_nil hs p2 pins s σ H (fun vs H1 => match vs with | [x] => (∃ a, x = .ref a ∧ (∃ xs, SqL X.K H1 a xs) ∧ R (Ite X.K a) H1) | _ => False) I h) fun us s1 ⟨vs, H1, I1, r1, q1⟩ => ?_) hs hpl
  match vs, q1 with
  | [x], q1 =>
    obtain ⟨q, rfl, ⟨xs, hq⟩, k⟩ := q1
    obtain ⟨u, rfl, rx⟩ := vals1 r1
    cases rx
    obtain ⟨its, ol, n, rv, hl, hlc, hld, hz⟩ := rd_list I1 hq
    refine call_enumerate_list (items := its.toArray) ⟨_, hl, hlc, n, hld⟩ fun h' he hi hsz kp => ?_
    refine wpAny_pyIter_enum he ?_
    refine ⟨s1.heap.objs.size + 1, [s1.heap.objs.size + 1, s1.heap.objs.size], _, _, H1, rfl, I1.kept (t' := s1.toks) kp, turn_enum q _ _ (Nat.succ_ne_self _), ⟨⟨_, he⟩, hi⟩, fun b hb => ?_, k⟩
    rcases List.mem_cons.mp hb with rfl | hb
    · exact I1.fpOk (Nat.le_succ _) (I1.hok.fresh (Nat.le_succ _))
    · have e' : b = s1.heap.objs.size := by simpa using hb
      subst e'
      exact I1.fpOk (Nat.le_refl _) (I1.hok.fresh (Nat.le_refl _))
theorem for_enum {K : PySem.W.Frag} {a : Addr} {xs : List V} {g : TG} {tb : TS} {D : Ends} {σ : L2.St} {H : Hp} (Pv : Nat → L2.St → Hp → Prop) (h0 : Pv 0 σ H) (hl : ∀ i σ H, i ≤ xs.length → Pv i σ H → SqL K H a xs)
    (hs : ∀ i x σ H p, xs[i]? = some x → Pv i σ H → H p = none → g (.ref p) σ (upd H p (.tup [.int (i : Nat), x])) fun σ2 H2 => tb { D with nx := Pv (i + 1), ct := Pv (i + 1), bk := D.nx } σ2 H2) (hd : ∀ σ H, Pv xs.length σ H → D.nx σ H) :
    ∃ W : Nat → Nat → L2.St → Hp → Prop, (∃ m, W 0 m σ H) ∧ ∀ i m σ H, W i m σ H →
      ((Ite K a).stop i H ∧ D.nx σ H) ∨ ((Ite K a).go i H ∧ ∃ N : L2.St → Hp → Prop, (∀ σ' H', N σ' H' → ∃ m', m' < m ∧ W (i + 1) m' σ' H') ∧ ∀ x H', (Ite K a).yld i H x H' → g x σ H' fun σ2 H2 => tb { D with nx := N, ct := N, bk := D.nx } σ2 H2) := by
  refine ⟨fun i m σ H => m = xs.length - i ∧ i ≤ xs.length ∧ Pv i σ H, ⟨xs.length, by simp, Nat.zero_le _, h0⟩, ?_⟩
  rintro i m σ H ⟨rfl, hi, p⟩
  have q := hl i σ H hi p
  by_cases hlt : i < xs.length
  · refine .inr ⟨⟨xs, xs[i], q, by simp [hlt]⟩, Pv (i + 1), fun σ' H' p' => ⟨xs.length - (i + 1), by omega, rfl, hlt, p'⟩, fun x H' y => ?_⟩
    obtain ⟨p', z, rfl, hp', rfl, hz⟩ := y
    exact hs i z σ H p' (hz xs q) p hp'
  · have e : i = xs.length := by omega
    subst e
    exact .inl ⟨⟨xs, q, Nat.le_refl _⟩, hd σ H p⟩
/-- for x, y in enumerate(a) -/
theorem sv_for_enum {x : Str} {elts : List Expr} {x1 : Nat} {pt p2 : Pos} {f : D → List Sl → List Sl} {ok : D → Prop} (Iv : Nat → List Sl → Prop) (ha : EV X L ρ a (.lst ds)) (hm : X.mg x = none) (hx : x = "enumerate") (hg : GV X L (.Tuple elts x1 pt) f ok) (hok : ∀ (i : Nat) (d : D), d ∈ ds → ok (.tup [.int i, d])) (h0 : Iv 0 ρ)
    (hs : ∀ (i : Nat) (d : D) (ρ' : List Sl), ds[i]? = some d → Iv i ρ' → SV X L (f (.tup [.int i, d]) ρ') body { nx := Iv (i + 1), ct := Iv (i + 1), bk := fun ρ'' => SV X L ρ'' rest E, rt := E.rt, rl := E.rl })
    (hd : ∀ ρ', Iv ds.length ρ' → SV X L ρ' rest E) (hgl : Gl X "enumerate" := by rfl) (hst : starEach [a] X.env = [(false, eval a X.env)] := by rfl) (hpl : (backTo p2 (starEach [] X.env)).any (·.1) = false := by rfl) (hp : PassesOwn (model X.prog X.w) X.A X.env X.xe := by exact PassesOwn.never) (hc : X.calm = true := by rfl)
    (hfs : ∀ x, foldedSetIterable (.Call (.Name "enumerate" p) [a] [] p2) X.env x = pure x := by intro _; rfl) : SV X L ρ (.For (.Tuple elts x1 pt) (.Call (.Name x p) [a] [] p2) body [] pos :: rest) E := .mk fun σ G0 H0 G H st => by
  subst hx
  obtain ⟨g, pg, qg⟩ := hg
  refine wSs_cons (wS_of (ps_for hp hc (pi_enum pe_w hgl hm hst hpl) pg pss_w hfs) (ha.run σ G0 H0 G H st _ fun v G1 H1 e1 r1 => ?_))
  have st1 := st.step e1
  cases r1 with
  | @lst q vs _ hq hr =>
    refine ⟨q, rfl, ⟨vs, Same.seq e1.gh hq⟩, for_enum (K := X.K) (a := q) (xs := vs) (fun i σ' H' => ∃ ρ' G', StOk X.K L G1 H0 ρ' σ' G' H' ∧ Iv i ρ') ⟨ρ, G1, st1.rebase, h0⟩ (fun i σ' H' _ ⟨ρ', G', s', _⟩ => Same.seq (s'.ext.gg.trans s'.ext.gh) hq) ?_ ?_⟩
    · rintro i x σ' H' p' hx ⟨ρ', G', s', iv⟩ hp'
      obtain ⟨d, hd1, hd2⟩ := hr.get' hx
      have ex : Ext G' H' (upd G' p' (.tup [.int (i : Nat), x])) (upd H' p' (.tup [.int (i : Nat), x])) := .alloc s'.same hp' _
      have s'' := s'.step ex
      refine qg (.tup [.int i, d]) ρ' σ' G1 H0 _ _ (.ref p') (hok i d (List.mem_of_getElem? hd1)) s'' (.tup (SqT.of upd_same) (.cons (.int _) (.cons ((hd2.mono s'.ext.gg).mono ex.gg) .nil))) _ fun σ2 s2 => ?_
      have hh := (hs i d ρ' hd1 iv).run σ2 G1 H0 _ _ s2
      refine wSs_mono ?_ hh
      refine ⟨fun _ _ q => q, ?_, ?_, fun _ _ q => q⟩
      · rintro v' H'' q
        exact retPre st1.ext q
      · rintro σ3 H3 ⟨ρ3, G3, s3, q3⟩
        exact q3.run σ3 G0 H0 G3 H3 (s3.unbase st1.ext)
    · rintro σ' H' ⟨ρ', G', s', iv⟩
      rw [hr.length] at iv
      exact (hd ρ' iv).run σ' G0 H0 G' H' (s'.unbase st1.ext)
end
end Z

namespace Z
open PySem PySem.Spec PyProof.Rows L2

/-! ### [elt for x in iter if c] -/
/-- the context of a comprehension's block -/
def compCx (X : Cx) (N : List Str) (scope : Scope) (cl : List (Str × Addr)) (C : Addr) (s : Shared) (H : Hp) (fp : List Addr) : Cx :=
  { X with N := N, s₀ := s, H₀ := H, env := compEnvC scope cl C X.env, outer := X.stack, ex := fp, fn := fun _ => false, xe := fun _ _ => False }

section
variable {X : Cx} {pins : List (Addr × Obj)} {σ : L2.St} {H : Hp} {s : Shared} {N : List Str} {scope : Scope} {cl : List (Str × Addr)} {C : Addr} {fp : List Addr}
theorem compOk (I : Inv X pins σ H s) (hf : ∀ b ∈ fp, FpOk X pins H b) (hlt : ∀ b ∈ fp, b < s.heap.objs.size) (hC : s.heap.objs.size ≤ C) (hk : scope.kind = .function) (hcl : ∀ x c, cl.lookup x = some c → X.env.cells.lookup x = some c)
    (hhas : ∀ x, ((relabel scope X.env).names.lookup x = some .cell ∨ (relabel scope X.env).names.lookup x = some .free) → ∃ c, cl.lookup x = some c) : (compCx X N scope cl C s H fp).Ok where
  mod := I.ok.mod
  kind := hk
  glob := I.ok.glob
  blt := I.ok.blt
  above := hC
  inj := fun x y c h1 h2 => I.ok.inj x y c (hcl _ _ h1) (hcl _ _ h2)
  has := hhas
  cab := fun x c h => by cases h
  hd := I.ok.hd
  frames := I.ok.frames
  stk := .inl rfl
  exf := fun b hb => ⟨Nat.ne_of_lt (Nat.lt_of_lt_of_le (hlt b hb) hC), fun x c h => (hf b hb).2.2.2.2.1 x c (hcl _ _ h)⟩
  bs := I.bs
  bsz := Nat.le_trans I.ok.bsz I.sz
  noex := fun b o e hb => by
    rcases (hf b hb).2.2.2.1 with z | z
    · exact I.ok.noex b o e z
    · exact absurd (Nat.lt_of_lt_of_le (Heap.lt_size e) (Nat.le_trans I.ok.bsz z)) (Nat.lt_irrefl _)
  exfs := fun b hb hm => by
    rcases List.mem_cons.mp (I.stkSub b hm) with z | z
    · exact (hf b hb).2.1 z
    · exact (hf b hb).2.2.1 z
  funs := I.stack
  frf := I.stkFree
/-- back in the def -/
theorem comp_back {σ' : L2.St} {H' : Hp} {s' : Shared} {h'' : Heap} (I : Inv X pins σ H s) (K : Inv (compCx X N scope cl C s H fp) pins σ' H' s') (hC : s.heap.objs.size ≤ C) (hf : ∀ b ∈ fp, FpOk X pins H b) (sb : Heap.SameBut C s'.heap h'') : Inv X pins σ H' { s' with heap := h'' } := by
  have ub : Un (frs X.stack) fp H H' s.heap s'.heap := K.base
  have old : ∀ b o, s.heap.get? b = some o → b ≠ C := fun b o e => Nat.ne_of_lt (Nat.lt_of_lt_of_le (Heap.lt_size e) hC)
  have hCn : H' C = none := K.free
  refine I.call' (s' := { s' with heap := h'' }) (ch := fp) K.os ⟨fun b o e n h1 h2 => sb.extBut b o (old b o e) (ub.keep b o e n h1 h2), fun b o e n h1 h2 => ?_, ub.free, fun b o e h1 => ?_, ub.tups, ub.frzs, ub.tbls⟩ (fun b u e => ?_) K.bare (fun b hb => ?_)
  · obtain ⟨sl, q⟩ := ub.slot b o e n h1 h2
    exact ⟨sl, sb.extBut b _ (old b o e) q⟩
  · obtain ⟨o', q⟩ := ub.there b o e h1
    exact ⟨o', sb.extBut b _ (old b o e) q⟩
  · refine (K.hok b u e).stay (fun c v hc q => sb.extBut c v ?_ q) (fun c q => q) fun c xs q => q
    rcases hc with z | z
    · rw [z]; exact ne_of_none e hCn
    · exact ne_of_none z hCn
  · obtain ⟨f0, f1, f2, f3, f4, f5⟩ := hf b hb
    exact ⟨f3, f1, f4, f5⟩
end

theorem StOk.poke {K : PySem.W.Frag} {L : Kl} {G0 H0 G H : Hp} {ρ : List Sl} {σ : L2.St} {q : Addr} {o : HO} (st : StOk K L G0 H0 ρ σ G H) (hG : G q = none) (hH : H0 q = none) (hno : ∀ (i : Nat) r, ρ[i]? = some r → ¬ isOwn r) : StOk K L G0 H0 ρ σ G (upd H q o) where
  ext := ⟨st.ext.gg, fun b u z => by rw [upd_ne (ne_of_none z hG)]; exact st.ext.gh _ _ z, fun b u z => by rw [upd_ne (ne_of_none z hH)]; exact st.ext.hh _ _ z, st.ext.nw⟩
  sl := fun i r hr => (st.sl i r hr).stay (.refl _) fun p u ho _ _ => absurd ho (hno i r hr)
  len := st.len
  dist := fun i j p r1 r2 h1 h2 o1 => absurd o1 (hno i r1 h1)

section
variable {pr : Program} {wd : World} {B : Around} {Z0 : Result → Shared → Prop} {u0 : Shared}
/-- an error that leaves a comprehension's block -/
def outOf (pr : Program) (wd : World) (B : Around) (env : Env) (Z0 : Result → Shared → Prop) : Value → Shared → Prop := notedBy (model pr wd) B env fun x u => Z0 (.error x) u
/-- the tests in a row -/
def passing (ifs : List Expr) (env : Env) : Sem Bool :=
  forIn ifs true fun t k => if k = true then do
    let good ← isTrue t env (eval t env)
    pure (ForInStep.yield good) else pure (ForInStep.yield k)
/-- the loop of a comprehension by a word that falls; the target may be any -/
theorem compLoop_own {body tgt src : Expr} {ifs : List Expr} {scope : Scope} {pos : Pos} {itr ls : Value} {env : Env} (J : Nat → Shared → Prop)
    (one : ∀ m u, J m u → wpAny (model pr wd) B (pyNext itr) (fun y u1 => match y with
      | none => Z0 (.ok .next) u1
      | some z => wpAny (model pr wd) B (letOwnedTupleGo tgt itr z) (fun _ u2 => wpAny (model pr wd) B (assign tgt env z) (fun _ u3 => wpAny (model pr wd) B (passing ifs env) (fun good u4 =>
          if good = true then wpAny (model pr wd) B (eval body env) (fun y' u5 => wpAny (model pr wd) B (call (.builtin "list.append") [ls, y']) (fun _ u6 => ∃ m', m' < m ∧ J m' u6) (outOf pr wd B env Z0) u5) (outOf pr wd B env Z0) u4
          else ∃ m', m' < m ∧ J m' u4) (outOf pr wd B env Z0) u3) (outOf pr wd B env Z0) u2) (outOf pr wd B env Z0) u1) (outOf pr wd B env Z0) u)
    (m : Nat) (h0 : J m u0) : codeAny (model pr wd) B (.compLoop (.ListComp body [⟨tgt, src, ifs, 0⟩] scope pos) 0 itr ls env) Z0 u0 := by
  refine codeAny_loop rfl J (fun m u hJ => ?_) m h0
  show wpAny _ B ((compTurn (.ListComp body [⟨tgt, src, ifs, 0⟩] scope pos) 0 itr ls env).onRaise (fun x => do noteFrame x env; theTreesLotGoes x)) _ _ u
  refine wpAny_noted ?_
  rw [compTurn_list]
  refine wpAny_bind (wpAny_standAt (wpAny_bind (wpAny_mono (one m u hJ) (fun y u1 q1 => ?_) fun _ _ q => q)))
  cases y with
  | none => exact wpAny_pure q1
  | some z =>
    refine wpAny_bind (wpAny_mono q1 (fun _ u2 q2 => ?_) fun _ _ q => q)
    refine wpAny_bind (wpAny_mono q2 (fun _ u3 q3 => wpAny_bind (wpAny_mono q3 (fun good u4 q4 => ?_) fun _ _ q => q)) fun _ _ q => q)
    cases good with
    | false => exact wpAny_pure (And.intro rfl q4)
    | true => exact wpAny_bind (wpAny_bind (wpAny_mono q4 (fun y' u5 q5 => wpAny_bind (wpAny_mono q5 (fun _ u6 q6 => wpAny_pure (wpAny_pure (And.intro rfl q6))) fun _ _ q => q)) fun _ _ q => q))
end

/-- the tests of a comprehension -/
structure Tests (X : Cx) (L : Kl) (ρ : List Sl) (ifs : List Expr) (b : Bool) : Prop where
  run : ∀ (σ : L2.St) (G0 H0 G H : Hp), StOk X.K L G0 H0 ρ σ G H → ∀ Q : Bool → Hp → Prop, (∀ G' H', Ext G H G' H' → Q b H') → ∀ (pins : List (Addr × Obj)) (s : Shared), Inv X pins σ H s → wpAny (model X.prog X.w) X.A (passing ifs X.env) (TP X pins σ Q) X.xe s
theorem tests_nil {X : Cx} {L : Kl} {ρ : List Sl} : Tests X L ρ [] true := .mk fun σ G0 H0 G H st Q k pins s I => wpAny_tests_nil ⟨H, I, k G H (.refl st.same)⟩
theorem tests_one {X : Cx} {L : Kl} {ρ : List Sl} {c : Expr} {b : Bool} (h : TV X L ρ c b) : Tests X L ρ [c] b := .mk fun σ G0 H0 G H st Q k pins s I => wpAny_tests_one (h.run σ G0 H0 G H st Q k pins s I)

section
variable {X : Cx} {L : Kl} {ρ : List Sl} {e a b c o tg : Expr} {es rs : List Expr} {d da db : D} {ds : List D} {pos p pos' : Pos}
/-- the expression makes a new list of these data, and nothing else happens -/
structure EL (X : Cx) (L : Kl) (ρ : List Sl) (e : Expr) (ds : List D) : Prop where
  run : ∀ (σ : L2.St) (G0 H0 G H : Hp), StOk X.K L G0 H0 ρ σ G H → ∀ Q : VK, (∀ p vs G' H', Ext G H G' H' → H p = none → G' p = none → H' p = some (.lst vs) → RpA X.K L G' vs ds → Q (.ref p) H') → wE X e σ H Q
theorem EL.ev (h : EL X L ρ e ds) : EV X L ρ e (.lst ds) := .mk fun σ G0 H0 G H st Q k => h.run σ G0 H0 G H st Q fun p vs G' H' x hp hg hh hr => by
  refine k _ (upd G' p (.lst vs)) H' ⟨x.gg.trans (same_new hg _), fun b u q => ?_, x.hh, fun b hb => ?_⟩ (.lst (SqL.of upd_same) (hr.mono (same_new hg _)))
  · by_cases z : b = p
    · subst z
      rw [upd_same] at q
      rw [hh]
      exact q
    · rw [upd_ne z] at q
      exact x.gh _ _ q
  · by_cases z : b = p
    · subst z
      exact .inr hp
    · rw [upd_ne z] at hb
      exact x.nw b hb
/-- the slots of a comprehension's block, ahead of a turn -/
abbrev rhoC (ρ : List Sl) (ts : List Str) (js : List Nat) : List Sl := (ts.map fun _ => Sl.no) ++ js.map fun j => ρ.getD j .no
/-- what an iterable yields, turn by turn -/
abbrev SrcP (X : Cx) (L : Kl) (G H : Hp) (ds : List D) : It → Hp → Prop := fun J H1 => ∃ G1, Ext G H G1 H1 ∧ (∀ H' i, Same G1 H' → i < ds.length → J.go i H') ∧
  (∀ G' H' H'' i y, i < ds.length → Same G1 G' → Same G' H' → J.yld i H' y H'' → ∃ G'' d, Ext G' H' G'' H'' ∧ ds[i]? = some d ∧ Rp X.K L G'' y d) ∧ (∀ H' i, Same G1 H' → ds.length ≤ i → J.stop i H')
structure Src (X : Cx) (L : Kl) (ρ : List Sl) (tg iter : Expr) (ds : List D) : Prop where
  run : ∀ (σ : L2.St) (G0 H0 G H : Hp), StOk X.K L G0 H0 ρ σ G H → ∀ (pins : List (Addr × Obj)) (s : Shared), Inv X pins σ H s →
    wpAny (model X.prog X.w) X.A (eval iter X.env) (fun v s1 => wpAny (model X.prog X.w) X.A (pyIter v) (PIE X pins σ tg (SrcP X L G H ds)) X.xe s1) X.xe s
theorem src_seq {iter : Expr} (hit : EV X L ρ iter da) (hsq : sq da = some ds) : Src X L ρ tg iter ds := .mk fun σ G0 H0 G H st pins s I => by
  cases da with
  | tup es =>
    cases hsq
    refine pi_tup (pe_w (e := iter)) pins s σ H _ I (hit.run σ G0 H0 G H st _ fun v G1 H1 e1 r1 => ?_)
    cases r1 with
    | @tup q vs _ hq hr =>
      refine ⟨q, rfl, ⟨vs, seqT e1.gh hq⟩, G1, e1, fun H' i sm hi => ⟨vs, vs[i]'(by rw [hr.length]; exact hi), seqT sm hq, by simp⟩, fun G' H' H'' i y _ sm sm' hy => ?_, fun H' i sm hi => ⟨vs, seqT sm hq, by rw [hr.length]; exact hi⟩⟩
      obtain ⟨d, h1, h2⟩ := hr.get' (hy.2 vs (seqT sm' (seqT sm hq)))
      rw [hy.1]
      exact ⟨G', d, .refl sm', h1, h2.mono sm⟩
  | lst es =>
    cases hsq
    refine pi_list (pe_w (e := iter)) pins s σ H _ I (hit.run σ G0 H0 G H st _ fun v G1 H1 e1 r1 => ?_)
    cases r1 with
    | @lst q vs _ hq hr =>
      refine ⟨q, rfl, ⟨vs, Same.seq e1.gh hq⟩, G1, e1, fun H' i sm hi => ⟨vs, vs[i]'(by rw [hr.length]; exact hi), Same.seq sm hq, by simp⟩, fun G' H' H'' i y _ sm sm' hy => ?_, fun H' i sm hi => ⟨vs, Same.seq sm hq, by rw [hr.length]; exact hi⟩⟩
      obtain ⟨d, h1, h2⟩ := hr.get' (hy.2 vs (Same.seq sm' (Same.seq sm hq)))
      rw [hy.1]
      exact ⟨G', d, .refl sm', h1, h2.mono sm⟩
  | _ => cases hsq
theorem comp_core {iter elt : Expr} {ifs : List Expr} {scope : Scope} {cl : List (Str × Addr)} {ts ys : List Str} {js : List Nat} {fs : D → List Sl → List Sl} {ok : D → Prop} (f : D → D) (pz : D → Bool) (src : Src X L ρ tg iter ds) (hlen : ds.length < sizeLine) (hok : ∀ d ∈ ds, ok d)
    (hb : ∀ (C : Addr) (s : Shared) (H : Hp) (fp : List Addr), GV (compCx X (ts ++ ys) scope cl C s H fp) L tg fs ok ∧ ∀ d : D, d ∈ ds → Tests (compCx X (ts ++ ys) scope cl C s H fp) L (fs d (rhoC ρ ts js)) ifs (pz d) ∧
      (pz d = true → EV (compCx X (ts ++ ys) scope cl C s H fp) L (fs d (rhoC ρ ts js)) elt (f d)))
    (hfg : ∀ d ∈ ds, (fs d (rhoC ρ ts js)).length = (rhoC ρ ts js).length ∧ (∀ (i : Nat) (r : Sl), (rhoC ρ ts js)[i]? = some r → r = .no ∨ (fs d (rhoC ρ ts js))[i]? = some r) ∧ ∀ (i : Nat) r, (fs d (rhoC ρ ts js))[i]? = some r → ¬ isOwn r)
    (hclos : closureFor scope X.env = pure cl) (hcell : ∀ y ∈ scope.names, y.2 ≠ .cell) (hkind : scope.kind = .function) (hnames : ∀ y ∈ scope.names, y.2 = .local → scope.names.lookup y.1 = some .local)
    (hcl : ∀ x c, cl.lookup x = some c → X.env.cells.lookup x = some c) (hhas : ∀ x, ((relabel scope X.env).names.lookup x = some .cell ∨ (relabel scope X.env).names.lookup x = some .free) → ∃ c, cl.lookup x = some c)
    (hjs : js.length = ys.length) (hown : ∀ j ∈ js, ∀ r, ρ[j]? = some r → ¬ isOwn r)
    (hcap : ∀ (m j : Nat) (y : Str), js[m]? = some j → ys[m]? = some y → X.N[j]? = some y ∧ Vis X.env.scope y ∧ (X.env.kindOf y ≠ some .local) ∧ ((relabel scope X.env).names.lookup y = some .cell ∨ (relabel scope X.env).names.lookup y = some .free))
    (hcalm : X.calm = true := by rfl) (hs : ∀ x, foldedSetIterable iter X.env x = pure x := by intro _; rfl)
    {use : Option (Value → Sem Unit)} {QQ : Value → Shared → Prop} {pI : Pos} {σ : L2.St} {G0 H0 G H : Hp} {pins : List (Addr × Obj)} {s : Shared} (st : StOk X.K L G0 H0 ρ σ G H) (I : Inv X pins σ H s)
    (fin : ∀ (s3 : Shared) (H' G' : Hp) (p C : Addr) (ws : List V), (∃ m, s3.heap.Ns C m) → (∀ h'', Heap.SameBut C s3.heap h'' → Inv X pins σ H' { s3 with heap := h'' }) → FpOk X pins H' C → Ext G H G' H' → H p = none → G' p = none → H' p = some (.lst ws) → RpA X.K L G' ws ((ds.filter pz).map f) →
      compPost (model X.prog X.w) X.A X.xe use QQ (.ref p) C (.ok .next) s3) :
    wpAny (model X.prog X.w) X.A (comprehension (.ListComp elt [⟨tg, iter, ifs, 0⟩] scope pos) scope X.env pI (newList []) false (eval iter X.env) use) QQ X.xe s := by
  refine wpAny_comprehension_free rfl hs hclos hkind hnames ?_
  have hPI := src.run σ G0 H0 G H st pins s I
  refine thn hPI fun v s1 h1 => thn h1 fun itv s2 h2 => ?_
  obtain ⟨it, fp, tn, J, H2, e2, I2, T, tn0, hf, G1, ext1, hgo, hyl, hst⟩ := h2
  subst e2
  have st1 := st.step ext1
  have hlt : ∀ b ∈ fp, b < s2.heap.objs.size := fun b hb => by
    obtain ⟨o, q, _⟩ := T.obj 0 _ tn0 b hb
    exact Heap.lt_size q
  refine wpAny_newObj_type (wpAny_newFunctionEnv hcell (fun y hy => by simp at hy) (fun h₁ hns₁ hsb₁ => ?_) hkind)
  dsimp only at hns₁ hsb₁ ⊢
  generalize hH2 : s2.heap.push { cls := .type "list", dict := none, data := .seq ([] : List Value).toArray } = Hq at hns₁ hsb₁ ⊢
  have hCs : Hq.objs.size = s2.heap.objs.size + 1 := by rw [← hH2, Heap.size_push]
  have old0 : ∀ b o, s2.heap.get? b = some o → Hq.get? b = some o := fun b o e => by rw [← hH2]; exact Heap.get?_push_of_some _ e
  have hacc0 : Hq.get? s2.heap.objs.size = some { cls := .type "list", dict := none, data := .seq ([] : List Value).toArray } := by rw [← hH2]; exact Heap.get?_push_size _ rfl
  clear hH2
  have hC : s2.heap.objs.size ≤ Hq.objs.size := by rw [hCs]; exact Nat.le_succ _
  have hDC : s2.heap.objs.size ≠ Hq.objs.size := by rw [hCs]; exact Nat.ne_of_lt (Nat.lt_succ_self _)
  have below : ∀ b, b < s2.heap.objs.size → b ≠ Hq.objs.size := fun b hb => Nat.ne_of_lt (Nat.lt_of_lt_of_le hb hC)
  have old : ∀ b o, s2.heap.get? b = some o → h₁.get? b = some o := fun b o e => hsb₁.extBut b o (below b (Heap.lt_size e)) (Heap.get?_push_of_some _ (old0 b o e))
  have hacc : h₁.get? s2.heap.objs.size = some { cls := .type "list", dict := none, data := .seq ([] : List Value).toArray } := hsb₁.extBut _ _ hDC (Heap.get?_push_of_some _ hacc0)
  have hfreshD : H2 s2.heap.objs.size = none := I2.hok.fresh (Nat.le_refl _)
  have hfreshC : H2 Hq.objs.size = none := I2.hok.fresh hC
  obtain ⟨hGV, hel⟩ := hb Hq.objs.size s2 H2 fp
  have hOk : (compCx X (ts ++ ys) scope cl Hq.objs.size s2 H2 fp).Ok := compOk I2 hf hlt hC hkind hcl hhas
  -- the block's start
  have I4 : Inv (compCx X (ts ++ ys) scope cl Hq.objs.size s2 H2 fp) pins ((ts.map fun _ => none) ++ js.map fun j => (σ[j]?).join) (upd H2 s2.heap.objs.size (.lst [])) { s2 with heap := h₁, toks := s2.toks + ([] : List (Str × Value)).length } := by
    refine ⟨hOk, rfl, I2.bare, Un.laid old (Nat.le_refl _) hfreshD, ⟨_, hns₁, fun i z v h1 h2 h3 => ?_⟩, fun z c h1 => ?_, ?_, fun z c h1 => ?_, fun q hq => ?_, ?_, ?_⟩
    · by_cases hi : i < ts.length
      · rw [List.getElem?_append_left (by rw [List.length_map]; exact hi), List.getElem?_map] at h2
        cases q : ts[i]? with
        | none => rw [q] at h2; cases h2
        | some _ => rw [q] at h2; cases h2
      · have hge : ts.length ≤ i := Nat.le_of_not_lt hi
        have h1' : ys[i - ts.length]? = some z := by
          have := h1
          change (ts ++ ys)[i]? = some z at this
          rw [List.getElem?_append_right hge] at this
          exact this
        rw [List.getElem?_append_right (by rw [List.length_map]; exact hge), List.length_map, List.getElem?_map] at h2
        cases hj : js[i - ts.length]? with
        | none => rw [hj] at h2; cases h2
        | some j =>
          rw [hj] at h2
          have h4 := join_some (Option.some.inj h2)
          obtain ⟨c1, c2, c3, c4⟩ := hcap _ j z hj h1'
          obtain ⟨m0, hm0, hl0⟩ := I2.loc
          obtain ⟨u, ru, lk⟩ := hl0 j z v c1 h4 c2
          refine ⟨u, ru, .inr ⟨c4, ?_⟩⟩
          rcases lk with ⟨l1, _⟩ | ⟨_, c, l2, l3⟩
          · exact absurd l1 c3
          · obtain ⟨c', q'⟩ := hhas z c4
            have q2 := hcl z c' q'
            rw [l2] at q2
            cases q2
            obtain ⟨oc, ho, hd⟩ := l3
            exact ⟨c, q', oc, old _ _ ho, hd⟩
    · obtain ⟨v, oc, ho, hd⟩ := I2.cell z c (hcl z c h1)
      exact ⟨v, oc, old _ _ ho, hd⟩
    · show upd H2 s2.heap.objs.size (.lst []) Hq.objs.size = none
      rw [upd_ne hDC.symm]
      exact hfreshC
    · show upd H2 s2.heap.objs.size (.lst []) c = none
      obtain ⟨v, oc, ho, hd⟩ := I2.cell z c (hcl z c h1)
      rw [upd_ne (Nat.ne_of_lt (Heap.lt_size ho))]
      exact I2.freeC z c (hcl z c h1)
    · obtain ⟨p1, p2, p3, p4, p5⟩ := I2.pin q hq
      refine ⟨old _ _ p1, ?_, below _ (Heap.lt_size p1), fun hm => ?_, p5⟩
      · rw [upd_ne (Nat.ne_of_lt (Heap.lt_size p1))]
        exact p2
      · rcases List.mem_cons.mp (I2.stkSub _ hm) with z | z
        · exact p3 z
        · exact p4 z
    · exact I2.hok.laid old (Nat.le_refl _) ⟨Nat.zero_le _, [], 0, .nil, hacc⟩
    · show (List.map (fun _ => none) ts ++ List.map (fun j => (σ[j]?).join) js).length = (ts ++ ys).length
      rw [List.length_append, List.length_append, List.length_map, List.length_map, hjs]
  have st4 : StOk X.K L G1 H2 (rhoC ρ ts js) ((ts.map fun _ => none) ++ js.map fun j => (σ[j]?).join) G1 H2 := by
    have sub : ∀ (i : Nat) (r : Sl), (rhoC ρ ts js)[i]? = some r → r = .no ∨ ∃ j ∈ js, ρ[j]? = some r ∧ ((ts.map fun _ => (none : Option V)) ++ js.map fun j => (σ[j]?).join)[i]?.join = (σ[j]?).join := fun i r hr => by
      by_cases hi : i < ts.length
      · rw [List.getElem?_append_left (by rw [List.length_map]; exact hi), List.getElem?_map] at hr
        cases q : ts[i]? with
        | none => rw [q] at hr; cases hr
        | some _ => rw [q] at hr; cases hr; exact .inl rfl
      · have hge : ts.length ≤ i := Nat.le_of_not_lt hi
        rw [List.getElem?_append_right (by rw [List.length_map]; exact hge), List.length_map, List.getElem?_map] at hr ⊢
        cases hj : js[i - ts.length]? with
        | none => rw [hj] at hr; cases hr
        | some j =>
          rw [hj] at hr
          have hr' : ρ.getD j .no = r := Option.some.inj hr
          rw [List.getD_eq_getElem?_getD] at hr'
          cases q : ρ[j]? with
          | none => rw [q] at hr'; exact .inl hr'.symm
          | some r' =>
            rw [q] at hr'
            have hr'' : r' = r := hr'
            subst hr''
            exact .inr ⟨j, List.mem_of_getElem? hj, q, rfl⟩
    refine ⟨.refl ext1.gh, fun i r hr => ?_, ?_, fun i j p r1 r2 h1 h2 o1 => ?_⟩
    · rcases sub i r hr with rfl | ⟨j, hj, h5, h6⟩
      · trivial
      · rw [h6]
        exact (st1.sl j r h5).any (hown j hj r h5)
    · rw [List.length_append, List.length_append, List.length_map, List.length_map, List.length_map, List.length_map]
    · rcases sub i r1 h1 with rfl | ⟨j', hj', h5, _⟩
      · exact o1.elim
      · exact absurd o1 (hown j' hj' r1 h5)
  have noown : ∀ (i : Nat) r, (rhoC ρ ts js)[i]? = some r → ¬ isOwn r := fun i r h1 o1 => by
    have hm := List.mem_of_getElem? h1
    rcases List.mem_append.mp hm with z | z
    · obtain ⟨_, _, q⟩ := List.mem_map.mp z
      rw [← q] at o1
      exact o1
    · obtain ⟨j', hj', q⟩ := List.mem_map.mp z
      rw [List.getD_eq_getElem?_getD] at q
      cases q' : ρ[j']? with
      | none =>
        rw [q'] at q
        rw [← q] at o1
        exact o1
      | some r' =>
        rw [q'] at q
        have q2 : r' = r := q
        subst q2
        exact hown j' hj' r' q' o1
  have hG1 : G1 s2.heap.objs.size = none := ext1.gh.free hfreshD
  have st5 := st4.poke (o := .lst []) hG1 hfreshD noown
  have fpo : ∀ {H' : Hp}, (∀ b ∈ fp, H' b = none) → ∀ b ∈ fp, FpOk (compCx X (ts ++ ys) scope cl Hq.objs.size s2 H2 fp) pins H' b := fun {H'} hn b hb =>
    ⟨hn b hb, (hOk.exf b hb).1, hOk.exfs b hb, .inl hb, (hOk.exf b hb).2, (hf b hb).2.2.2.2.2⟩
  have tn4 : tn 0 h₁ := T.keep 0 _ _ tn0 fun b hb o q => old b o q
  have loop : ∀ s₃ : Shared, s₃ = { s2 with heap := h₁, toks := s2.toks + ([] : List (Str × Value)).length } →
      codeAny (model X.prog X.w) X.A (.compLoop (.ListComp elt [⟨tg, iter, ifs, 0⟩] scope pos) 0 (.ref it) (.ref s2.heap.objs.size) (compEnvC scope cl Hq.objs.size X.env))
        (compPost (model X.prog X.w) X.A X.xe use QQ (.ref s2.heap.objs.size) Hq.objs.size) s₃ := by
    rintro s₃ rfl
    refine compLoop_own (fun n s' => ∃ i σ1 G' H' ws, n = ds.length + 1 - i ∧ i ≤ ds.length ∧ Inv (compCx X (ts ++ ys) scope cl Hq.objs.size s2 H2 fp) pins σ1 H' s' ∧ tn i s'.heap ∧ (∀ b ∈ fp, H' b = none) ∧
      StOk X.K L G1 H2 (rhoC ρ ts js) σ1 G' H' ∧ G' s2.heap.objs.size = none ∧ H' s2.heap.objs.size = some (.lst ws) ∧ RpA X.K L G' ws (((ds.take i).filter pz).map f) ∧ ws.length ≤ i) ?_ (ds.length + 1)
      ⟨0, _, G1, _, [], rfl, Nat.zero_le _, I4, tn4, fun b hb => by rw [upd_ne (Nat.ne_of_lt (hlt b hb))]; exact (hf b hb).1, st5, hG1, upd_same, .nil, Nat.le_refl _⟩
    rintro n s' ⟨i, σ1, G', H', ws, rfl, hi, I', tn', fr', st', hGa, hHa, hw, hwl⟩
    by_cases hlt' : i < ds.length
    · refine thn (T.item (compCx X (ts ++ ys) scope cl Hq.objs.size s2 H2 fp) rfl rfl rfl hcalm i pins s' σ1 H' _ I' (fpo fr') tn' (hgo H' i (st'.ext.gg.trans st'.ext.gh) hlt')) fun r s3 ⟨u, er, h3⟩ => ?_
      subst er
      refine thn h3 fun _ s4 ⟨y, H4, I4', ry, hy, tn4', fr4⟩ => ?_
      obtain ⟨G4, d, ex4, hd1, hd2⟩ := hyl G' H' H4 i y hlt' st'.ext.gg st'.ext.gh hy
      have hGa4 : G4 s2.heap.objs.size = none := ex4.unknown hHa hGa
      have hHa4 : H4 s2.heap.objs.size = some (.lst ws) := ex4.hh _ _ hHa
      have st4' := st'.step ex4
      have hdm : d ∈ ds := List.mem_of_getElem? hd1
      obtain ⟨g, pg, qg⟩ := hGV
      have I5 := I4'.pinned (fpo fr4) (T.obj _ _ tn4')
      refine wpAny_mono (pg _ s4 σ1 H4 y u _ I5 ry (qg d _ σ1 G1 H2 G4 H4 y (hok d hdm) st4' hd2 (fun σ2 H5 => StOk X.K L G1 H2 (fs d (rhoC ρ ts js)) σ2 G4 H5 ∧ H5 = H4) fun σ2 s2' => ⟨s2', rfl⟩)) (fun _ s5 ⟨σ2, H5, I6, st6, e5⟩ => ?_) fun _ _ z => z.elim
      subst e5
      obtain ⟨t1, t2⟩ := hel d hdm
      obtain ⟨f1, f2, f3⟩ := hfg d hdm
      refine wpAny_mono (t1.run σ2 G1 H2 G4 H5 st6 (fun b H6 => b = pz d ∧ ∃ G6, Ext G4 H5 G6 H6) (fun G6 H6 e6 => ⟨rfl, G6, e6⟩) _ s5 I6) (fun okb s6 ⟨H6, I7, eb, G6, e6⟩ => ?_) fun _ _ z => z.elim
      subst eb
      have st7 := st6.step e6
      have hGa6 : G6 s2.heap.objs.size = none := by
        cases q : G6 s2.heap.objs.size with
        | none => rfl
        | some _ =>
          rcases e6.nw _ (by rw [q]; exact Option.some_ne_none _) with z | z
          · exact absurd hGa4 z
          · rw [hHa4] at z; cases z
      have tnOf : ∀ {σ8 : L2.St} {H8 : Hp} {s8 : Shared}, Inv (compCx X (ts ++ ys) scope cl Hq.objs.size s2 H2 fp) (pins ++ pinsAt fp s4.heap) σ8 H8 s8 → tn (i + 1) s8.heap ∧ ∀ b ∈ fp, H8 b = none := fun {σ8 H8 s8} I8 =>
        ⟨T.keep _ _ _ tn4' fun b hb o q => (I8.pin (b, o) (List.mem_append_right _ (List.mem_append_right _ (mem_pinsAt hb q)))).1, fun b hb => by
          obtain ⟨o, q, _⟩ := T.obj _ _ tn4' b hb
          exact (I8.pin (b, o) (List.mem_append_right _ (List.mem_append_right _ (mem_pinsAt hb q)))).2.1⟩
      have tk : (ds.take (i + 1)).filter pz = (ds.take i).filter pz ++ (if pz d then [d] else []) := take_succ_filter pz ds i d hd1
      cases hp : pz d with
      | true =>
        rw [if_pos rfl]
        refine wpAny_mono ((t2 hp).run σ2 G1 H2 G6 H6 st7 (fun v H7 => ∃ G7, Ext G6 H6 G7 H7 ∧ Rp X.K L G7 v (f d)) (fun v G7 H7 e7 r7 => ⟨G7, e7, r7⟩) _ s6 I7) (fun v7 s7 ⟨y7, H7, I8, rv7, G7, e7, r7⟩ => ?_) fun _ _ z => z.elim
        have st8 := st7.step e7
        have hGa7 : G7 s2.heap.objs.size = none := by
          cases q : G7 s2.heap.objs.size with
          | none => rfl
          | some _ =>
            rcases e7.nw _ (by rw [q]; exact Option.some_ne_none _) with z | z
            · exact absurd hGa6 z
            · rw [e6.hh _ _ hHa4] at z; cases z
        have hHa7 : H7 s2.heap.objs.size = some (.lst ws) := e7.hh _ _ (e6.hh _ _ hHa4)
        refine wpAny_mono (mt_append (X := compCx X (ts ++ ys) scope cl Hq.objs.size s2 H2 fp) _ s7 σ2 H7 (.ref s2.heap.objs.size) [y7] (.ref s2.heap.objs.size) [v7] (fun _ H8 => H8 = upd H7 s2.heap.objs.size (.lst (ws ++ [y7]))) I8 rfl (.cons rv7 .nil) ⟨_, ws, y7, rfl, rfl, hHa7, by omega, rfl⟩) (fun _ s8 ⟨_, H8, I9, _, e8⟩ => ?_) fun _ _ z => z.elim
        subst e8
        obtain ⟨tn9, fr9⟩ := tnOf I9
        refine ⟨ds.length + 1 - (i + 1), by omega, i + 1, σ2, G7, _, ws ++ [y7], rfl, hlt', I9.unpinned, tn9, fr9, (st8.poke hGa7 hfreshD f3).forget f1.symm f2, hGa7, upd_same, ?_, ?_⟩
        · rw [tk, hp, if_pos rfl, List.map_append]
          exact (((hw.mono ex4.gg).mono e6.gg).mono e7.gg).append (.cons r7 .nil)
        · rw [List.length_append]
          exact Nat.succ_le_succ hwl
      | false =>
        rw [if_neg (by decide)]
        obtain ⟨tn9, fr9⟩ := tnOf I7
        refine ⟨ds.length + 1 - (i + 1), by omega, i + 1, σ2, G6, H6, ws, rfl, hlt', I7.unpinned, tn9, fr9, st7.forget f1.symm f2, hGa6, e6.hh _ _ hHa4, ?_, Nat.le_succ_of_le hwl⟩
        rw [tk, hp, if_neg (by decide), List.append_nil]
        exact (hw.mono ex4.gg).mono e6.gg
    · have ei : i = ds.length := Nat.le_antisymm hi (Nat.le_of_not_lt hlt')
      refine thn (T.done (compCx X (ts ++ ys) scope cl Hq.objs.size s2 H2 fp) rfl rfl rfl hcalm i pins s' σ1 H' _ I' (fpo fr') tn' (hst H' i (st'.ext.gg.trans st'.ext.gh) (Nat.le_of_not_lt hlt'))) fun r s3 ⟨er, I3⟩ => ?_
      subst er
      obtain ⟨m, hm, _⟩ := I3.loc
      have hds : ds.take i = ds := by rw [ei]; exact List.take_length
      rw [hds] at hw
      exact fin s3 H' G' _ Hq.objs.size ws ⟨m, hm⟩ (fun h'' sb => comp_back I2 I3 hC hf sb) (I2.fpOk hC I3.free) (ext1.trans st'.ext) (ext1.hh.free hfreshD) hGa hHa hw
  exact codeAny_compStart_list (loop _ rfl) (T.self _ 0 _ _ _ tn4 (loop _ rfl))
theorem el_compS {iter elt : Expr} {ifs : List Expr} {scope : Scope} {cl : List (Str × Addr)} {ts ys : List Str} {js : List Nat} {fs : D → List Sl → List Sl} {ok : D → Prop} (f : D → D) (pz : D → Bool) (src : Src X L ρ tg iter ds) (hlen : ds.length < sizeLine) (hok : ∀ d ∈ ds, ok d)
    (hb : ∀ (C : Addr) (s : Shared) (H : Hp) (fp : List Addr), GV (compCx X (ts ++ ys) scope cl C s H fp) L tg fs ok ∧ ∀ d : D, d ∈ ds → Tests (compCx X (ts ++ ys) scope cl C s H fp) L (fs d (rhoC ρ ts js)) ifs (pz d) ∧
      (pz d = true → EV (compCx X (ts ++ ys) scope cl C s H fp) L (fs d (rhoC ρ ts js)) elt (f d)))
    (hfg : ∀ d ∈ ds, (fs d (rhoC ρ ts js)).length = (rhoC ρ ts js).length ∧ (∀ (i : Nat) (r : Sl), (rhoC ρ ts js)[i]? = some r → r = .no ∨ (fs d (rhoC ρ ts js))[i]? = some r) ∧ ∀ (i : Nat) r, (fs d (rhoC ρ ts js))[i]? = some r → ¬ isOwn r)
    (hclos : closureFor scope X.env = pure cl) (hcell : ∀ y ∈ scope.names, y.2 ≠ .cell) (hkind : scope.kind = .function) (hnames : ∀ y ∈ scope.names, y.2 = .local → scope.names.lookup y.1 = some .local)
    (hcl : ∀ x c, cl.lookup x = some c → X.env.cells.lookup x = some c) (hhas : ∀ x, ((relabel scope X.env).names.lookup x = some .cell ∨ (relabel scope X.env).names.lookup x = some .free) → ∃ c, cl.lookup x = some c)
    (hjs : js.length = ys.length) (hown : ∀ j ∈ js, ∀ r, ρ[j]? = some r → ¬ isOwn r)
    (hcap : ∀ (m j : Nat) (y : Str), js[m]? = some j → ys[m]? = some y → X.N[j]? = some y ∧ Vis X.env.scope y ∧ (X.env.kindOf y ≠ some .local) ∧ ((relabel scope X.env).names.lookup y = some .cell ∨ (relabel scope X.env).names.lookup y = some .free))
    (hcalm : X.calm = true := by rfl) (hs : ∀ x, foldedSetIterable iter X.env x = pure x := by intro _; rfl) :
    EL X L ρ (.ListComp elt [⟨tg, iter, ifs, 0⟩] scope pos) ((ds.filter pz).map f) := by
  refine .mk fun σ G0 H0 G H st Q k pins s I => ?_
  rw [eval_ListComp]
  refine comp_core f pz src hlen hok hb hfg hclos hcell hkind hnames hcl hhas hjs hown hcap hcalm hs st I fun s3 H' G' p C ws ns inv _ e1 h1 h2 h3 h4 => ?_
  obtain ⟨m, hm⟩ := ns
  exact ⟨m, hm, fun h'' sb => ⟨.ref p, H', inv h'' sb, rfl, k p ws G' H' e1 h1 h2 h3 h4⟩⟩
end
end Z

namespace Z
open PySem PySem.Spec PyProof.Rows L2

/-! ### the defs of a text -/
/-- a def (or method) as it stands behind the top; its defaults may be some -/
structure DefT (K : PySem.W.Frag) (x qual : Str) (st : Stmt) (ps : List Str) (f : Addr) (fd : FuncData) : Prop where
  ex : ∃ (oc : Value) (od : Option Addr) (dV kV doc pm : Value) (an : Option Addr) (cdv ct : Value) (osl : Array (Option Value)),
    fd = PySem.W.fnOf x qual (defArgs st) (defBody st) (defScope st) dV kV doc pm an cdv ct ∧ K.lookup f = some ⟨oc, od, .func fd, osl⟩ ∧ PySem.W.codeIn K cdv qual = true
  kp : PySem.W.keepIn K (.ref f) = true
  bd : Binds K fd ps []
/-- a def of the module -/
def GDef (K : PySem.W.Frag) (mg : Str → Option Value) (x : Str) (st : Stmt) (ps : List Str) : Prop := ∃ f fd, DefT K x x st ps f fd ∧ mg x = some (.ref f)
/-- .. whose last parameters have defaults us -/
def GDefD (K : PySem.W.Frag) (mg : Str → Option Value) (x : Str) (st : Stmt) (ps : List Str) (us : List Value) : Prop := ∃ f fd, DefT K x x st ps f fd ∧ mg x = some (.ref f) ∧ Binds K fd ps us
section
variable {P : Program} {w : World} {K : PySem.W.Frag} {mg : Str → Option Value} {base : Heap} {L : Kl}
theorem fn_okT {x qual : Str} {st : Stmt} {f : Addr} {fd : FuncData} {N ps : List Str} {k : Nat} {C : List D → D → Prop} (F : DefT K x qual st ps f fd) (S : FnScope N ps (defScope st)) (len : ∀ ds r, C ds r → ds.length = ps.length)
    (hbody : ∀ (cdv : Value) (A : Around) (outer : List Env) (s : Shared) (H : Hp) (E : XK), Room k (A.deeper (envOfC qual (defScope st) s.heap.objs.size f cdv)) → ∀ ds r, C ds r →
      SV (cxOf CX0 P w K mg base N qual (defScope st) f cdv A outer s H E).nox L (rho0 N ds) (defBody st) { nx := fun _ => r = .non, rt := fun d => d = r }) : FnOk P w K mg base CX0 (k + 1) f fd ps (spC K L C) := by
  obtain ⟨oc, od, dV, kV, doc, pm, an, cdv, ct, osl, rfl, lk, hcd⟩ := F.ex
  refine fn_of lk hcd S (fun vs H Q E ⟨G, ds, r, _, hr, hc, _⟩ => hr.length.trans (len ds r hc)) fun A outer s H vs Q E hr ⟨G, ds, r, sm, rp, hc, k⟩ => ⟨_, PSs.nox pss_w, ?_⟩
  have hh := (hbody cdv A outer s H E hr ds r hc).run (L2.start N vs) G H G H (st0 sm rp)
  refine wSs_mono ?_ hh
  refine ⟨?_, ?_, ?_, ?_⟩
  · rintro σ' H' ⟨ρ', G', s', e⟩
    subst e
    exact k .non G' H' s'.ext .non
  · rintro v H' (⟨d, G', x1, r1, e⟩ | ⟨_, _, _, _, _, _, _, _, _, _, z⟩)
    · subst e
      exact k v G' H' x1 r1
    · exact z.elim
  · rintro σ' H' ⟨_, _, _, q⟩
    exact q.elim
  · rintro σ' H' ⟨_, _, _, q⟩
    exact q.elim
theorem fn_def {x : Str} {st : Stmt} {N ps : List Str} {k : Nat} {C : List D → D → Prop} (g : GDef K mg x st ps) (S : FnScope N ps (defScope st)) (len : ∀ ds r, C ds r → ds.length = ps.length)
    (hbody : ∀ (f : Addr) (cdv : Value) (A : Around) (outer : List Env) (s : Shared) (H : Hp) (E : XK), Room k (A.deeper (envOfC x (defScope st) s.heap.objs.size f cdv)) → ∀ ds r, C ds r →
      SV (cxOf CX0 P w K mg base N x (defScope st) f cdv A outer s H E).nox L (rho0 N ds) (defBody st) { nx := fun _ => r = .non, rt := fun d => d = r }) : Fn P w K mg base L x (k + 1) C := by
  obtain ⟨f, fd, F, hm⟩ := g
  exact .mk0 (fn_okT F S len (hbody f)) hm F.kp F.bd
/-- both ways to call a def whose last parameters have defaults -/
theorem fn_defD {x : Str} {st : Stmt} {N ps : List Str} {us : List Value} {dvs : List V} {dds : List D} {k : Nat} {C : List D → D → Prop} (g : GDefD K mg x st ps us) (hv : Vals dvs us) (hd : ∀ G, RpA K L G dvs dds) (S : FnScope N ps (defScope st)) (len : ∀ ds r, C ds r → ds.length = ps.length)
    (hbody : ∀ (f : Addr) (cdv : Value) (A : Around) (outer : List Env) (s : Shared) (H : Hp) (E : XK), Room k (A.deeper (envOfC x (defScope st) s.heap.objs.size f cdv)) → ∀ ds r, C ds r →
      SV (cxOf CX0 P w K mg base N x (defScope st) f cdv A outer s H E).nox L (rho0 N ds) (defBody st) { nx := fun _ => r = .non, rt := fun d => d = r }) : Fn P w K mg base L x (k + 1) C ∧ Fn P w K mg base L x (k + 1) (fun ds r => C (ds ++ dds) r) := by
  obtain ⟨f, fd, F, hm, hb⟩ := g
  have h := fn_okT F S len (hbody f)
  exact ⟨.mk0 h hm F.kp F.bd, ⟨f, fd, ps, C, dvs, us, dds, h, hm, F.kp, hb, hv, hd, fun _ _ h => h⟩⟩
theorem gdef_mk {h : Heap} {x : Str} {st : Stmt} {ps : List Str} {f : Addr} {oc : Value} {od an : Option Addr} {osl : Array (Option Value)} {kV doc pm cdv ct : Value} (X : K.In h) (G : h.Ns mainGlobals mg) (a : PySem.W.nsIn K mainGlobals x = some (some (.ref f)))
    (l : K.lookup f = some ⟨oc, od, .func (PySem.W.fnOf x x (defArgs st) (defBody st) (defScope st) .none kV doc pm an cdv ct), osl⟩) (c : PySem.W.codeIn K cdv x = true) (k : PySem.W.keepIn K (.ref f) = true)
    (hb : ∀ (kV doc pm : Value) (an : Option Addr) (cdv ct : Value) (us : List Value), us.length = ps.length → bindArgs (PySem.W.fnOf x x (defArgs st) (defBody st) (defScope st) .none kV doc pm an cdv ct) ⟨us, []⟩ = pure (ps.zip us)) : GDef K mg x st ps :=
  ⟨f, _, ⟨⟨oc, od, .none, kV, doc, pm, an, cdv, ct, osl, rfl, l, c⟩, k, .all (hb kV doc pm an cdv ct)⟩, PySem.W.mg_of X G a⟩
theorem gdefD_mk {h : Heap} {x : Str} {st : Stmt} {ps : List Str} {us : List Value} {f T : Addr} {oc : Value} {od an : Option Addr} {osl : Array (Option Value)} {kV doc pm cdv ct : Value} {oT : Obj} {n : Nat} (X : K.In h) (G : h.Ns mainGlobals mg) (a : PySem.W.nsIn K mainGlobals x = some (some (.ref f)))
    (l : K.lookup f = some ⟨oc, od, .func (PySem.W.fnOf x x (defArgs st) (defBody st) (defScope st) (.ref T) kV doc pm an cdv ct), osl⟩) (c : PySem.W.codeIn K cdv x = true) (k : PySem.W.keepIn K (.ref f) = true) (hT : K.lookup T = some oT) (hS : oT.data = .seq us.toArray n) (n0 : Nat) (hn0 : n0 + us.length = ps.length)
    (hb : ∀ (kV doc pm : Value) (an : Option Addr) (cdv ct : Value) (s : Shared) (vs : List Value), s.heap.get? T = some oT → vs.length = ps.length → BindsTo s (PySem.W.fnOf x x (defArgs st) (defBody st) (defScope st) (.ref T) kV doc pm an cdv ct) ⟨vs, []⟩ (ps.zip vs))
    (hb' : ∀ (kV doc pm : Value) (an : Option Addr) (cdv ct : Value) (s : Shared) (vs : List Value), s.heap.get? T = some oT → vs.length = n0 → BindsTo s (PySem.W.fnOf x x (defArgs st) (defBody st) (defScope st) (.ref T) kV doc pm an cdv ct) ⟨vs, []⟩ (ps.zip (vs ++ us))) : GDefD K mg x st ps us :=
  ⟨f, _, ⟨⟨oc, od, .ref T, kV, doc, pm, an, cdv, ct, osl, rfl, l, c⟩, k, fun s vs hi hl => by rw [List.append_nil] at hl ⊢; exact hb kV doc pm an cdv ct s vs (hi _ _ hT) hl⟩, PySem.W.mg_of X G a, fun s vs hi hl => hb' kV doc pm an cdv ct s vs (hi _ _ hT) (by rw [List.length_append] at hl; omega)⟩
/-- a tuple of the module -/
theorem const_tup {a : Addr} {o : Obj} {its : Array Value} {n : Nat} {vs : List V} {ds : List D} (hk : K.lookup a = some o) (hc : o.cls = .type "tuple") (hd : o.data = .seq its n) (hz : its.size ≤ sizeLine) (hv : Vals vs its.toList) (hr : ∀ G, RpA K L G vs ds) (G : Hp) : Rp K L G (.ref a) (.tup ds) :=
  .tup (.inr ⟨o, its, n, hk, hc, hd, hz, hv⟩) (hr G)
end
abbrev cell (a b : Int) : D := .tup [.int a, .int b]
end Z

namespace Z
open PySem PySem.Spec PyProof.Rows L2

/-- the names that a comprehension takes from the def: their slots there -/
inductive Caps (X : Cx) (scope : Scope) (ρ : List Sl) : List Nat → List Str → Prop where
  | nil : Caps X scope ρ [] []
  | cons {j : Nat} {y : Str} {js : List Nat} {ys : List Str} {d : D} (hρ : ρ[j]? = some (.v d)) (hN : X.N[j]? = some y) (hk : X.env.kindOf y = some .cell ∨ X.env.kindOf y = some .free) (hl : (relabel scope X.env).names.lookup y = some .cell ∨ (relabel scope X.env).names.lookup y = some .free)
      (r : Caps X scope ρ js ys) : Caps X scope ρ (j :: js) (y :: ys)
section
variable {X : Cx} {L : Kl} {ρ : List Sl} {scope : Scope} {js : List Nat} {ys : List Str}
theorem cap1 (j : Nat) {y : Str} {d : D} (r : Caps X scope ρ js ys) (hρ : ρ[j]? = some (.v d) := by rfl) (hN : X.N[j]? = some y := by rfl) (hk : X.env.kindOf y = some .cell ∨ X.env.kindOf y = some .free := by first | exact Or.inl rfl | exact Or.inr rfl)
    (hl : (relabel scope X.env).names.lookup y = some .cell ∨ (relabel scope X.env).names.lookup y = some .free := by first | exact Or.inl rfl | exact Or.inr rfl) : Caps X scope ρ (j :: js) (y :: ys) := .cons hρ hN hk hl r
theorem Caps.len : ∀ {js : List Nat} {ys : List Str}, Caps X scope ρ js ys → js.length = ys.length
  | _, _, .nil => rfl
  | _, _, .cons _ _ _ _ r => congrArg (· + 1) r.len
theorem Caps.own : ∀ {js : List Nat} {ys : List Str}, Caps X scope ρ js ys → ∀ j ∈ js, ∀ r, ρ[j]? = some r → ¬ isOwn r
  | _, _, .nil, _, h => by cases h
  | _, _, .cons hρ _ _ _ r, j, h => by
    rcases List.mem_cons.mp h with rfl | h
    · intro r e o
      rw [hρ] at e
      cases e
      exact o
    · exact r.own j h
theorem Caps.cap : ∀ {js : List Nat} {ys : List Str}, Caps X scope ρ js ys → ∀ (m j : Nat) (y : Str), js[m]? = some j → ys[m]? = some y → X.N[j]? = some y ∧ Vis X.env.scope y ∧ (X.env.kindOf y ≠ some .local) ∧ ((relabel scope X.env).names.lookup y = some .cell ∨ (relabel scope X.env).names.lookup y = some .free)
  | _, _, .nil, m, _, _, h, _ => by simp at h
  | _, _, .cons hρ hN hk hl r, 0, j, y, h1, h2 => by
    cases h1
    cases h2
    refine ⟨hN, .inr hk, fun e => ?_, hl⟩
    rcases hk with z | z <;> (rw [z] at e; cases e)
  | _, _, .cons _ _ _ _ r, m + 1, j, y, h1, h2 => r.cap m j y (by simpa using h1) (by simpa using h2)
theorem has_of {cl : List (Str × Addr)} {env : Env} (h : (scope.names.all fun q => !(q.2 == .free || q.2 == .cell) || (cl.lookup q.1).isSome) = true) : ∀ x, ((relabel scope env).names.lookup x = some .cell ∨ (relabel scope env).names.lookup x = some .free) → ∃ c, cl.lookup x = some c := by
  intro x hx
  have key : ∀ (ns : List (Str × NameKind)) (k : NameKind), (ns.map fun (n, k) => if (k == .free && env.scope.kind == .function && env.kindOf n == some .cell) then (n, NameKind.cell) else (n, k)).lookup x = some k → (k = .cell ∨ k = .free) → ∃ k0, (x, k0) ∈ ns ∧ (k0 = .cell ∨ k0 = .free) := by
    intro ns
    induction ns with
    | nil => intro k h; simp at h
    | cons q r ih =>
      intro k h hk
      obtain ⟨n, k1⟩ := q
      have e : (List.map (fun (x : Str × NameKind) => match x with | (n, k) => if (k == .free && env.scope.kind == .function && env.kindOf n == some .cell) = true then (n, NameKind.cell) else (n, k)) ((n, k1) :: r)).lookup x = some k := h
      rw [List.map_cons] at e
      by_cases hc : (k1 == .free && env.scope.kind == .function && env.kindOf n == some .cell) = true
      · simp only [hc, if_true, List.lookup_cons] at e
        cases hx : x == n with
        | true =>
          have : x = n := by simpa using hx
          subst this
          have h1 : k1 = .free := by
            have := (Bool.and_eq_true_iff.mp (Bool.and_eq_true_iff.mp hc).1).1
            simpa using this
          exact ⟨k1, List.mem_cons_self, .inr h1⟩
        | false =>
          rw [hx] at e
          obtain ⟨k0, h1, h2⟩ := ih k e hk
          exact ⟨k0, List.mem_cons_of_mem _ h1, h2⟩
      · simp only [hc, Bool.false_eq_true, if_false, List.lookup_cons] at e
        cases hx : x == n with
        | true =>
          have : x = n := by simpa using hx
          subst this
          rw [hx] at e
          simp at e
          subst e
          exact ⟨k1, List.mem_cons_self, hk⟩
        | false =>
          rw [hx] at e
          obtain ⟨k0, h1, h2⟩ := ih k (by simpa using e) hk
          exact ⟨k0, List.mem_cons_of_mem _ h1, h2⟩
  have fin : ∃ k0, (x, k0) ∈ scope.names ∧ (k0 = .cell ∨ k0 = .free) := by
    rcases hx with hx | hx
    · exact key _ _ hx (.inl rfl)
    · exact key _ _ hx (.inr rfl)
  obtain ⟨k0, h1, h2⟩ := fin
  have h3 := List.all_eq_true.mp h _ h1
  have h4 : (cl.lookup x).isSome = true := by
    rcases h2 with rfl | rfl <;> simpa using h3
  exact Option.isSome_iff_exists.mp h4
theorem getD_v {ρ : List Sl} {j : Nat} {d : D} (h : ρ[j]? = some (.v d)) : ρ.getD j .no = .v d := by
  rw [List.getD_eq_getElem?_getD, h]
  rfl
theorem Caps.noown : ∀ {js : List Nat} {ys : List Str}, Caps X scope ρ js ys → ∀ (i : Nat) (q : Sl), (js.map fun j => ρ.getD j .no)[i]? = some q → ¬ isOwn q
  | _, _, .nil, i, q => by simp
  | _, _, .cons hρ _ _ _ r, 0, q => fun h o => by
    have h' : ρ.getD _ .no = q := Option.some.inj h
    rw [getD_v hρ] at h'
    rw [← h'] at o
    exact o
  | _, _, .cons _ _ _ _ r, i + 1, q => fun h => r.noown i q h
/-- [elt for x in iter if ..], one name -/
theorem el_compNS {iter elt : Expr} {x : Str} {px pos : Pos} {ifs : List Expr} {cl : List (Str × Addr)} {ds : List D} (f : D → D) (pz : D → Bool) (cl' : cl = cl) (cp : Caps X scope ρ js ys) (src : Src X L ρ (.Name x px) iter ds) (hlen : ds.length < sizeLine)
    (hb : ∀ (C : Addr) (s : Shared) (H : Hp) (fp : List Addr) (d : D), d ∈ ds → Tests (compCx X (x :: ys) scope cl C s H fp) L (.v d :: js.map fun j => ρ.getD j .no) ifs (pz d) ∧
      (pz d = true → EV (compCx X (x :: ys) scope cl C s H fp) L (.v d :: js.map fun j => ρ.getD j .no) elt (f d)))
    (hnd : (x :: ys).Nodup := by decide +kernel) (hclos : closureFor scope X.env = pure cl := by rfl) (hcell : ∀ y ∈ scope.names, y.2 ≠ .cell := by decide +kernel) (hkind : scope.kind = .function := by rfl) (hnames : ∀ y ∈ scope.names, y.2 = .local → scope.names.lookup y.1 = some .local := by decide +kernel)
    (hx : scope.names.lookup x = some .local := by rfl) (hx2 : (relabel scope X.env).names.lookup x = some .local := by rfl)
    (hcl : ∀ x c, cl.lookup x = some c → X.env.cells.lookup x = some c := by exact fun _ _ h => h) (hhas : (scope.names.all fun q => !(q.2 == .free || q.2 == .cell) || (cl.lookup q.1).isSome) = true := by rfl)
    (hcalm : X.calm = true := by rfl) (hs : ∀ x, foldedSetIterable iter X.env x = pure x := by intro _; rfl) : EL X L ρ (.ListComp elt [⟨.Name x px, iter, ifs, 0⟩] scope pos) ((ds.filter pz).map f) :=
  el_compS (ts := [x]) (ys := ys) (js := js) (cl := cl) (fs := fun d ρ => ρ.set 0 (.v d)) (ok := fun _ => True) f pz src hlen (fun _ _ => trivial)
    (fun C s H fp => ⟨⟨_, pg_name (X := compCx X ([x] ++ ys) scope cl C s H fp) (i := 0) hnd rfl (.inl hx2) (.inr hx2), fun d ρ σ G0 H0 G H v _ st r Q k => k _ (st.set r)⟩, fun d hd => hb C s H fp d hd⟩)
    (fun d hd => ⟨by rw [List.length_set], fun i r hr => by
      cases i with
      | zero => exact .inl (Option.some.inj hr).symm
      | succ i => exact .inr hr, fun i q h o => by
      cases i with
      | zero =>
        rw [← Option.some.inj h] at o
        exact o
      | succ i => exact cp.noown i q h o⟩)
    hclos hcell hkind hnames hcl (has_of hhas) cp.len cp.own cp.cap hcalm hs
end
end Z
namespace Z
open PySem PySem.Spec PyProof.Rows L2
/-! ### written numbers, pairs of them, lists of such pairs -/
inductive LitI : Expr → Int → Prop where
  | c {i : Int} {j p} : LitI (.Constant (.int i) j p) i
  | n {i : Int} {j p q} : LitI (.UnaryOp .USub (.Constant (.int i) j p) q) (-i)
inductive LitP : Expr → D → Prop where
  | mk {a b : Expr} {i j : Int} {x1 pos} : LitI a i → LitI b j → LitP (.Tuple [a, b] x1 pos) (cell i j)
inductive LitPs : List Expr → List D → Prop where
  | nil : LitPs [] []
  | cons {e : Expr} {d : D} {es : List Expr} {ds : List D} : LitP e d → LitPs es ds → LitPs (e :: es) (d :: ds)
section
variable {X : Cx} {L : Kl} {ρ : List Sl}
end
end Z
namespace Z
open PySem
/-! ### the kinds of plain things, as isinstance tells them -/
theorem kii (K : PySem.W.Frag) : PySem.W.kitOne K (.type "int") (.type "int") = some true := by kernel_rfl
theorem kib (K : PySem.W.Frag) : PySem.W.kitOne K (.type "int") (.type "bool") = some false := by kernel_rfl
theorem kbi (K : PySem.W.Frag) : PySem.W.kitOne K (.type "bool") (.type "int") = some true := by kernel_rfl
theorem kbb (K : PySem.W.Frag) : PySem.W.kitOne K (.type "bool") (.type "bool") = some true := by kernel_rfl
theorem ktt (K : PySem.W.Frag) : PySem.W.kitOne K (.type "tuple") (.type "tuple") = some true := by kernel_rfl
end Z

namespace Z
open PySem PySem.Spec PyProof.Rows L2

/-! ### lists that are newly made -/
section
variable {X : Cx} {L : Kl} {ρ : List Sl} {e a b : Expr} {es : List Expr} {d : D} {ds ds' : List D} {pos p pos' : Pos} {E : En} {rest : List Stmt}
theorem el_lst (h : EVs X L ρ es ds) (hl : ds.length ≤ 1000 := by simp) : EL X L ρ (.List es pos) ds := .mk fun σ G0 H0 G H st Q k =>
  wE_of (pe_lst pa_w) (h.run σ G0 H0 G H st _ fun vs G1 H1 e1 r1 => ⟨by rw [r1.length]; exact Nat.le_of_lt (small1000 hl), fun p hp => k p vs G1 _ ⟨e1.gg, e1.gh.trans (same_new hp _), e1.hh.trans (same_new hp _), e1.nw⟩ (e1.hh.free hp) (e1.gh.free hp) upd_same r1⟩)
/-! a list that is shared with no one, seen as a datum where nothing of it is kept -/
mutual
def noL : D → Bool
  | .non => true
  | .bl _ => true
  | .int _ => true
  | .str _ => true
  | .ty _ => true
  | .cls _ => true
  | .tup xs => noLA xs
  | .lst _ => false
  | .obj _ xs => noLA xs
  | .dct _ => true
  | .exc _ _ => true
def noLA : List D → Bool
  | [] => true
  | x :: xs => noL x && noLA xs
end
def del (G : Hp) (p : Addr) : Hp := fun b => if b = p then none else G b
theorem del_ne {G : Hp} {p b : Addr} (h : b ≠ p) : del G p b = G b := if_neg h
theorem del_same {G : Hp} {p : Addr} : del G p p = none := if_pos rfl
theorem KeyOk.without {K : PySem.W.Frag} {G : Hp} {p : Addr} {ws : List V} (hp : G p = some (.lst ws)) : ∀ {xs : List (List Int × Addr × Value)} {cs : List (Int × Int)}, KeyOk K G xs cs → KeyOk K (del G p) xs cs
  | [], [], _ => trivial
  | (_, _, _) :: _, (_, _) :: _, ⟨h1, h, h3⟩ => ⟨h1, by
    rcases h with (h | ⟨o, h⟩) | h
    · refine .inl (.inl ?_)
      rw [del_ne (ne_of h hp (by intro z; cases z))]
      exact h
    · refine .inl (.inr ⟨o, ?_⟩)
      rw [del_ne (ne_of h hp (by intro z; cases z))]
      exact h
    · exact .inr h, KeyOk.without hp h3⟩
  | [], _ :: _, h => h.elim
  | _ :: _, [], h => h.elim
mutual
theorem Rp.without {K : PySem.W.Frag} {G : Hp} {p : Addr} {ws : List V} (hp : G p = some (.lst ws)) : ∀ {v : V} {d : D}, Rp K L G v d → noL d = true → Rp K L (del G p) v d
  | _, _, .non, _ => .non
  | _, _, .bl b, _ => .bl b
  | _, _, .int i, _ => .int i
  | _, _, .str x, _ => .str x
  | _, _, .ty n, _ => .ty n
  | _, _, .cls c, _ => .cls c
  | _, _, .lst _ _, n => by cases n
  | _, _, .tup h hs, n => by
    refine .tup ?_ (RpA.without hp hs n)
    rcases h with (h | ⟨o, h⟩) | h
    · refine .inl (.inl ?_)
      rw [del_ne (ne_of h hp (by intro z; cases z))]
      exact h
    · refine .inl (.inr ⟨o, ?_⟩)
      rw [del_ne (ne_of h hp (by intro z; cases z))]
      exact h
    · exact .inr h
  | _, _, .obj h hl hs, n => by
    have hne := ne_of h hp (by intro z; cases z)
    exact .obj ((del_ne hne).trans h) hl (RpA.without hp hs n)
  | _, _, .dct h hk, _ => .dct ((del_ne (ne_of h hp (by intro z; cases z))).trans h) (hk.without hp)
  | _, _, .exc0 h, _ => .exc0 ((del_ne (ne_of h hp (by intro z; cases z))).trans h)
  | _, _, .exc1 h h2, _ => .exc1 ((del_ne (ne_of h hp (by intro z; cases z))).trans h) ((del_ne (ne_of h2 hp (by intro z; cases z))).trans h2)
theorem RpA.without {K : PySem.W.Frag} {G : Hp} {p : Addr} {ws : List V} (hp : G p = some (.lst ws)) : ∀ {vs : List V} {ds : List D}, RpA K L G vs ds → noLA ds = true → RpA K L (del G p) vs ds
  | _, _, .nil, _ => .nil
  | _, _, .cons h hs, n => .cons (Rp.without hp h (Bool.and_eq_true_iff.mp n).1) (RpA.without hp hs (Bool.and_eq_true_iff.mp n).2)
end
theorem ev_share (i : Nat) (h : EV X L (ρ.set i (.v (.lst ds))) e d) (hi : ρ[i]? = some (.own ds) := by rfl) (hn : noL d = true := by rfl) : EV X L ρ e d := .mk fun σ G0 H0 G H st Q k => by
  obtain ⟨p, vs, h1, h2, h3, h4, st1⟩ := st.freeze hi
  refine h.run σ G0 H0 _ H st1 Q fun v G' H' x r => ?_
  have hp : G' p = some (.lst vs) := x.gg _ _ upd_same
  refine k v (del G' p) H' ⟨fun b u q => ?_, fun b u q => ?_, x.hh, fun b hb => ?_⟩ (r.without hp hn)
  · have z : b ≠ p := ne_of_none q h3
    rw [del_ne z]
    exact x.gg _ _ (by rw [upd_ne z]; exact q)
  · by_cases z : b = p
    · subst z
      rw [del_same] at q
      cases q
    · rw [del_ne z] at q
      exact x.gh _ _ q
  · by_cases z : b = p
    · subst z
      rw [del_same] at hb
      exact absurd rfl hb
    · rw [del_ne z] at hb
      rcases x.nw b hb with q | q
      · rw [upd_ne z] at q
        exact .inl q
      · exact .inr q

/-! ### list + list, list * int -/
def rCatS (K : PySem.W.Frag) : R2 := fun x y H Q => ∃ l b xs zs, x = .ref l ∧ y = .ref b ∧ SqL K H l xs ∧ SqL K H b zs ∧ xs.length + zs.length ≤ sizeLine ∧ ∀ p, H p = none → Q (.ref p) (upd H p (.lst (xs ++ zs)))
theorem op_catS : OpR X (binaryOp .Add) (rCatS X.K) := by
  intro pins s σ H x y v u Q I rx ry ⟨l, b, xs, zs, ex, ey, hx, hy, hz, q⟩
  subst ex ey
  cases rx
  cases ry
  obtain ⟨its, o1, n1, r1, g1, c1, d1, z1⟩ := rd_list I hx
  obtain ⟨jts, o2, n2, r2, g2, c2, d2, z2⟩ := rd_list I hy
  obtain ⟨k1, dd1, da1, sl1⟩ := o1
  obtain ⟨k2, dd2, da2, sl2⟩ := o2
  cases c1
  cases d1
  cases c2
  cases d2
  have hl1 := r1.length
  have hl2 := r2.length
  have ea : its.toArray ++ jts.toArray = (its ++ jts).toArray := by simp
  have hzz : its.toArray.size + jts.toArray.size ≤ sizeLine := by rw [List.size_toArray, List.size_toArray]; omega
  refine concat_meets (T := "list") ⟨_, g1, rfl⟩ ⟨_, g2, rfl⟩ noFill_list_add seq_list_add PySem.F.slot_list_add PySem.F.entry_list_add (PySem.F.args_list_add_2 _ _) (list_addW l b its.toArray jts.toArray n1 n2 dd1 dd2 sl1 sl2 hzz) ⟨g1, g2, ?_⟩
  rw [ea]
  exact ⟨.ref _, _, I.lnew (t' := s.toks) (r1.append r2) (by rw [List.length_append]; exact hz), rfl, q _ I.fresh⟩
theorem el_cat (ha : EV X L ρ a (.lst ds)) (hb : EV X L ρ b (.lst ds')) (hz : ds.length + ds'.length ≤ sizeLine) : EL X L ρ (.BinOp a .Add b pos) (ds ++ ds') := .mk fun σ G0 H0 G H st Q k =>
  wE_of (pe_op op_catS pe_w pe_w) (ha.run σ G0 H0 G H st _ fun v G1 H1 e1 r1 => hb.run σ G0 H0 G1 H1 (st.step e1) _ fun u G2 H2 e2 r2 => by
    cases r1 with
    | lst hq hr =>
      cases r2 with
      | lst hq2 hr2 =>
        have hr' := hr.mono e2.gg
        refine ⟨_, _, _, _, rfl, rfl, Same.seq e2.gh (Same.seq e2.gg hq), Same.seq e2.gh hq2, by rw [hr.length, hr2.length]; exact hz, fun p hp => ?_⟩
        have x := e1.trans e2
        exact k p _ G2 _ ⟨x.gg, x.gh.trans (same_new hp _), x.hh.trans (same_new hp _), x.nw⟩ (x.hh.free hp) (x.gh.free hp) upd_same (hr'.append hr2))
end
end Z

namespace Z
open PySem PySem.Spec PyProof.Rows L2

/-! ### objects -/
section
variable {X : Cx} {L : Kl} {ρ : List Sl} {e a b o : Expr} {es : List Expr} {d : D} {ds rs : List D} {pos p pos' apos : Pos} {E : En} {rest : List Stmt} {c : Nat} {f m : Str}
theorem zip_look : ∀ {ns : List Str} {vs : List V} {j : Nat} {f : Str} {v : V}, ns.Nodup → ns[j]? = some f → vs[j]? = some v → (ns.zip vs).lookup f = some v
  | [], _, _, _, _, _, h, _ => by simp at h
  | n :: ns, [], j, f, v, _, _, h => by simp at h
  | n :: ns, u :: vs, 0, f, v, _, h1, h2 => by
    simp at h1 h2
    subst h1 h2
    simp [List.zip_cons_cons, List.lookup_cons]
  | n :: ns, u :: vs, j + 1, f, v, nd, h1, h2 => by
    have h1' : ns[j]? = some f := by simpa using h1
    have h2' : vs[j]? = some v := by simpa using h2
    have hne : f ≠ n := fun z => by
      subst z
      exact (List.nodup_cons.mp nd).1 (List.mem_of_getElem? h1')
    rw [List.zip_cons_cons, List.lookup_cons]
    have : (f == n) = false := by simpa using hne
    rw [this]
    exact zip_look (List.nodup_cons.mp nd).2 h1' h2'
theorem zip_none : ∀ {ns : List Str} {vs : List V} {f : Str}, f ∉ ns → (ns.zip vs).lookup f = none
  | [], _, _, _ => by simp
  | n :: ns, [], _, _ => by simp
  | n :: ns, u :: vs, f, h => by
    rw [List.zip_cons_cons, List.lookup_cons]
    have : (f == n) = false := by
      have : f ≠ n := fun z => h (by rw [z]; exact List.mem_cons_self)
      simpa using this
    rw [this]
    exact zip_none fun z => h (List.mem_cons_of_mem _ z)
theorem zip_snoc : ∀ {ns : List Str} {vs : List V} {f : Str} {v : V}, ns[vs.length]? = some f → ns.Nodup → putF f v (ns.zip vs) = ns.zip (vs ++ [v])
  | [], _, _, _, h, _ => by simp at h
  | n :: ns, [], f, v, h, _ => by
    simp at h
    subst h
    simp [putF]
  | n :: ns, u :: vs, f, v, h, nd => by
    have h' : ns[vs.length]? = some f := by simpa using h
    have hne : ¬ n = f := fun z => by
      subst z
      exact (List.nodup_cons.mp nd).1 (List.mem_of_getElem? h')
    rw [List.zip_cons_cons, List.cons_append, List.zip_cons_cons]
    show (if n = f then (n, v) :: _ else (n, u) :: putF f v (ns.zip vs)) = _
    rw [if_neg hne, zip_snoc h' (List.nodup_cons.mp nd).2]
/-- what the top must have of a class with these fields -/
structure KCls (K : PySem.W.Frag) (L : Kl) (c : Nat) : Prop where
  cl : Cls K (L.cls c)
  nd : (L.nm c).Nodup
  no : ∀ f ∈ L.nm c, NoAttr K (L.cls c) f
  few : (L.nm c).length < 1000
/-- o.f -/
theorem ev_fld (j : Nat) (T : KCls X.K L c) (ho : EV X L ρ o (.obj c ds)) (hf : (L.nm c)[j]? = some f) (hd : ds[j]? = some d) (hb : attributeBase o f X.env (eval o X.env) = eval o X.env := by rfl) : EV X L ρ (.Attribute o f pos) d := .mk fun σ G0 H0 G H st Q k =>
  wE_of (pe_fld pe_w hb) (ho.run σ G0 H0 G H st _ fun v G1 H1 e1 r1 => by
    cases r1 with
    | obj hq hl hr =>
      obtain ⟨u, h1, h2⟩ := hr.get hd
      exact ⟨_, _, _, _, u, rfl, e1.gh _ _ hq, T.cl, T.no f (List.mem_of_getElem? hf), zip_look T.nd hf h1, k u G1 H1 e1 h2⟩)
/-- a method of the class c: what it makes of the object and the data -/
structure Mt (P : Program) (w : World) (K : PySem.W.Frag) (mg : Str → Option Value) (base : Heap) (L : Kl) (c : Nat) (m : Str) (k : Nat) (C : List D → D → Prop) : Prop where
  ex : ∃ (f : Addr) (fd : FuncData) (ps : List Str), FnOk P w K mg base CX0 k f fd ps (spC K L C) ∧ Meth K (L.cls c) m f ∧ Binds K fd ps []
/-- o.m(..) -/
theorem ev_meth {k : Nat} {C : List D → D → Prop} (T : KCls X.K L c) (F : Mt X.prog X.w X.K X.mg X.base L c m k C) (hr : Room k X.A) (ho : EV X L ρ o (.obj c ds)) (ha : EVs X L ρ (e :: es) rs) (hc : C (.obj c ds :: rs) d) (hm : m ∉ L.nm c)
    (hst : starEach (e :: es) X.env = (false, eval e X.env) :: starEach es X.env := by rfl) (hpl : (backTo pos (starEach es X.env)).any (·.1) = false := by rfl) {pl : Sem Bool}
    (ht : eval (.Call (.Attribute o m apos) (e :: es) [] pos) X.env = (do
      let ov ← eval o X.env
      standAt apos.atName
      let (f, first) ← holding [ov] (getMethod ov m pl)
      callWith pos f first (backTo pos (starEach (e :: es) X.env)) (backToKw pos (keywordEach [] X.env))) := by rfl) : EV X L ρ (.Call (.Attribute o m apos) (e :: es) [] pos) d := .mk fun σ G0 H0 G H st Q q => by
  obtain ⟨f, fd, ps, F1, hm1, hb⟩ := F.ex
  refine wE_of (pe_meth pe_w T.cl hm1 F1 hr hb .nil pass0 pa_w hst hpl ht) (ho.run σ G0 H0 G H st _ fun v G1 H1 e1 r1 => ?_)
  cases r1 with
  | @obj x dx c' vs ds' hq hl hr1 =>
    refine ⟨x, dx, _, rfl, e1.gh _ _ hq, zip_none hm, ha.run σ G0 H0 G1 H1 (st.step e1) _ fun us G2 H2 e2 r2 => ?_⟩
    refine ⟨G2, .obj c ds :: rs, d, e2.gh, .cons (.obj (e2.gg _ _ hq) hl (hr1.mono e2.gg)) (by rw [List.append_nil]; exact r2), hc, fun z G3 H3 e3 r3 => q z G3 H3 ((e1.trans e2).trans e3) r3⟩
/-! ### __init__ -/
/-- what an __init__ makes of data: the fields of the new object -/
def spI (K : PySem.W.Frag) (L : Kl) (c : Nat) (C : List D → List D → Prop) : Sp := fun vs H Q _ => ∃ G ds rs x dx vs', vs = .ref x :: vs' ∧ H x = some (.ins (L.cls c) dx []) ∧ Same G H ∧ G x = none ∧ RpA K L G vs' ds ∧ C ds rs ∧
  ∀ G' H' us dx', Ext G (del H x) G' H' → G' x = none → H' x = some (.ins (L.cls c) dx' ((L.nm c).zip us)) → (L.nm c).length = us.length → RpA K L G' us rs → Q .non H'
/-- self.f = e, the next field of the object -/
theorem sv_fld (i : Nat) {x : Str} {px : Pos} {q : Addr} (T : KCls X.K L c) (hi : ρ[i]? = some (.ob q c ds)) (he : EV X L ρ e d) (hf : (L.nm c)[ds.length]? = some f) (h : SV X L (ρ.set i (.ob q c (ds ++ [d]))) rest E) (hN : X.N[i]? = some x := by rfl)
    (hv : Vis X.env.scope x := by first | exact Or.inl rfl | exact Or.inr (Or.inl rfl) | exact Or.inr (Or.inr rfl)) (hdb : (x == ("__debug__" : Str)) = false := by decide) (hcd : (x == ("__classdict__" : Str)) = false := by decide)
    (hs : swapsWith e (some (.Attribute (.Name x px) f pos')) pos.line X.env = pure false := by rfl) : SV X L ρ (.Assign [.Attribute (.Name x px) f pos'] e pos :: rest) E := .mk fun σ G0 H0 G H st => by
  refine wSs_cons (wS_of (ps_fld (pe_var hN hv hdb hcd) pe_w hs) (he.run σ G0 H0 G H st _ fun v G1 H1 e1 r1 => ?_))
  have st1 := st.step e1
  obtain ⟨vs, k1, ⟨dx, k2⟩, k3, k4, k5, k6⟩ := st1.sl i _ hi
  have hσ := join_some k1
  have hlen := k5.length
  have hf' : (L.nm c)[vs.length]? = some f := by rw [hlen]; exact hf
  refine ⟨_, hσ, q, _, dx, _, rfl, k2, T.cl, T.no f (List.mem_of_getElem? hf), ?_, ?_⟩
  · rw [List.length_zip]
    have := T.few
    omega
  · refine h.run σ G0 H0 G1 _ (st1.updO (r' := .ob q c (ds ++ [d])) hi trivial trivial hσ fun n1 n2 => ⟨vs ++ [v], rfl, ⟨dx, ?_⟩, n1, n2, k5.append (.cons r1 .nil), ?_⟩)
    · rw [upd_same, zip_snoc hf' T.nd]
    · have := (List.getElem?_eq_some_iff.mp hf).1
      rw [List.length_append]
      exact this
end
section
variable {P : Program} {w : World} {K : PySem.W.Frag} {mg : Str → Option Value} {base : Heap} {L : Kl} {c : Nat}
theorem stI {N : List Str} {x dx : Addr} {vs : List V} {ds : List D} {G H : Hp} (s : Same G H) (hx : H x = some (.ins (L.cls c) dx [])) (hg : G x = none) (r : RpA K L G vs ds) : StOk K L G (del H x) (.ob x c [] :: (ds.map Sl.v ++ List.replicate (N.length - (ds.length + 1)) Sl.no)) (L2.start N (.ref x :: vs)) G H where
  ext := ⟨.refl _, s, fun b u q => by
    by_cases z : b = x
    · subst z
      rw [del_same] at q
      cases q
    · rw [del_ne z] at q
      exact q, fun _ h => .inl h⟩
  sl := fun i y hy => by
    unfold L2.start
    cases i with
    | zero =>
      cases (Option.some.inj hy)
      exact ⟨[], rfl, ⟨dx, by rw [List.zip_nil_right]; exact hx⟩, hg, del_same, .nil, Nat.zero_le _⟩
    | succ i =>
      have hy' : (ds.map Sl.v ++ List.replicate (N.length - (ds.length + 1)) Sl.no)[i]? = some y := hy
      show SlOk K L _ G H ((vs.map some ++ List.replicate (N.length - (vs.length + 1)) none)[i]?.join) y
      by_cases h : i < ds.length
      · rw [List.getElem?_append_left (by rw [List.length_map]; exact h), List.getElem?_map] at hy'
        rw [List.getElem?_append_left (by rw [List.length_map, r.length]; exact h), List.getElem?_map]
        cases q : ds[i]? with
        | none => rw [q] at hy'; cases hy'
        | some d =>
          rw [q] at hy'
          cases hy'
          obtain ⟨v, h1, h2⟩ := r.get q
          rw [h1]
          exact ⟨v, rfl, h2⟩
      · rw [List.getElem?_append_right (by rw [List.length_map]; omega), List.getElem?_replicate] at hy'
        split at hy'
        · cases hy'; trivial
        · cases hy'
  len := by
    unfold L2.start
    simp only [List.length_cons, List.length_append, List.length_map, List.length_replicate, r.length]
    omega
  dist := fun i j p r1 r2 h1 h2 o1 o2 _ _ => by
    have only : ∀ (i : Nat) (r : Sl), (Sl.ob x c [] :: (ds.map Sl.v ++ List.replicate (N.length - (ds.length + 1)) Sl.no))[i]? = some r → isOwn r → i = 0 := fun i r h o => by
      cases i with
      | zero => rfl
      | succ i =>
        have hm := List.mem_of_getElem? (show (ds.map Sl.v ++ List.replicate (N.length - (ds.length + 1)) Sl.no)[i]? = some r from h)
        rcases List.mem_append.mp hm with z | z
        · obtain ⟨_, _, q⟩ := List.mem_map.mp z
          rw [← q] at o
          exact o.elim
        · rw [(List.mem_replicate.mp z).2] at o
          exact o.elim
    rw [only i r1 h1 o1, only j r2 h2 o2]
/-- THE RULE for an __init__ over data -/
theorem init_ok {x qual : Str} {st : Stmt} {f : Addr} {fd : FuncData} {N ps : List Str} {k : Nat} {C : List D → List D → Prop} (F : DefT K x qual st ps f fd) (S : FnScope N ps (defScope st)) (len : ∀ ds rs, C ds rs → ds.length + 1 = ps.length) (flen : ∀ ds rs, C ds rs → rs.length = (L.nm c).length)
    (hbody : ∀ (cdv : Value) (A : Around) (outer : List Env) (s : Shared) (H : Hp) (E : XK), Room k (A.deeper (envOfC qual (defScope st) s.heap.objs.size f cdv)) → ∀ (q : Addr) ds rs, C ds rs →
      SV (cxOf CX0 P w K mg base N qual (defScope st) f cdv A outer s H E).nox L (.ob q c [] :: (ds.map Sl.v ++ List.replicate (N.length - (ds.length + 1)) Sl.no)) (defBody st) { nx := fun ρ => ρ[0]? = some (.ob q c rs), rt := fun _ => False }) : FnOk P w K mg base CX0 (k + 1) f fd ps (spI K L c C) := by
  obtain ⟨oc, od, dV, kV, doc, pm, an, cdv, ct, osl, rfl, lk, hcd⟩ := F.ex
  refine fn_of lk hcd S (fun vs H Q E ⟨G, ds, rs, x, dx, vs', e, _, _, _, hr, hc, _⟩ => by rw [e, List.length_cons, hr.length]; exact len ds rs hc) fun A outer s H vs Q E hr ⟨G, ds, rs, x, dx, vs', e, hx, sm, hg, rp, hc, q⟩ => ⟨_, PSs.nox pss_w, ?_⟩
  subst e
  have hh := (hbody cdv A outer s H E hr x ds rs hc).run (L2.start N (.ref x :: vs')) G (del H x) G H (stI sm hx hg rp)
  refine wSs_mono ?_ hh
  refine ⟨?_, ?_, ?_, ?_⟩
  · rintro σ' H' ⟨ρ', G', s', e⟩
    obtain ⟨us, k1, ⟨dx', k2⟩, k3, k4, k5, k6⟩ := s'.sl 0 _ e
    exact q G' H' us dx' s'.ext k3 k2 (by rw [k5.length, flen ds rs hc]) k5
  · rintro v H' (⟨d, G', x1, r1, e⟩ | ⟨_, _, _, _, _, _, _, _, _, _, e⟩)
    · exact e.elim
    · exact e.elim
  · rintro σ' H' ⟨_, _, _, q⟩
    exact q.elim
  · rintro σ' H' ⟨_, _, _, q⟩
    exact q.elim
/-- a class of the module with its __init__: C(..) makes of data an object with these fields (defaults filled up) -/
structure Mkr (P : Program) (w : World) (K : PySem.W.Frag) (mg : Str → Option Value) (base : Heap) (L : Kl) (x : Str) (c : Nat) (k : Nat) (C : List D → List D → Prop) : Prop where
  ex : ∃ (f : Addr) (fd : FuncData) (ps : List Str) (C0 : List D → List D → Prop) (dvs : List V) (us : List Value) (dds : List D), FnOk P w K mg base CX0 k f fd ps (spI K L c C0) ∧ Mk K (L.cls c) f ∧ mg x = some (.ref (L.cls c)) ∧ Binds K fd ps us ∧ Vals dvs us ∧
    (∀ G, RpA K L G dvs dds) ∧ ∀ ds rs, C ds rs → C0 (ds ++ dds) rs
end
section
variable {X : Cx} {L : Kl} {ρ : List Sl} {e : Expr} {es : List Expr} {ds rs : List D} {pos p : Pos} {c : Nat}
theorem made_ext {G1 H1 G' H' : Hp} {x dx dx' : Addr} {us : List V} (s : Same G1 H1) (hx : H1 x = none) (hdx : H1 dx = none) (hne : dx ≠ x) (e : Ext G1 (del (upd (upd H1 dx (.own x)) x (.ins (L.cls c) dx [])) x) G' H') (hg : G' x = none) (hh : H' x = some (.ins (L.cls c) dx' ((L.nm c).zip us))) :
    Ext G1 H1 (upd G' x (.ins (L.cls c) dx' ((L.nm c).zip us))) H' := by
  have sub : Same H1 (del (upd (upd H1 dx (.own x)) x (.ins (L.cls c) dx [])) x) := fun b u q => by
    have z1 : b ≠ x := ne_of_none q hx
    rw [del_ne z1, upd_ne z1, upd_ne (ne_of_none q hdx)]
    exact q
  refine ⟨e.gg.trans (same_new hg _), fun b u q => ?_, sub.trans e.hh, fun b hb => ?_⟩
  · by_cases z : b = x
    · subst z
      rw [upd_same] at q
      rw [hh]
      exact q
    · rw [upd_ne z] at q
      exact e.gh _ _ q
  · by_cases z : b = x
    · subst z
      exact .inr hx
    · rw [upd_ne z] at hb
      rcases e.nw b hb with q | q
      · exact .inl q
      · exact .inr (sub.free q)
theorem ev_make {x : Str} {k : Nat} {C : List D → List D → Prop} (F : Mkr X.prog X.w X.K X.mg X.base L x c k C) (hr : Room (k + 1) X.A) (ha : EVs X L ρ (e :: es) ds) (hc : C ds rs) (hg : Gl X x := by rfl) (hdb : (x == ("__debug__" : Str)) = false := by decide)
    (he : starEach (e :: es) X.env = (false, eval e X.env) :: starEach es X.env := by rfl) (hpl : (backTo pos (starEach es X.env)).any (·.1) = false := by rfl) : EV X L ρ (.Call (.Name x p) (e :: es) [] pos) (.obj c rs) := .mk fun σ G0 H0 G H st Q k => by
  obtain ⟨f, fd, ps, C0, dvs, us, dds, F1, M, hm, hb, hv, hdd, hC⟩ := F.ex
  refine wE_of (pe_make M F1 hr hg hm hb hv pass0 pa_w hdb he hpl) (ha.run σ G0 H0 G H st _ fun vs G1 H1 e1 r1 => fun x' dx' nx ndx nex => ?_)
  refine ⟨G1, ds ++ dds, rs, x', dx', vs ++ dvs, rfl, upd_same, ?_, e1.gh.free nx, r1.append (hdd G1), hC ds rs hc, fun G' H' us' dx'' ex hgx hhx hlx hrx => ⟨rfl, ?_⟩⟩
  · exact (e1.gh.trans (same_new ndx _)).trans (same_new (by rw [upd_ne nex.symm]; exact nx) _)
  · have ex2 := made_ext (L := L) (c := c) e1.gh nx ndx nex ex hgx hhx
    exact k _ _ _ (e1.trans ex2) (.obj upd_same hlx (hrx.mono (same_new hgx _)))
end
end Z

namespace Z
open PySem PySem.Spec PyProof.Rows L2

/-! ### a class without an __init__ -/
section
variable {X : Cx} {L : Kl} {ρ : List Sl} {pos p : Pos} {c : Nat} {pins : List (Addr × Obj)} {σ : L2.St} {H : Hp} {s : Shared}
end
end Z

namespace Z
open PySem PySem.Spec PyProof.Rows L2

/-! ### list(range(lo, hi)), of numbers of any size -/
section
variable {pr : Program} {wd : World} {B : Around} {er : Value → Shared → Prop} {u : Shared}
theorem extendLong {R : Result → Shared → Prop} {q : Addr} {x y z : Int} {t1 t2 t3 : Tok} {n : Nat} (hb : B.handled = none) (hq : IsRange u.heap q x y z t1 t2 t3) (hbig : Builtin.Range.small x y z = false) (hsz : Builtin.Range.rangeSize x y z = n) (hfew : n ≤ 2 ^ 24)
    (T : Addr) (ans : Value) (k0 : Nat) (hT : u.heap.get? T = some { cls := .type "list", data := .seq #[] k0 })
    (fin : ∀ g tk its k, (∀ b o, b ≠ T → u.heap.get? b = some o → g.get? b = some o) → g.get? T = some { cls := .type "list", dict := none, data := .seq its k, slots := #[] } → ItemsOf (fun i v => ∃ t, v = .int (x + i * z) t) its n → R (.ok (.ret ans)) { u with heap := g, toks := tk }) :
    wpAny (model pr wd) B.in1 (Builtin.List.listExtendWith (.ref T) (.ref q) ans) (fun w u' => match w with | .done f => R (.ok f) u' | .again c => c.quiet = true ∧ codeAny (model pr wd) B c R u') (fun e u' => R (.error e) u') u := by
  have n1 : T ≠ q := fun e => by rw [e, hq] at hT; simp at hT
  have n2 : T ≠ u.heap.objs.size := Nat.ne_of_lt (Heap.lt_size hT)
  have W := (Walks.longrange (prog := pr) (w := wd) (A := B.in1) hb u.heap.objs.size x z n).toS
  have go : ∀ (g : Heap) (k1 tk : Nat), IsLongIter g u.heap.objs.size (x + ((0 : Nat) : Int) * z) ((n : Int) - ((0 : Nat) : Int)) z → (∀ b o, b ≠ T → u.heap.get? b = some o → g.get? b = some o) → g.get? T = some { cls := .type "list", data := .seq #[] k1 } →
      codeAny (model pr wd) B (.builtin "list.extend.loop" ⟨[.ref T, .ref u.heap.objs.size, ans], []⟩) R { u with heap := g, toks := tk } := by
    intro g k1 tk hi hk hT1
    refine codeAny_extend_loopS W (by rw [sizeLine_eq]; omega) T (fun hm => n2 (List.mem_singleton.mp hm)) ans n 0 _ #[] k1 rfl (Nat.zero_le _) hi hT1 (ItemsOf.nil _) fun u' its k' mv hT' hits => ?_
    rw [Moved.eq_with mv]
    refine fin u'.heap u'.toks its k' (fun b o hne e => mv.heap b o (fun hm => ?_) (hk b o hne e)) hT' hits
    rcases List.mem_cons.mp hm with e' | hm
    · exact hne e'
    · have := Heap.lt_size e
      rw [List.mem_singleton.mp hm] at this
      exact Nat.lt_irrefl _ this
  unfold Builtin.List.listExtendWith
  refine wpAny_bind (wpAny_typeOf (T := "range") ⟨_, hq, rfl⟩ ?_)
  have c1 : Builtin.List.listSameRef (.ref T) (.ref q) = false := by simp [Builtin.List.listSameRef, n1]
  simp only [c1, show (Value.type "range" == Value.type "list") = false by decide, show (Value.type "range" == Value.type "tuple") = false by decide, Bool.or_false, Bool.false_eq_true, if_false]
  refine wpAny_bind (wpAny_pyIter_longrange hq hbig ?_)
  refine wpAny_bind (wpAny_holding (wpAny_hint_range (n := n) (Heap.get?_push_of_some _ hq) hsz hfew ?_))
  have hi1 : IsLongIter (u.heap.push { cls := .type "longrange_iterator", data := .fields #[rawInt x, rawInt (Builtin.Range.rangeSize x y z), rawInt z] }) u.heap.objs.size (x + ((0 : Nat) : Int) * z) ((n : Int) - ((0 : Nat) : Int)) z := by
    show IsLongIter _ _ _ _ _
    rw [hsz]
    simpa using Heap.get?_push_size _ rfl
  have hT1 := Heap.get?_push_of_some { cls := .type "longrange_iterator", data := .fields #[rawInt x, rawInt (Builtin.Range.rangeSize x y z), rawInt z] } hT
  refine wpAny_ite_split (fun _ => ?_) (fun _ => wpAny_pure ⟨plainId_quiet F.plain_extend_loop _, go _ k0 _ hi1 (fun b o _ e => Heap.get?_push_of_some _ e) hT1⟩)
  refine wpAny_bind (wpAny_rule (wpAny_bind ?_))
  show wpAny _ _ (updateSeq T (·.push .none) >>= fun _ => updateSeq T (·.pop)) _ _ _
  refine wpAny_bind (wpAny_updateSeq hT1 rfl ?_)
  have hT2 := Heap.get?_update_self (Obj.mapSeq (·.push Value.none)) hT1 rfl
  refine wpAny_updateSeq (hz := by seq_fits) hT2 rfl ?_
  have hT3 := Heap.get?_update_self (Obj.mapSeq (·.pop)) hT2 rfl
  refine wpAny_pure ⟨plainId_quiet F.plain_extend_loop _, go _ _ _ ?_ (fun b o hne e => ?_) hT3⟩
  · exact (Heap.get?_update_other _ _ n2).trans ((Heap.get?_update_other _ _ n2).trans hi1)
  · exact (Heap.get?_update_other _ _ hne.symm).trans ((Heap.get?_update_other _ _ hne.symm).trans (Heap.get?_push_of_some _ e))
theorem initLong {R : Result → Shared → Prop} {q : Addr} {x y z : Int} {t1 t2 t3 : Tok} {n : Nat} (hb : B.handled = none) (hq : IsRange u.heap q x y z t1 t2 t3) (hbig : Builtin.Range.small x y z = false) (hsz : Builtin.Range.rangeSize x y z = n) (hfew : n ≤ 2 ^ 24)
    (T : Addr) (hT : u.heap.get? T = some { cls := .type "list", data := .seq #[] })
    (fin : ∀ g tk its k, (∀ b o, b ≠ T → u.heap.get? b = some o → g.get? b = some o) → g.get? T = some { cls := .type "list", dict := none, data := .seq its k, slots := #[] } → ItemsOf (fun i v => ∃ t, v = .int (x + i * z) t) its n → R (.ok (.ret .none)) { u with heap := g, toks := tk }) :
    wpAny (model pr wd) B.in1 (Builtin.«list.__init__» ⟨[.ref T, .ref q], []⟩) (fun w u' => match w with | .done f => R (.ok f) u' | .again c => c.quiet = true ∧ codeAny (model pr wd) B c R u') (fun e u' => R (.error e) u') u := by
  have n1 : T ≠ q := fun e => by rw [e, hq] at hT; simp at hT
  show wpAny _ _ (do
    let was ← Builtin.List.listItems (.ref T)
    Builtin.List.listUpdate (.ref T) (fun _ => #[])
    letGo was.toList.reverse
    Builtin.List.listExtendWith (.ref T) (.ref q) .none) _ _ u
  refine wpAny_bind ?_
  unfold Builtin.List.listItems
  refine wpAny_bind (wpAny_seqItems hT rfl (wpAny_pure ?_))
  show wpAny _ _ (updateSeq T (fun _ => #[]) >>= fun _ => letGo (#[] : Array Value).toList.reverse >>= fun _ => Builtin.List.listExtendWith (.ref T) (.ref q) .none) _ _ u
  refine wpAny_bind (wpAny_updateSeq hT rfl ?_)
  have hT2 := Heap.get?_update_self (Obj.mapSeq (fun _ => (#[] : Array Value))) hT rfl
  have keep : ∀ b o, b ≠ T → u.heap.get? b = some o → (u.heap.update T (Obj.mapSeq (fun _ => (#[] : Array Value)))).get? b = some o := fun b o hne e => (Heap.get?_update_other _ _ hne.symm).trans e
  refine wpAny_bind (wpAny_letGo (extendLong hb (keep q _ n1.symm hq) hbig hsz hfew T .none _ hT2 fun g tk its k hk hT' hits => ?_))
  exact fin g tk its k (fun b o hne e => hk b o hne (keep b o hne e)) hT' hits
theorem listOfRange {Q : Value → Shared → Prop} {q : Addr} {x y z : Int} {t1 t2 t3 : Tok} {n : Nat} (hb : B.handled = none) (hq : IsRange u.heap q x y z t1 t2 t3) (hsz : Builtin.Range.rangeSize x y z = n) (hfew : n ≤ 2 ^ 24)
    (fin : ∀ g tk its k, (∀ b o, u.heap.get? b = some o → g.get? b = some o) → g.get? u.heap.objs.size = some { cls := .type "list", dict := none, data := .seq its k, slots := #[] } → ItemsOf (fun i v => ∃ t, v = .int (x + i * z) t) its n → Q (.ref u.heap.objs.size) { u with heap := g, toks := tk }) :
    wpAny (model pr wd) B (call (.type "list") [.ref q]) Q er u := by
  cases hs : Builtin.Range.small x y z with
  | true => exact call_list_range hb hq hs hsz hfew fin
  | false =>
    refine callType_codes (Q₁ := fun v u1 => v = .ref u.heap.objs.size ∧ u1 = { u with heap := u.heap.push { cls := .type "list", data := .seq #[] } }) F.called_list (F.typeCall_list_1 _) F.entry_list_init (code_list_new _ ⟨rfl, rfl⟩) fun v u1 h1 => ?_
    obtain ⟨rfl, rfl⟩ := h1
    have hT : (u.heap.push { cls := .type "list", data := .seq #[] }).get? u.heap.objs.size = some { cls := .type "list", data := .seq #[] } := Heap.get?_push_size _ rfl
    refine ⟨⟨_, hT, rfl⟩, F.args_list_init_2 _ _, initLong (B := B.in1) hb (Heap.get?_push_of_some _ hq) hs hsz hfew _ hT fun g tk its k hk hT' hits => ?_⟩
    exact ⟨rfl, fin g tk its k (fun b o e => hk b o (Nat.ne_of_lt (Heap.lt_size e)) (Heap.get?_push_of_some _ e)) hT' hits⟩
end

theorem vals_items {a : Int} {its : Array Value} {n : Nat} (h : ItemsOf (fun i v => ∃ t, v = .int (a + i * 1) t) its n) : Vals (((List.range n).map fun i : Nat => a + (i : Int)).map V.int) its.toList := by
  have key : ∀ (l : List Value) (k : Nat), (∀ j v, l[j]? = some v → ∃ t, v = Value.int (a + ((k + j : Nat) : Int)) t) → Vals (((List.range' k l.length).map fun i : Nat => a + (i : Int)).map V.int) l := by
    intro l
    induction l with
    | nil => intro k _; exact .nil
    | cons v r ih =>
      intro k h
      rw [List.length_cons, List.range'_succ, List.map_cons, List.map_cons]
      refine .cons ?_ (ih (k + 1) fun j w hj => ?_)
      · obtain ⟨t, e⟩ := h 0 v rfl
        exact ⟨t, e⟩
      · obtain ⟨t, e⟩ := h (j + 1) w (by simpa using hj)
        exact ⟨t, by rw [e, show k + (j + 1) = k + 1 + j by omega]⟩
  have h0 := key its.toList 0 (fun j v hj => by
    obtain ⟨t, e⟩ := h.2 j v (by simpa using hj)
    exact ⟨t, by rw [e, Int.mul_one, Nat.zero_add]⟩)
  have hl : its.toList.length = n := by rw [Array.length_toList]; exact h.1
  rw [hl, ← List.range_eq_range'] at h0
  exact h0
section
variable {X : Cx} {L : Kl} {ρ : List Sl} {e a b c o tg : Expr} {es rs : List Expr} {d da db : D} {ds : List D} {pos p pos' p2 p3 : Pos} {E : En} {rest body els : List Stmt} {t u : Bool}
abbrev intsFrom (lo : Int) (n : Nat) : List Int := (List.range n).map fun i : Nat => lo + (i : Int)
theorem call_rngO : CallR X (.type "range") (fun xs H Q => ∃ i j : Int, xs = [.int i, .int j] ∧ ∀ q, H q = none → Q (.ref q) (upd H q (.rng i j))) := by
  intro pins s σ H xs us Q I r ⟨i, j, e, q⟩
  subst e
  obtain ⟨v, w', rfl, r1, r2⟩ := vals2 r
  obtain ⟨t1, rfl⟩ := r1
  obtain ⟨t2, rfl⟩ := r2
  refine call_range_2 ⟨.ref s.heap.objs.size, _, I.laid (t' := s.toks + 1) (o := .rng i j) (fun b ob hb => Heap.get?_push_of_some _ hb) (Nat.le_refl _) ?_, rfl, q _ (I.hok.fresh (Nat.le_refl _))⟩
  exact ⟨_, _, _, Heap.get?_push_size _ rfl⟩
theorem call_listR (hc : X.calm = true) : CallR X (.type "list") (fun xs H Q => ∃ q i j, xs = [.ref q] ∧ H q = some (.rng i j) ∧ (j - i).toNat ≤ 2 ^ 24 ∧ ∀ l, H l = none → Q (.ref l) (upd H l (.lst ((intsFrom i (j - i).toNat).map V.int)))) := by
  intro pins s σ H xs us Q I r ⟨q, i, j, e, hq, hn, k⟩
  subst e
  obtain ⟨v, rfl, rx⟩ := vals1 r
  cases rx
  obtain ⟨t1, t2, t3, ho⟩ := I.hok q _ hq
  refine listOfRange (n := (j - i).toNat) (I.ok.hd hc) ho (by rw [rangeSize_one]; split <;> omega) hn fun g tk its k' kp e hits => ?_
  refine ⟨.ref s.heap.objs.size, _, I.laid (t' := tk) (o := .lst ((intsFrom i (j - i).toNat).map V.int)) kp (Nat.le_refl _) ?_, rfl, k _ (I.hok.fresh (Nat.le_refl _))⟩
  refine ⟨?_, its.toList, k', vals_items hits, by simpa using e⟩
  rw [List.length_map, List.length_map, List.length_range, sizeLine_eq]
  omega
theorem el_listRange {i j : Int} {x y : Str} (ha : EV X L ρ a (.int i)) (hb : EV X L ρ b (.int j)) (hn : (j - i).toNat ≤ 2 ^ 24) (hmx : X.mg x = none) (hmy : X.mg y = none) (hx : x = "list" := by rfl) (hy : y = "range" := by rfl) (hgx : Gl X x := by rfl) (hgy : Gl X y := by rfl) (hc : X.calm = true := by rfl)
    (he : starEach [a, b] X.env = (false, eval a X.env) :: starEach [b] X.env := by rfl) (he2 : starEach [b] X.env = (false, eval b X.env) :: starEach [] X.env := by rfl) (hpl : (backTo p3 (starEach [b] X.env)).any (·.1) = false := by rfl) :
    EL X L ρ (.Call (.Name x p) [.Call (.Name y p2) [a, b] [] p3] [] pos) ((intsFrom i (j - i).toNat).map .int) := .mk fun σ G0 H0 G H st Q k => by
  subst hx hy
  refine wE_of (pe_callTy (call_listR hc) hgx hmx (by decide +kernel) (pa_cons (pe_callTy call_rngO hgy hmy (by decide +kernel) (pa_cons pe_w (pa_cons pe_w pa_nil he2) he) (he := he) (hpl := hpl)) pa_nil rfl)) ?_
  refine ha.run σ G0 H0 G H st _ fun v G1 H1 e1 r1 => hb.run σ G0 H0 G1 H1 (st.step e1) _ fun w' G2 H2 e2 r2 => ?_
  cases r1
  cases r2
  refine ⟨i, j, rfl, fun q hq => ⟨q, i, j, rfl, upd_same, hn, fun l hl => ?_⟩⟩
  have hne : l ≠ q := fun z => by rw [z, upd_same] at hl; cases hl
  have hl2 : H2 l = none := by rw [upd_ne hne] at hl; exact hl
  have e3 := e1.trans e2
  have hG2 : G2 l = none := e3.gh.free hl2
  refine k l _ G2 _ ⟨e3.gg, (e3.gh.trans (same_new hq _)).trans (same_new hl _), (e3.hh.trans (same_new hq _)).trans (same_new hl _), e3.nw⟩ (e3.hh.free hl2) hG2 upd_same (RpA.ints _)
/-! ### for over range(lo, hi); range in a comprehension -/
theorem intsFrom_len (lo : Int) (n : Nat) : ((intsFrom lo n).map D.int).length = n := by rw [List.length_map, List.length_map, List.length_range]
theorem intsFrom_at {lo : Int} {n i : Nat} (h : i < n) : ((intsFrom lo n).map D.int)[i]? = some (.int (lo + i)) := by
  rw [List.getElem?_map, List.getElem?_map, List.getElem?_range h]
  rfl
theorem src_itr {lo : Int} {n : Nat} {G H G1 H1 : Hp} (e1 : Ext G H G1 H1) : SrcP X L G H ((intsFrom lo n).map .int) (Itr lo n) H1 := by
  refine ⟨G1, e1, fun H' i _ hi => ?_, fun G' H' H'' i y hi sm sm' hy => ?_, fun H' i _ hi => ?_⟩
  · rw [intsFrom_len] at hi
    exact hi
  · rw [intsFrom_len] at hi
    obtain ⟨rfl, rfl⟩ := hy
    exact ⟨G', _, .refl sm', intsFrom_at hi, .int _⟩
  · rw [intsFrom_len] at hi
    exact hi
theorem src_range2 {x : Str} {m n : Int} (ha : EV X L ρ a (.int m)) (hb : EV X L ρ b (.int n)) (hm' : -(2 ^ 62) ≤ m ∧ m < 2 ^ 62) (hn : -(2 ^ 62) ≤ n ∧ n < 2 ^ 62) (hm : X.mg x = none) (hx : x = "range" := by rfl) (hgl : Gl X "range" := by rfl) (hst : starEach [a, b] X.env = [(false, eval a X.env), (false, eval b X.env)] := by rfl) (hst2 : starEach [b] X.env = [(false, eval b X.env)] := by rfl) :
    Src X L ρ tg (.Call (.Name x p) [a, b] [] p2) ((intsFrom m (n - m).toNat).map .int) := .mk fun σ G0 H0 G H st pins s I => by
  subst hx
  refine pi_range2 hgl hm (pa_cons pe_w (pa_cons pe_w pa_nil hst2) (by rw [hst, hst2])) hst hst2 pins s σ H _ I (ha.run σ G0 H0 G H st _ fun v G1 H1 e1 r1 => hb.run σ G0 H0 G1 H1 (st.step e1) _ fun w' G2 H2 e2 r2 => ?_)
  cases r1
  cases r2
  exact ⟨m, n, rfl, ⟨hm'.1, hm'.2, hn.1, hn.2⟩, src_itr (e1.trans e2)⟩
/-- for x in range(m, n) -/
theorem sv_for_range2 {f : D → List Sl → List Sl} {ok : D → Prop} {x : Str} {m n : Int} (Iv : Nat → List Sl → Prop) (ha : EV X L ρ a (.int m)) (hb : EV X L ρ b (.int n)) (hm' : -(2 ^ 62) ≤ m ∧ m < 2 ^ 62) (hn : -(2 ^ 62) ≤ n ∧ n < 2 ^ 62) (hm : X.mg x = none) (hx : x = "range") (hg : GV X L tg f ok) (hok : ∀ i : Int, ok (.int i)) (h0 : Iv 0 ρ)
    (hs : ∀ (i : Nat) (ρ' : List Sl), i < (n - m).toNat → Iv i ρ' → SV X L (f (.int (m + i)) ρ') body { nx := Iv (i + 1), ct := Iv (i + 1), bk := fun ρ'' => SV X L ρ'' rest E, rt := E.rt, rl := E.rl })
    (hd : ∀ ρ', Iv (n - m).toNat ρ' → SV X L ρ' rest E) (hgl : Gl X "range" := by rfl) (hst : starEach [a, b] X.env = [(false, eval a X.env), (false, eval b X.env)] := by rfl) (hst2 : starEach [b] X.env = [(false, eval b X.env)] := by rfl) (hp : PassesOwn (model X.prog X.w) X.A X.env X.xe := by exact PassesOwn.never) (hc : X.calm = true := by rfl)
    (hfs : ∀ x, foldedSetIterable (.Call (.Name "range" p) [a, b] [] p2) X.env x = pure x := by intro _; rfl) : SV X L ρ (.For tg (.Call (.Name x p) [a, b] [] p2) body [] pos :: rest) E := .mk fun σ G0 H0 G H st => by
  subst hx
  obtain ⟨g, pg, qg⟩ := hg
  refine wSs_cons (wS_of (ps_for hp hc (pi_range2 hgl hm (pa_cons pe_w (pa_cons pe_w pa_nil hst2) (by rw [hst, hst2])) hst hst2) pg pss_w hfs) (ha.run σ G0 H0 G H st _ fun v Ga Ha ea ra => hb.run σ G0 H0 Ga Ha (st.step ea) _ fun v' G1 H1 eb rb => ?_))
  cases ra
  cases rb
  have st1 := st.step (ea.trans eb)
  refine ⟨m, n, rfl, ⟨hm'.1, hm'.2, hn.1, hn.2⟩, for_range (lo := m) (n := (n - m).toNat) (fun i σ' H' => ∃ ρ' G', StOk X.K L G1 H0 ρ' σ' G' H' ∧ Iv i ρ') ⟨ρ, G1, st1.rebase, h0⟩ ?_ ?_⟩
  · rintro i σ' H' hi ⟨ρ', G', s', iv⟩
    refine qg (.int (m + i)) ρ' σ' G1 H0 G' H' _ (hok _) s' (.int _) _ fun σ2 s2 => ?_
    have hh := (hs i ρ' hi iv).run σ2 G1 H0 G' H' s2
    refine wSs_mono ?_ hh
    refine ⟨fun _ _ q => q, ?_, ?_, fun _ _ q => q⟩
    · rintro v' H'' q
      exact retPre st1.ext q
    · rintro σ3 H3 ⟨ρ3, G3, s3, q3⟩
      exact q3.run σ3 G0 H0 G3 H3 (s3.unbase st1.ext)
  · rintro σ' H' ⟨ρ', G', s', iv⟩
    exact (hd ρ' iv).run σ' G0 H0 G' H' (s'.unbase st1.ext)
/-! ### while -/
theorem sv_while {cnd : Expr} (W : Nat → List Sl → Prop) {m0 : Nat} (h0 : W m0 ρ)
    (hs : ∀ (m : Nat) (ρ' : List Sl), W m ρ' → ∃ t, TV X L ρ' cnd t ∧ (t = true → SV X L ρ' body { nx := fun ρ'' => ∃ m', m' < m ∧ W m' ρ'', ct := fun ρ'' => ∃ m', m' < m ∧ W m' ρ'', bk := fun ρ'' => SV X L ρ'' rest E, rt := E.rt, rl := E.rl }) ∧ (t = false → SV X L ρ' rest E))
    (hp : PassesOwn (model X.prog X.w) X.A X.env X.xe := by exact PassesOwn.never) : SV X L ρ (.While cnd body [] pos :: rest) E := .mk fun σ G0 H0 G H st => by
  refine wSs_cons (wS_of (ps_while hp pt_w pss_w) ⟨fun m σ' H' => ∃ ρ' G', StOk X.K L G0 H0 ρ' σ' G' H' ∧ W m ρ', ⟨m0, ρ, G, st, h0⟩, ?_⟩)
  rintro m σ1 H1 ⟨ρ1, G1, st1, w1⟩
  obtain ⟨t, hc, ht, hf⟩ := hs m ρ1 w1
  refine hc.run σ1 G0 H0 G1 H1 st1 _ fun G2 H2 e2 => ?_
  cases t with
  | true =>
    rw [if_pos rfl]
    refine ⟨fun σ' H' => ∃ ρ' G', StOk X.K L G0 H0 ρ' σ' G' H' ∧ ∃ m', m' < m ∧ W m' ρ', ?_, ?_⟩
    · rintro σ' H' ⟨ρ', G', s', m', hm', w'⟩
      exact ⟨m', hm', ρ', G', s', w'⟩
    · have hh := (ht rfl).run σ1 G0 H0 G2 H2 (st1.step e2)
      refine wSs_mono ?_ hh
      refine ⟨fun _ _ q => q, fun _ _ q => q, ?_, fun _ _ q => q⟩
      rintro σ3 H3 ⟨ρ3, G3, s3, q3⟩
      exact q3.run σ3 G0 H0 G3 H3 s3
  | false =>
    rw [if_neg (by decide)]
    exact (hf rfl).run σ1 G0 H0 G2 H2 (st1.step e2)
/-! ### // by a divisor of many figures -/
def CDivB (_ j : Int) : Prop := 0 < j ∧ j < 2 ^ 1024
theorem op_fdivB : OpR X (binaryOp .FloorDiv) (rI CDivB fun i j => .int (i / j)) := opI fun i j _ _ _ _ _ hc q => by
  have h1 : (0 : Int) < j := hc.1
  have h2 : j < 2 ^ 1024 := hc.2
  have h3 : j.natAbs.log2 < 9000 := by
    have h4 : j.natAbs < 2 ^ 1024 := by omega
    have : j.natAbs.log2 < 1024 := (Nat.log2_lt (by omega)).mpr h4
    omega
  exact floordiv_int (by omega) (by rw [Int.fdiv_eq_ediv_of_nonneg i (by omega)]; exact q) (.inl (PyProof.noPylong_of_log2 h3))
theorem ev_fdivB {i j : Int} (ha : EV X L ρ a (.int i)) (hb : EV X L ρ b (.int j)) (h1 : 0 < j) (h2 : j < 2 ^ 1024) : EV X L ρ (.BinOp a .FloorDiv b pos) (.int (i / j)) := ev_op op_fdivB (op2C (f := fun i j => i / j) ⟨h1, h2⟩) ha hb
/-- products of numbers of some hundred figures -/
theorem mulB {i j : Int} (h1 : -(2 ^ 1024) < i) (h2 : i < 2 ^ 1024) (h3 : -(2 ^ 1024) < j) (h4 : j < 2 ^ 1024) : IntMulOk i j := by
  have hb : ∀ k : Int, -(2 ^ 1024) < k → k < 2 ^ 1024 → Builtin.Int.intBits k ≤ 1024 := fun k a b => by
    unfold Builtin.Int.intBits
    split
    · exact Nat.zero_le _
    · have hn : k.natAbs < 2 ^ 1024 := by omega
      have : k.natAbs.log2 < 1024 := by
        rcases Nat.eq_zero_or_pos k.natAbs with h0 | hp
        · rw [h0]; decide
        · exact (Nat.log2_lt (Nat.ne_of_gt hp)).mpr hn
      omega
  exact PyProof.Rows.mulOk_of_bits (hb i h1 h2) (hb j h3 h4) (by decide)
/-! ### t < u of cells -/
/-! ### x.extend(a new list), x of the def's own -/
theorem sv_extend (i : Nat) {x : Str} {apos cpos px : Pos} {ds' : List D} (hi : ρ[i]? = some (.own ds)) (he : EL X L ρ e ds') (hl : ds.length + ds'.length ≤ sizeLine) (h : SV X L (ρ.set i (.own (ds ++ ds'))) rest E) (hN : X.N[i]? = some x := by rfl)
    (hv : Vis X.env.scope x := by first | exact Or.inl rfl | exact Or.inr (Or.inl rfl) | exact Or.inr (Or.inr rfl)) (hd : (x == ("__debug__" : Str)) = false := by decide) (hcd : (x == ("__classdict__" : Str)) = false := by decide)
    (hbase : attributeBase (.Name x px) "extend" X.env (eval (.Name x px) X.env) = eval (.Name x px) X.env := by rfl)
    (hfew : ((backTo cpos (starEach [e] X.env)).all (fun x => !x.1) && (backToKw cpos (keywordEach [] X.env)).all (fun x => x.1.isSome)
      && decide (([e] : List Expr).length + ([] : List Keyword).length + (if ([] : List Keyword).isEmpty then 0 else 1) < 30)) = true := by rfl)
    (hline : (apos.endLine == cpos.line) = true := by rfl) (hst : starEach [e] X.env = [(false, eval e X.env)] := by rfl) (hpl : (backTo cpos (starEach [] X.env)).any (·.1) = false := by rfl)
    (hsw : swapsWith (.Call (.Attribute (.Name x px) "extend" apos) [e] [] cpos) none pos.line X.env = pure false := by rfl) :
    SV X L ρ (.Expr (.Call (.Attribute (.Name x px) "extend" apos) [e] [] cpos) pos :: rest) E := .mk fun σ G0 H0 G H st => by
  obtain ⟨q, vs, h1, h2, h3, h4, h5⟩ := st.sl i _ hi
  have hσ := join_some h1
  refine wSs_cons (wS_of (ps_expr (pe_bm PySem.F.plainAttrs_list PySem.F.slot_list_extend PySem.F.type_list_extend mt_extend (pe_var hN hv hd hcd) (pa_cons pe_w pa_nil hst) hbase hfew hline hst hpl) hsw) ?_)
  refine ⟨_, hσ, .inl ⟨rfl, _, SqL.of h2⟩, he.run σ G0 H0 G H st _ fun l ws G1 H1 e1 l1 l2 l3 r1 => ?_⟩
  have st1 := st.step e1
  obtain ⟨q', vs', k1, k2, k3, k4, k5⟩ := st1.sl i _ hi
  have hσ' := join_some k1
  rw [hσ] at hσ'
  cases hσ'
  refine ⟨q, l, vs', ws, rfl, rfl, k2, l3, by rw [k5.length, r1.length]; exact hl, ?_⟩
  exact h.run σ G0 H0 G1 _ (st1.updO (r' := .own (ds ++ ds')) hi trivial trivial hσ fun n1 n2 => ⟨q, _, rfl, upd_same, n1, n2, k5.append r1⟩)
end
end Z

namespace M
/-- the two numbers of the six ways -/
def wx (k : Int) : Int := if k = 0 then 1 else if k = 1 then 0 else if k = 2 then -1 else if k = 3 then -1 else if k = 4 then 0 else 1
def wy (k : Int) : Int := if k = 0 then 0 else if k = 1 then 1 else if k = 2 then 1 else if k = 3 then 0 else if k = 4 then -1 else -1
def ab (i : Int) : Int := if i < 0 then -i else i
def mx (i j k : Int) : Int := max i (max j k)
/-- the distance of two cells whose difference is (g, h) -/
def dist (g h : Int) : Int := mx (ab g) (ab h) (ab (g + h))
def sumX (l : List Int) : Int := (l.map wx).sum
def sumY (l : List Int) : Int := (l.map wy).sum
def Ways (l : List Int) : Prop := ∀ k ∈ l, 0 ≤ k ∧ k < 6
theorem way_cases {k : Int} (h : 0 ≤ k ∧ k < 6) : k = 0 ∨ k = 1 ∨ k = 2 ∨ k = 3 ∨ k = 4 ∨ k = 5 := by omega
theorem dist_nonneg (g h : Int) : 0 ≤ dist g h := by
  unfold dist mx ab
  split <;> split <;> split <;> omega
end M

namespace M
/-! ### the nearest whole numbers, the nearest cells -/
def nn (p w : Int) : List Int := if (2 * p - w) % (2 * w) = 0 then [(2 * p - w) / (2 * w), (2 * p - w) / (2 * w) + 1] else [(2 * p - w) / (2 * w) + 1]
/-- what nn is: two halves, or one -/
theorem nn_cases {p w : Int} (hw : 0 < w) : ∃ q : Int, (2 * p - w = 2 * (w * q) ∧ nn p w = [q, q + 1]) ∨ (∃ r, 0 < r ∧ r < 2 * w ∧ 2 * p - w = 2 * (w * q) + r ∧ nn p w = [q + 1]) := by
  refine ⟨(2 * p - w) / (2 * w), ?_⟩
  have h1 := Int.emod_add_mul_ediv (2 * p - w) (2 * w)
  have h2 := Int.emod_nonneg (2 * p - w) (b := 2 * w) (by omega)
  have h3 := Int.emod_lt_of_pos (2 * p - w) (b := 2 * w) (by omega)
  rw [Int.mul_assoc] at h1
  unfold nn
  by_cases h : (2 * p - w) % (2 * w) = 0
  · rw [if_pos h]
    exact .inl ⟨by omega, rfl⟩
  · rw [if_neg h]
    exact .inr ⟨_, by omega, h3, by omega, rfl⟩
/-- as the program reckons -/
theorem nn_least {p w : Int} (hw : 0 < w) : nn p w = (List.range ((2 * p + w) / (2 * w) + 1 - -((w - 2 * p) / (2 * w))).toNat).map fun i : Nat => -((w - 2 * p) / (2 * w)) + (i : Int) := by
  obtain ⟨q, ⟨h, e⟩ | ⟨r, h0, h1, h, e⟩⟩ := nn_cases (p := p) hw
  · have e1 : (2 * p + w) / (2 * w) = q + 1 := by
      rw [show 2 * p + w = 2 * w * (q + 1) by rw [Int.mul_assoc, Int.mul_add]; omega, Int.mul_ediv_cancel_left _ (by omega)]
    have e2 : (w - 2 * p) / (2 * w) = -q := by
      rw [show w - 2 * p = 2 * w * (-q) by rw [Int.mul_assoc, Int.mul_neg]; omega, Int.mul_ediv_cancel_left _ (by omega)]
    rw [e, e1, e2, show (q + 1 + 1 - - -q).toNat = 2 by omega]
    simp [List.range_succ]
  · have e1 : (2 * p + w) / (2 * w) = q + 1 := by
      rw [show 2 * p + w = r + 2 * w * (q + 1) by rw [Int.mul_assoc, Int.mul_add]; omega, Int.add_mul_ediv_left _ _ (by omega), Int.ediv_eq_zero_of_lt (by omega) h1, Int.zero_add]
    have e2 : (w - 2 * p) / (2 * w) = -q - 1 := by
      rw [show w - 2 * p = (2 * w - r) + 2 * w * (-q - 1) by rw [Int.mul_assoc, Int.mul_sub, Int.mul_neg]; omega, Int.add_mul_ediv_left _ _ (by omega), Int.ediv_eq_zero_of_lt (by omega) (by omega), Int.zero_add]
    rw [e, e1, e2, show (q + 1 + 1 - -(-q - 1)).toNat = 1 by omega]
    simp [List.range_succ]
    omega
theorem nn_mem {p w x : Int} (hw : 0 < w) (hx : x ∈ nn p w) : -w ≤ 2 * (w * x - p) ∧ 2 * (w * x - p) ≤ w := by
  obtain ⟨q, ⟨h, e⟩ | ⟨r, h0, h1, h, e⟩⟩ := nn_cases (p := p) hw
  · rw [e] at hx
    simp at hx
    rcases hx with rfl | rfl
    · omega
    · rw [Int.mul_add]; omega
  · rw [e] at hx
    simp at hx
    subst hx
    rw [Int.mul_add]; omega
theorem nn_len {p w : Int} (hw : 0 < w) : (nn p w).length ≤ 2 := by
  obtain ⟨q, ⟨h, e⟩ | ⟨r, h0, h1, h, e⟩⟩ := nn_cases (p := p) hw <;> rw [e] <;> simp
/-- the nearest cells, told from the first cell, of a point (u, v) of w parts -/
def near (w u v : Int) : List (Int × Int) := (nn u w).flatMap fun x => ((nn v w).filter fun y => decide (2 * dist (w * x - u) (w * y - v) ≤ w)).map fun y => (x, y)
end M

namespace Z
open PySem L2 M
/-! ### equality of data -/
mutual
theorem eqv_self : ∀ d : D, PyData.eqv (pd d) (pd d) = true
  | .non => rfl
  | .bl b => by simp [pd, PyData.eqv]
  | .int i => by simp [pd, PyData.eqv]
  | .str x => by simp [pd, PyData.eqv]
  | .ty _ => rfl
  | .cls _ => rfl
  | .obj _ _ => rfl
  | .dct _ => rfl
  | .exc _ _ => rfl
  | .tup xs => by simp only [pd, PyData.eqv]; exact eqvA_self xs
  | .lst xs => by simp only [pd, PyData.eqv]; exact eqvA_self xs
theorem eqvA_self : ∀ ds : List D, PyData.eqvAll (pdA ds) (pdA ds) = true
  | [] => rfl
  | d :: ds => by simp only [pdA, PyData.eqvAll]; rw [eqv_self d, eqvA_self ds]; rfl
end
theorem eqD_self (d : D) : eqD d d = true := eqv_self d
theorem eqD_int (i j : Int) : eqD (.int i) (.int j) = decide (i = j) := by
  show (i == j) = _
  rw [Bool.eq_iff_iff]
  simp
theorem ok_ints (l : List Int) : okq (.lst (l.map .int)) = true := by
  have h1 : ∀ l : List Int, okA (l.map .int) = true := fun l => by induction l with
    | nil => rfl
    | cons x r ih => simp only [List.map_cons, okA, okd, ih]; rfl
  have h2 : ∀ l : List Int, PyData.canLayAll0 (pdA (l.map .int)) = true := fun l => by induction l with
    | nil => rfl
    | cons x r ih => simp only [List.map_cons, pdA, pd, PyData.canLayAll0, PyData.canLay0, ih]; rfl
  have h3 : ∀ l : List Int, PyData.depthAll (pdA (l.map .int)) ≤ 1 := fun l => by induction l with
    | nil => simp [pdA, PyData.depthAll]
    | cons x r ih => simp only [List.map_cons, pdA, pd, PyData.depthAll, PyData.depth]; omega
  unfold okq SeqAt.shaped
  simp only [okd, pd, h1, PyData.canLay0, h2, Bool.true_and, decide_eq_true_eq]
  have := h3 l
  simp only [PyData.depth]
  exact decide_eq_true (by omega)
abbrev cellP (c : Int × Int) : D := cell c.1 c.2
theorem ok_cells (l : List (Int × Int)) : okq (.lst (l.map cellP)) = true := by
  have h1 : ∀ l : List (Int × Int), okA (l.map cellP) = true := fun l => by induction l with
    | nil => rfl
    | cons x r ih => simp only [List.map_cons, okA, okd, ih]; rfl
  have h2 : ∀ l : List (Int × Int), PyData.canLayAll0 (pdA (l.map cellP)) = true := fun l => by induction l with
    | nil => rfl
    | cons x r ih => simp only [List.map_cons, pdA, pd, PyData.canLayAll0, PyData.canLay0, ih]; rfl
  have h3 : ∀ l : List (Int × Int), PyData.depthAll (pdA (l.map cellP)) ≤ 3 := fun l => by induction l with
    | nil => simp [pdA, PyData.depthAll]
    | cons x r ih => simp only [List.map_cons, pdA, pd, PyData.depthAll, PyData.depth]; omega
  unfold okq SeqAt.shaped
  simp only [okd, pd, h1, PyData.canLay0, h2, Bool.true_and, decide_eq_true_eq]
  have := h3 l
  simp only [PyData.depth]
  exact decide_eq_true (by omega)
/-! ### products -/
theorem mul_m1 (c : Int) : IntMulOk (-1) c := IntMulOk.of_left (by decide)
theorem mul_1 (c : Int) : IntMulOk 1 c := IntMulOk.of_left (by decide)
theorem mul_r {i j : Int} (h1 : -(2 ^ 64) < j) (h2 : j < 2 ^ 64) : IntMulOk i j := IntMulOk.of_right (intBits_le_64 h1 h2)
theorem mul_l {i j : Int} (h1 : -(2 ^ 64) < i) (h2 : i < 2 ^ 64) : IntMulOk i j := IntMulOk.of_left (intBits_le_64 h1 h2)
/-! ### lists -/
theorem take_snoc {α : Type} {l : List α} {i : Nat} {x : α} (h : l[i]? = some x) : l.take (i + 1) = l.take i ++ [x] := by rw [List.take_add_one, h]; rfl
theorem small63 {n : Nat} (h : n ≤ 1000) : n < sizeLine := small1000 h
theorem cut_ints (ns : List Int) (lo hi : Nat) : cutD (ns.map .int) (some lo) (some hi) = ((ns.drop lo).take (hi - lo)).map .int := by
  unfold cutD
  rw [HT.sIx_nat, HT.sIx_nat, List.length_map, ← List.map_drop, ← List.map_take]
  congr 1
  by_cases h : lo ≤ ns.length
  · rw [Nat.min_eq_left h]
    by_cases h2 : hi ≤ ns.length
    · rw [Nat.min_eq_left h2]
    · rw [Nat.min_eq_right (by omega), List.take_of_length_le (by rw [List.length_drop]; omega), List.take_of_length_le (by rw [List.length_drop]; omega)]
  · have e1 : min lo ns.length = ns.length := Nat.min_eq_right (by omega)
    rw [e1, List.drop_eq_nil_of_le (Nat.le_refl _), List.drop_eq_nil_of_le (by omega), List.take_nil, List.take_nil]
section
variable {X : Cx} {L : Kl} {ρ : List Sl}
theorem ev_sliceI {a l h : Expr} {p2 pos : Pos} {ns : List Int} (lo hi : Nat) (ha : EV X L ρ a (.lst (ns.map .int))) (hl : EV X L ρ l (.int lo)) (hh : EV X L ρ h (.int hi)) : EV X L ρ (.Subscript a (.Slice (some l) (some h) none p2) pos) (.lst (((ns.drop lo).take (hi - lo)).map .int)) := by
  have q := ev_slice (p2 := p2) (pos := pos) ha (pv_some hl) (pv_some hh)
  rw [cut_ints] at q
  exact q
end
/-! ### the greatest of the six -/
theorem rc_dist (a b : Int) : maxL [a, -a, b, -b, a + b, -a - b] = dist a b := by
  simp only [maxL, dist, mx, ab]
  split <;> split <;> split <;> omega
theorem dist_neg (a b : Int) : dist (-a) (-b) = dist a b := by
  simp only [dist, mx, ab]
  split <;> split <;> split <;> split <;> split <;> split <;> omega
end Z

namespace M
/-! ### rings, places -/
def lastP (s : Int) : Int := 3 * s * (s + 1)
def sx (s side al : Int) : Int := s * wx ((side + 5) % 6) + al * wx ((side + 1) % 6)
def sy (s side al : Int) : Int := s * wy ((side + 5) % 6) + al * wy ((side + 1) % 6)
theorem lastP_step (s : Int) : lastP s = lastP (s - 1) + 6 * s := by
  unfold lastP
  rw [show s - 1 + 1 = s by omega, Int.mul_assoc, Int.mul_assoc, Int.mul_add, Int.sub_mul]
  omega
theorem lastP_mono {a b : Int} (h0 : 0 ≤ a) (h : a ≤ b) : lastP a ≤ lastP b := by
  unfold lastP
  exact Int.mul_le_mul (by omega) (by omega) (by omega) (by omega)
theorem lastP_ge {s : Int} (h : 0 ≤ s) : s ≤ lastP s := by
  unfold lastP
  have : 3 * s * 1 ≤ 3 * s * (s + 1) := Int.mul_le_mul_of_nonneg_left (by omega) (by omega)
  omega
theorem lastP_zero : lastP 0 = 0 := rfl
/-- the ring on which a place lies -/
structure SizeOf (p s : Int) : Prop where
  pos : 0 ≤ p
  nn : 0 ≤ s
  le : p ≤ lastP s
  gt : s = 0 ∨ lastP (s - 1) < p
theorem SizeOf.le_place {p s : Int} (h : SizeOf p s) : s ≤ p := by
  rcases h.gt with h1 | h1
  · have := h.pos; omega
  · have h0 := h.nn
    by_cases hs : s = 0
    · have := h.pos; omega
    · have := lastP_ge (s := s - 1) (by omega)
      omega
theorem SizeOf.below {p s t : Int} (h : SizeOf p s) (ht : 0 ≤ t) (hl : lastP t < p) : t + 1 ≤ s := by
  rcases Int.lt_or_le t s with h1 | h1
  · omega
  · have := lastP_mono h.nn h1
    have := h.le
    omega
theorem SizeOf.above {p s t : Int} (h : SizeOf p s) (ht : 0 ≤ t) (hl : p ≤ lastP t) : s ≤ t := by
  rcases h.gt with h1 | h1
  · omega
  · rcases Int.lt_or_le t s with h2 | h2
    · have := lastP_mono ht (b := s - 1) (by omega)
      omega
    · exact h2
/-- a place by ring, side and step; the cell there -/
structure At (p s side al : Int) : Prop where
  s1 : 1 ≤ s
  d0 : 0 ≤ side
  d1 : side < 6
  a1 : 1 ≤ al
  a2 : al ≤ s
  eq : p = lastP (s - 1) + side * s + al
theorem side_cases {d : Int} (h0 : 0 ≤ d) (h1 : d < 6) : d = 0 ∨ d = 1 ∨ d = 2 ∨ d = 3 ∨ d = 4 ∨ d = 5 := by omega
theorem At.steps {p s side al : Int} (h : At p s side al) : 1 ≤ side * s + al ∧ side * s + al ≤ 6 * s := by
  obtain ⟨h1, h2, h3, h4, h5, _⟩ := h
  rcases side_cases h2 h3 with rfl | rfl | rfl | rfl | rfl | rfl <;> omega
theorem At.size {p s side al : Int} (h : At p s side al) : SizeOf p s := by
  have h1 := h.steps
  have h2 := h.eq
  have h3 := lastP_step s
  have h4 := h.s1
  have h5 : 0 ≤ lastP (s - 1) := by have := lastP_ge (s := s - 1) (by omega); omega
  exact ⟨by omega, by omega, by omega, .inr (by omega)⟩
theorem At.of_size {p s : Int} (h : SizeOf p s) (hs : s ≠ 0) : ∃ side al, At p s side al := by
  have h0 := h.nn
  have h1 := h.le
  have h2 : lastP (s - 1) < p := by rcases h.gt with z | z; exact absurd z hs; exact z
  have h3 := lastP_step s
  have e := Int.emod_add_mul_ediv (p - lastP (s - 1) - 1) s
  have b1 := Int.emod_nonneg (p - lastP (s - 1) - 1) (b := s) hs
  have b2 := Int.emod_lt_of_pos (p - lastP (s - 1) - 1) (b := s) (by omega)
  generalize (p - lastP (s - 1) - 1) % s = m at *
  generalize (p - lastP (s - 1) - 1) / s = d at *
  refine ⟨d, m + 1, by omega, ?_, ?_, by omega, by omega, ?_⟩
  · rcases Int.lt_or_le d 0 with hd | hd
    · have : s * d ≤ s * (-1) := Int.mul_le_mul_of_nonneg_left (by omega) (by omega)
      omega
    · exact hd
  · rcases Int.lt_or_le d 6 with hd | hd
    · exact hd
    · have : s * 6 ≤ s * d := Int.mul_le_mul_of_nonneg_left (by omega) (by omega)
      omega
  · rw [Int.mul_comm d]
    omega
/-- the last cell of a side is the next side's corner -/
theorem corner {s side : Int} (h0 : 0 ≤ side) (h1 : side < 6) : sx s (side + 1) 0 = sx s side s ∧ sy s (side + 1) 0 = sy s side s := by
  rcases side_cases h0 h1 with rfl | rfl | rfl | rfl | rfl | rfl <;> simp [sx, sy, wx, wy] <;> omega
/-- as the program tells it -/
theorem At.told {p s side al : Int} (h : At p s side al) : sx s ((p - lastP (s - 1)) / s) ((p - lastP (s - 1)) % s) = sx s side al ∧ sy s ((p - lastP (s - 1)) / s) ((p - lastP (s - 1)) % s) = sy s side al := by
  obtain ⟨h1, h2, h3, h4, h5, h6⟩ := h
  have e : p - lastP (s - 1) = al + s * side := by rw [Int.mul_comm s]; omega
  rw [e, Int.add_mul_ediv_left _ _ (by omega), Int.add_mul_emod_self_left]
  by_cases hl : al < s
  · rw [Int.ediv_eq_zero_of_lt (by omega) hl, Int.emod_eq_of_lt (by omega) hl, Int.zero_add]
    exact ⟨rfl, rfl⟩
  · have ea : al = s := by omega
    subst ea
    rw [Int.ediv_self (by omega), Int.emod_self, Int.add_comm 1]
    exact corner h2 h3
theorem side_dist {s side al : Int} (h2 : 0 ≤ side) (h3 : side < 6) (h4 : 1 ≤ al) (h5 : al ≤ s) : dist (sx s side al) (sy s side al) = s := by
  rcases side_cases h2 h3 with rfl | rfl | rfl | rfl | rfl | rfl <;> simp [sx, sy, wx, wy] <;> (unfold dist mx ab; split <;> split <;> split <;> omega)
end M

namespace Z
open PySem L2 M
/-- each pair of the first list stands in the second -/
def Subs (cs : List (Str × Addr)) : List (Str × Addr) → Prop
  | [] => True
  | (x, c) :: r => cs.lookup x = some c ∧ Subs cs r
theorem subs_of {cs : List (Str × Addr)} : ∀ {cl : List (Str × Addr)}, Subs cs cl → ∀ x c, cl.lookup x = some c → cs.lookup x = some c
  | [], _, x, c, h => by simp at h
  | (y, d) :: r, ⟨h1, h2⟩, x, c, h => by
    rw [List.lookup_cons] at h
    cases e : x == y with
    | true =>
      rw [e] at h
      have e' : x = y := by simpa using e
      subst e'
      have h' : d = c := Option.some.inj h
      rw [← h']
      exact h1
    | false =>
      rw [e] at h
      exact subs_of h2 x c h
abbrev waysD : List D := [cell 1 0, cell 0 1, cell (-1) 1, cell (-1) 0, cell 0 (-1), cell 1 (-1)]
theorem ways_at {k : Int} (h : 0 ≤ k ∧ k < 6) : atI waysD k = some (cell (wx k) (wy k)) := by
  rcases way_cases h with rfl | rfl | rfl | rfl | rfl | rfl <;> rfl
theorem w_small (k : Int) : -(2 ^ 64) < wx k ∧ wx k < 2 ^ 64 ∧ -(2 ^ 64) < wy k ∧ wy k < 2 ^ 64 := by
  unfold wx wy
  split <;> (try split) <;> (try split) <;> (try split) <;> (try split) <;> omega
section
variable {X : Cx} {L : Kl} {ρ : List Sl} {a b c : Expr} {da db : D} {pos : Pos} {t u : Bool}
end
section
variable {X : Cx} {L : Kl} {ρ : List Sl} {scope : Scope} {js : List Nat} {ys : List Str}
/-- [elt for x in iter] -/
theorem el_mapN {iter elt : Expr} {x : Str} {px pos : Pos} {cl : List (Str × Addr)} {ds : List D} (f : D → D) (cp : Caps X scope ρ js ys) (src : Src X L ρ (.Name x px) iter ds) (hlen : ds.length < sizeLine)
    (hb : ∀ (C : Addr) (s : Shared) (H : Hp) (fp : List Addr) (d : D), d ∈ ds → EV (compCx X (x :: ys) scope cl C s H fp) L (.v d :: js.map fun j => ρ.getD j .no) elt (f d))
    (hnd : (x :: ys).Nodup := by decide +kernel) (hclos : closureFor scope X.env = pure cl := by rfl) (hcell : ∀ y ∈ scope.names, y.2 ≠ .cell := by decide +kernel) (hkind : scope.kind = .function := by rfl) (hnames : ∀ y ∈ scope.names, y.2 = .local → scope.names.lookup y.1 = some .local := by decide +kernel)
    (hx : scope.names.lookup x = some .local := by rfl) (hx2 : (relabel scope X.env).names.lookup x = some .local := by rfl)
    (hcl : ∀ x c, cl.lookup x = some c → X.env.cells.lookup x = some c := by exact fun _ _ h => h) (hhas : (scope.names.all fun q => !(q.2 == .free || q.2 == .cell) || (cl.lookup q.1).isSome) = true := by rfl)
    (hcalm : X.calm = true := by rfl) (hs : ∀ x, foldedSetIterable iter X.env x = pure x := by intro _; rfl) : EL X L ρ (.ListComp elt [⟨.Name x px, iter, [], 0⟩] scope pos) (ds.map f) := by
  have h := el_compNS (ifs := []) (px := px) (pos := pos) f (fun _ => true) rfl cp src hlen (fun C s H fp d hd => ⟨tests_nil, fun _ => hb C s H fp d hd⟩) hnd hclos hcell hkind hnames hx hx2 hcl hhas hcalm hs
  rw [List.filter_eq_self.mpr (fun _ _ => rfl)] at h
  exact h
end
section
variable {X : Cx} {L : Kl} {ρ : List Sl} {c : Expr} {pos : Pos} {E : En} {rest body els : List Stmt} {t : Bool}
end
section
variable {X : Cx} {L : Kl} {ρ : List Sl} {scope : Scope} {js : List Nat} {ys : List Str}
end
end Z

namespace Z
open PySem PySem.Spec PyProof.Rows L2
/-! ### list(reversed(xs)) -/
section
variable {pr : Program} {wd : World} {B : Around} {er : Value → Shared → Prop} {u : Shared}
end
section
variable {X : Cx} {L : Kl} {ρ : List Sl} {a : Expr} {ds : List D} {pos p p2 p3 : Pos}
end
end Z

namespace Z
open PySem PySem.Spec PyProof.Rows L2
/-! ### methods and makers of a text -/
section
variable {P : Program} {w : World} {K : PySem.W.Frag} {mg : Str → Option Value} {base : Heap} {L : Kl}
/-- a def in a class body, found by the classes of cs -/
def MDef (K : PySem.W.Frag) (L : Kl) (x qual : Str) (st : Stmt) (ps : List Str) (cs : List Nat) : Prop := ∃ f fd, DefT K x qual st ps f fd ∧ ∀ c ∈ cs, Meth K (L.cls c) x f
theorem mt_def {x qual : Str} {st : Stmt} {N ps : List Str} {cs : List Nat} {k : Nat} {C : List D → D → Prop} (g : MDef K L x qual st ps cs) (S : FnScope N ps (defScope st)) (len : ∀ ds r, C ds r → ds.length = ps.length)
    (hbody : ∀ (f : Addr) (cdv : Value) (A : Around) (outer : List Env) (s : Shared) (H : Hp) (E : XK), Room k (A.deeper (envOfC qual (defScope st) s.heap.objs.size f cdv)) → ∀ ds r, C ds r →
      SV (cxOf CX0 P w K mg base N qual (defScope st) f cdv A outer s H E).nox L (rho0 N ds) (defBody st) { nx := fun _ => r = .non, rt := fun d => d = r }) : ∀ c ∈ cs, Mt P w K mg base L c x (k + 1) C := by
  obtain ⟨f, fd, F, hm⟩ := g
  exact fun c hc => ⟨f, fd, ps, fn_okT F S len (hbody f), hm c hc, F.bd⟩
/-- an __init__ of the class c; its last parameters have defaults us -/
def IDef (K : PySem.W.Frag) (mg : Str → Option Value) (L : Kl) (x qual : Str) (c : Nat) (st : Stmt) (ps : List Str) (us : List Value) : Prop := ∃ f fd, DefT K "__init__" qual st ps f fd ∧ Mk K (L.cls c) f ∧ mg x = some (.ref (L.cls c)) ∧ Binds K fd ps us
theorem mkr_def {x qual : Str} {c : Nat} {st : Stmt} {N ps : List Str} {us : List Value} {dvs : List V} {dds : List D} {k : Nat} {C : List D → List D → Prop} (g : IDef K mg L x qual c st ps us) (hv : Vals dvs us) (hd : ∀ G, RpA K L G dvs dds) (S : FnScope N ps (defScope st))
    (len : ∀ ds rs, C ds rs → ds.length + 1 = ps.length) (flen : ∀ ds rs, C ds rs → rs.length = (L.nm c).length)
    (hbody : ∀ (f : Addr) (cdv : Value) (A : Around) (outer : List Env) (s : Shared) (H : Hp) (E : XK), Room k (A.deeper (envOfC qual (defScope st) s.heap.objs.size f cdv)) → ∀ (q : Addr) ds rs, C ds rs →
      SV (cxOf CX0 P w K mg base N qual (defScope st) f cdv A outer s H E).nox L (.ob q c [] :: (ds.map Sl.v ++ List.replicate (N.length - (ds.length + 1)) Sl.no)) (defBody st) { nx := fun ρ => ρ[0]? = some (.ob q c rs), rt := fun _ => False }) :
    Mkr P w K mg base L x c (k + 1) C ∧ Mkr P w K mg base L x c (k + 1) (fun ds rs => C (ds ++ dds) rs) := by
  obtain ⟨f, fd, F, hm, hx, hb⟩ := g
  have h := init_ok (P := P) (w := w) (mg := mg) (base := base) F S len flen (hbody f)
  exact ⟨⟨f, fd, ps, C, [], [], [], h, hm, hx, F.bd, .nil, fun _ => .nil, fun ds rs q => by rw [List.append_nil]; exact q⟩, ⟨f, fd, ps, C, dvs, us, dds, h, hm, hx, hb, hv, hd, fun _ _ q => q⟩⟩
theorem deft_mk {x qual : Str} {st : Stmt} {ps : List Str} {f : Addr} {oc : Value} {od an : Option Addr} {osl : Array (Option Value)} {kV doc pm cdv ct : Value}
    (l : K.lookup f = some ⟨oc, od, .func (PySem.W.fnOf x qual (defArgs st) (defBody st) (defScope st) .none kV doc pm an cdv ct), osl⟩) (c : PySem.W.codeIn K cdv qual = true) (k : PySem.W.keepIn K (.ref f) = true)
    (hb : ∀ (kV doc pm : Value) (an : Option Addr) (cdv ct : Value) (us : List Value), us.length = ps.length → bindArgs (PySem.W.fnOf x qual (defArgs st) (defBody st) (defScope st) .none kV doc pm an cdv ct) ⟨us, []⟩ = pure (ps.zip us)) :
    DefT K x qual st ps f (PySem.W.fnOf x qual (defArgs st) (defBody st) (defScope st) .none kV doc pm an cdv ct) :=
  ⟨⟨oc, od, .none, kV, doc, pm, an, cdv, ct, osl, rfl, l, c⟩, k, .all (hb kV doc pm an cdv ct)⟩
/-- the law's promise does not hang on the classes -/
theorem law_imp {k : Nat} {f : Addr} {fd : FuncData} {ps : List Str} {C : List D → D → Prop} {L0 : Kl} (hC : ∀ ds r, C ds r → (∃ ns : List Int, ds = [.lst (ns.map .int)]) ∧ r = .bl true) (F : FnOk P w K mg base CX0 k f fd ps (spC K L C)) : FnOk P w K mg base CX0 k f fd ps (spC K L0 C) :=
  F.imp fun vs H Q E ⟨G, ds, r, sm, rp, hc, k⟩ => by
    obtain ⟨⟨ns, rfl⟩, rfl⟩ := hC ds r hc
    refine ⟨G, _, _, sm, ?_, hc, fun v G' H' e r => ?_⟩
    · cases rp with
      | cons h t =>
        cases t
        cases h with
        | lst hq hr =>
          have e := hr.of_ints
          subst e
          exact .cons (.lst hq (RpA.ints ns)) .nil
    · cases r
      exact k _ G' H' e (.bl true)
end
theorem kit_of {K : PySem.W.Frag} {C D : Addr} (h1 : PySem.W.isClsIn K D = true) (h2 : PySem.W.typeIn K (.ref D) = some (.type "type")) (h3 : PySem.W.mroIn K C (.ref D) = some true) : PySem.W.kitOne K (.ref C) (.ref D) = some true := by
  unfold PySem.W.kitOne
  split
  · rfl
  · unfold PySem.W.kitCls
    have e : ((PySem.W.clsIn K D).isSome && PySem.W.typeIn K (.ref D) == some (.type "type")) = true := by
      rw [show (PySem.W.clsIn K D).isSome = true from h1, h2]
      rfl
    dsimp only
    rw [if_pos e]
    exact h3
end Z

namespace Z
open PySem PySem.Spec PyProof.Rows L2

/-! ### a new list that is handed back: the caller's own -/
def spL (K : PySem.W.Frag) (L : Kl) (C : List D → List D → Prop) : Sp := fun vs H Q _ => ∃ G ds rs, Same G H ∧ RpA K L G vs ds ∧ C ds rs ∧ ∀ p ws G' H', Ext G H G' H' → H p = none → G' p = none → H' p = some (.lst ws) → RpA K L G' ws rs → Q (.ref p) H'
section
variable {P : Program} {w : World} {K : PySem.W.Frag} {mg : Str → Option Value} {base : Heap} {L : Kl}
/-- what is newly made and known to no one becomes known -/
theorem Ext.known {G H G' H' : Hp} {p : Addr} {u : HO} (x : Ext G H G' H') (hp : H p = none) (hg : G' p = none) (hh : H' p = some u) : Ext G H (upd G' p u) H' := by
  refine ⟨x.gg.trans (same_new hg _), fun b u q => ?_, x.hh, fun b hb => ?_⟩
  · by_cases z : b = p
    · subst z
      rw [upd_same] at q
      rw [hh]
      exact q
    · rw [upd_ne z] at q
      exact x.gh _ _ q
  · by_cases z : b = p
    · subst z
      exact .inr hp
    · rw [upd_ne z] at hb
      exact x.nw b hb
theorem fnL_okT {x qual : Str} {st : Stmt} {f : Addr} {fd : FuncData} {N ps : List Str} {k : Nat} {C : List D → List D → Prop} (F : DefT K x qual st ps f fd) (S : FnScope N ps (defScope st)) (len : ∀ ds r, C ds r → ds.length = ps.length)
    (hbody : ∀ (cdv : Value) (A : Around) (outer : List Env) (s : Shared) (H : Hp) (E : XK), Room k (A.deeper (envOfC qual (defScope st) s.heap.objs.size f cdv)) → ∀ ds rs, C ds rs →
      SV (cxOf CX0 P w K mg base N qual (defScope st) f cdv A outer s H E).nox L (rho0 N ds) (defBody st) { nx := fun _ => False, rt := fun _ => False, rl := fun l => l = rs }) : FnOk P w K mg base CX0 (k + 1) f fd ps (spL K L C) := by
  obtain ⟨oc, od, dV, kV, doc, pm, an, cdv, ct, osl, rfl, lk, hcd⟩ := F.ex
  refine fn_of lk hcd S (fun vs H Q E ⟨G, ds, r, _, hr, hc, _⟩ => hr.length.trans (len ds r hc)) fun A outer s H vs Q E hr ⟨G, ds, r, sm, rp, hc, k⟩ => ⟨_, PSs.nox pss_w, ?_⟩
  have hh := (hbody cdv A outer s H E hr ds r hc).run (L2.start N vs) G H G H (st0 sm rp)
  refine wSs_mono ?_ hh
  refine ⟨?_, ?_, ?_, ?_⟩
  · rintro σ' H' ⟨ρ', G', s', e⟩
    exact e.elim
  · rintro v H' (⟨d, G', x1, r1, e⟩ | ⟨p, ws, ds', G', e, x1, h1, h2, h3, h4, h5⟩)
    · exact e.elim
    · subst e h5
      exact k p ws G' H' x1 h1 h2 h3 h4
  · rintro σ' H' ⟨_, _, _, q⟩
    exact q.elim
  · rintro σ' H' ⟨_, _, _, q⟩
    exact q.elim
structure FnL (P : Program) (w : World) (K : PySem.W.Frag) (mg : Str → Option Value) (base : Heap) (L : Kl) (x : Str) (k : Nat) (C : List D → List D → Prop) : Prop where
  ex : ∃ (f : Addr) (fd : FuncData) (ps : List Str), FnOk P w K mg base CX0 k f fd ps (spL K L C) ∧ mg x = some (.ref f) ∧ PySem.W.keepIn K (.ref f) = true ∧ Binds K fd ps []
theorem spL_C {C : List D → List D → Prop} {vs : List V} {H : Hp} {Q : VK} {E : XK} (h : spC K L (fun ds r => ∃ rs, r = .lst rs ∧ C ds rs) vs H Q E) : spL K L C vs H Q E := by
  obtain ⟨G, ds, r, sm, rp, ⟨rs, rfl, hc⟩, k⟩ := h
  exact ⟨G, ds, rs, sm, rp, hc, fun p ws G' H' x hp hg hh hr => k _ _ _ (x.known hp hg hh) (.lst (SqL.of upd_same) (hr.mono (same_new hg _)))⟩
/-- .. as a datum -/
theorem FnL.fn {x : Str} {k : Nat} {C : List D → List D → Prop} (F : FnL P w K mg base L x k C) : Fn P w K mg base L x k (fun ds r => ∃ rs, r = .lst rs ∧ C ds rs) := by
  obtain ⟨f, fd, ps, h1, h2, h3, h4⟩ := F.ex
  exact .mk0 (h1.imp fun vs H Q E h => spL_C h) h2 h3 h4
theorem fnL_def {x : Str} {st : Stmt} {N ps : List Str} {k : Nat} {C : List D → List D → Prop} (g : GDef K mg x st ps) (S : FnScope N ps (defScope st)) (len : ∀ ds r, C ds r → ds.length = ps.length)
    (hbody : ∀ (f : Addr) (cdv : Value) (A : Around) (outer : List Env) (s : Shared) (H : Hp) (E : XK), Room k (A.deeper (envOfC x (defScope st) s.heap.objs.size f cdv)) → ∀ ds rs, C ds rs →
      SV (cxOf CX0 P w K mg base N x (defScope st) f cdv A outer s H E).nox L (rho0 N ds) (defBody st) { nx := fun _ => False, rt := fun _ => False, rl := fun l => l = rs }) : FnL P w K mg base L x (k + 1) C := by
  obtain ⟨f, fd, F, hm⟩ := g
  exact ⟨f, fd, ps, fnL_okT F S len (hbody f), hm, F.kp, F.bd⟩
/-- a method that hands back a new list -/
structure MtL (P : Program) (w : World) (K : PySem.W.Frag) (mg : Str → Option Value) (base : Heap) (L : Kl) (c : Nat) (m : Str) (k : Nat) (C : List D → List D → Prop) : Prop where
  ex : ∃ (f : Addr) (fd : FuncData) (ps : List Str), FnOk P w K mg base CX0 k f fd ps (spL K L C) ∧ Meth K (L.cls c) m f ∧ Binds K fd ps []
theorem mtL_def {x qual : Str} {st : Stmt} {N ps : List Str} {cs : List Nat} {k : Nat} {C : List D → List D → Prop} (g : MDef K L x qual st ps cs) (S : FnScope N ps (defScope st)) (len : ∀ ds r, C ds r → ds.length = ps.length)
    (hbody : ∀ (f : Addr) (cdv : Value) (A : Around) (outer : List Env) (s : Shared) (H : Hp) (E : XK), Room k (A.deeper (envOfC qual (defScope st) s.heap.objs.size f cdv)) → ∀ ds rs, C ds rs →
      SV (cxOf CX0 P w K mg base N qual (defScope st) f cdv A outer s H E).nox L (rho0 N ds) (defBody st) { nx := fun _ => False, rt := fun _ => False, rl := fun l => l = rs }) : ∀ c ∈ cs, MtL P w K mg base L c x (k + 1) C := by
  obtain ⟨f, fd, F, hm⟩ := g
  exact fun c hc => ⟨f, fd, ps, fnL_okT F S len (hbody f), hm c hc, F.bd⟩
end
section
variable {X : Cx} {L : Kl} {ρ : List Sl} {e a b c o tg : Expr} {es rest' : List Expr} {d da db : D} {ds rs : List D} {pos p pos' apos : Pos} {E : En} {rest body els : List Stmt} {t u : Bool}
theorem sv_retE (he : EL X L ρ e ds) (h : E.rl ds) : SV X L ρ (.Return (some e) pos :: rest) E := .mk fun σ G0 H0 G H st => by
  refine wSs_cons (wS_of (ps_ret pe_w) (he.run σ G0 H0 G H st _ fun p vs G1 H1 e1 hp hg hh hr => ?_))
  exact .inr ⟨p, vs, ds, G1, rfl, st.ext.trans e1, st.ext.hh.free hp, hg, hh, hr, h⟩
/-- return x, x a list of the def's own -/
theorem sv_retOwn (i : Nat) {x : Str} {px : Pos} (hi : ρ[i]? = some (.own ds)) (h : E.rl ds) (hN : X.N[i]? = some x := by rfl)
    (hv : Vis X.env.scope x := by first | exact Or.inl rfl | exact Or.inr (Or.inl rfl) | exact Or.inr (Or.inr rfl)) (hd : (x == ("__debug__" : Str)) = false := by decide) (hcd : (x == ("__classdict__" : Str)) = false := by decide) :
    SV X L ρ (.Return (some (.Name x px)) pos :: rest) E := .mk fun σ G0 H0 G H st => by
  obtain ⟨q, vs, h1, h2, h3, h4, h5⟩ := st.sl i _ hi
  refine wSs_cons (wS_of (ps_ret (pe_var hN hv hd hcd)) ⟨_, join_some h1, ?_⟩)
  exact .inr ⟨q, vs, ds, G, rfl, st.ext, h4, h3, h2, h5, h⟩
theorem el_call {x : Str} {k : Nat} {C : List D → List D → Prop} (F : FnL X.prog X.w X.K X.mg X.base L x k C) (hr : Room k X.A) (ha : EVs X L ρ (e :: es) ds) (hc : C ds rs) (hg : Gl X x := by rfl) (hdb : (x == ("__debug__" : Str)) = false := by decide)
    (he : starEach (e :: es) X.env = (false, eval e X.env) :: starEach es X.env := by rfl) (hpl : (backTo pos (starEach es X.env)).any (·.1) = false := by rfl) : EL X L ρ (.Call (.Name x p) (e :: es) [] pos) rs := .mk fun σ G0 H0 G H st Q k => by
  obtain ⟨f, fd, ps, F1, hm, hk, hb⟩ := F.ex
  refine wE_of (pe_call F1 hr hg hm hk hb .nil pass0 pa_w hdb he hpl) (ha.run σ G0 H0 G H st _ fun vs G1 H1 e1 r1 => ?_)
  exact ⟨G1, ds, rs, e1.gh, by rw [List.append_nil]; exact r1, hc, fun q ws G2 H2 e2 h1 h2 h3 h4 => k q ws G2 H2 (e1.trans e2) (e1.hh.free h1) h2 h3 h4⟩
theorem el_meth {m : Str} {c : Nat} {k : Nat} {os : List D} {C : List D → List D → Prop} (T : KCls X.K L c) (F : MtL X.prog X.w X.K X.mg X.base L c m k C) (hr : Room k X.A) (ho : EV X L ρ o (.obj c os)) (ha : EVs X L ρ (e :: es) ds) (hc : C (.obj c os :: ds) rs) (hm : m ∉ L.nm c)
    (hst : starEach (e :: es) X.env = (false, eval e X.env) :: starEach es X.env := by rfl) (hpl : (backTo pos (starEach es X.env)).any (·.1) = false := by rfl) {pl : Sem Bool}
    (ht : eval (.Call (.Attribute o m apos) (e :: es) [] pos) X.env = (do
      let ov ← eval o X.env
      standAt apos.atName
      let (f, first) ← holding [ov] (getMethod ov m pl)
      callWith pos f first (backTo pos (starEach (e :: es) X.env)) (backToKw pos (keywordEach [] X.env))) := by rfl) : EL X L ρ (.Call (.Attribute o m apos) (e :: es) [] pos) rs := .mk fun σ G0 H0 G H st Q q => by
  obtain ⟨f, fd, ps, F1, hm1, hb⟩ := F.ex
  refine wE_of (pe_meth pe_w T.cl hm1 F1 hr hb .nil pass0 pa_w hst hpl ht) (ho.run σ G0 H0 G H st _ fun v G1 H1 e1 r1 => ?_)
  cases r1 with
  | @obj x dx c' vs ds' hq hl hr1 =>
    refine ⟨x, dx, _, rfl, e1.gh _ _ hq, zip_none hm, ha.run σ G0 H0 G1 H1 (st.step e1) _ fun us G2 H2 e2 r2 => ?_⟩
    exact ⟨G2, .obj c os :: ds, rs, e2.gh, .cons (.obj (e2.gg _ _ hq) hl (hr1.mono e2.gg)) (by rw [List.append_nil]; exact r2), hc, fun z ws G3 H3 e3 h1 h2 h3 h4 => q z ws G3 H3 ((e1.trans e2).trans e3) ((e1.trans e2).hh.free h1) h2 h3 h4⟩
/-- a test that reads an own list -/
theorem tv_share (i : Nat) (h : TV X L (ρ.set i (.v (.lst ds))) e t) (hi : ρ[i]? = some (.own ds) := by rfl) : TV X L ρ e t := .mk fun σ G0 H0 G H st Q k => by
  obtain ⟨p, vs, h1, h2, h3, h4, st1⟩ := st.freeze hi
  refine h.run σ G0 H0 _ H st1 Q fun G' H' x => ?_
  have hp : G' p = some (.lst vs) := x.gg _ _ upd_same
  refine k (del G' p) H' ⟨fun b u q => ?_, fun b u q => ?_, x.hh, fun b hb => ?_⟩
  · have z : b ≠ p := ne_of_none q h3
    rw [del_ne z]
    exact x.gg _ _ (by rw [upd_ne z]; exact q)
  · by_cases z : b = p
    · subst z
      rw [del_same] at q
      cases q
    · rw [del_ne z] at q
      exact x.gh _ _ q
  · by_cases z : b = p
    · subst z
      rw [del_same] at hb
      exact absurd rfl hb
    · rw [del_ne z] at hb
      rcases x.nw b hb with q | q
      · rw [upd_ne z] at q
        exact .inl q
      · exact .inr q
end
end Z

namespace Z
open PySem PySem.Spec PyProof.Rows PySem.W

/-! ### what the sort of fewer than 64 items hands back -/
section
variable {n : Nat} {r : Nat → Int} {J : Shared → Prop} {cmp : Nat → Nat → (Bool → Shared → Prop) → Shared → Prop} {p : Array Nat} {s : Shared}
end
end Z

namespace Z
open PySem PySem.Spec PyProof.Rows PySem.W PySem.Calls

/-! ### the keys of a dict, gone through; its keys may be any objects -/
section
variable {prog : Program} {w : World} {A : Around} {E : Value → Shared → Prop} {s : Shared} {d it : Addr} {es : Array DictEntry} {ep i : Nat}
end
end Z

namespace Z
open PySem PySem.Spec PyProof.Rows PySem.W PySem.Calls

/-! ### the order of cells, and their sorted list -/
/-! cells ranked by one int -/
/-! ### list.sort of cells -/
section
variable {prog : Program} {w : World} {A : Around} {E : Value → Shared → Prop} {s : Shared}
end
end Z

namespace Z
open PySem PySem.Spec PyProof.Rows PySem.W PySem.Calls L2

/-! ### sorted(..) of cells -/
section
variable {prog : Program} {w : World} {A : Around} {E : Value → Shared → Prop} {s : Shared}
end
section
variable {X : Cx} {pins : List (Addr × Obj)} {σ : L2.St} {H : Hp} {s : Shared}
end
section
variable {X : Cx} {L : Kl} {ρ : List Sl} {a : Expr} {pos p : Pos} {cs : List (Int × Int)}
end
end Z

namespace Z
open PySem PySem.Spec PyProof.Rows PySem.W PySem.Calls L2

/-! ### dicts whose keys are cells -/
theorem dicO_stable (a : Addr) (xs : List (List Int × Addr × Value)) : ∀ h1 h2 : Heap, DicO a xs h1 → (∀ o, h1.get? a = some o → h2.get? a = some o) → DicO a xs h2 := fun h1 h2 ⟨q1, q2, q3, o, es, ep, ho, r⟩ k => ⟨q1, q2, q3, o, es, ep, k o ho, r⟩
def ins (cs : List (Int × Int)) (c : Int × Int) : List (Int × Int) := if c ∈ cs then cs else cs ++ [c]
theorem key_at {K : PySem.W.Frag} {G : Hp} {c : Int × Int} : ∀ {xs : List (List Int × Addr × Value)} {cs : List (Int × Int)}, KeyOk K G xs cs → (atKey xs [c.1, c.2]).isSome = decide (c ∈ cs)
  | [], [], _ => by simp [atKey]
  | (ks, b, u) :: xs, (x, y) :: cs, ⟨h1, h2, h3⟩ => by
    subst h1
    have ih := key_at (c := c) h3
    unfold atKey at ih ⊢
    rw [List.find?_cons]
    by_cases e : c = (x, y)
    · subst e
      simp
    · have n1 : decide (([x, y] : List Int) = [c.1, c.2]) = false := by
        apply decide_eq_false
        intro z
        apply e
        simp only [List.cons.injEq, and_true] at z
        exact Prod.ext z.1.symm z.2.symm
      dsimp only
      rw [n1, ih]
      apply decide_eq_decide.mpr
      rw [List.mem_cons]
      exact ⟨fun z => .inr z, fun z => z.elim (fun q => absurd q e) fun q => q⟩
  | [], _ :: _, h => h.elim
  | _ :: _, [], h => h.elim
theorem KeyOk.append {K : PySem.W.Frag} {G : Hp} {x y : Int} {b : Addr} {u : Value} (hb : SqT K G b [.int x, .int y]) : ∀ {xs : List (List Int × Addr × Value)} {cs : List (Int × Int)}, KeyOk K G xs cs → KeyOk K G (xs ++ [([x, y], b, u)]) (cs ++ [(x, y)])
  | [], [], _ => ⟨rfl, hb, trivial⟩
  | (_, _, _) :: _, (_, _) :: _, ⟨h1, h2, h3⟩ => ⟨h1, h2, KeyOk.append hb h3⟩
  | [], _ :: _, h => h.elim
  | _ :: _, [], h => h.elim
theorem KeyOk.put {K : PySem.W.Frag} {G : Hp} {k : List Int} {u : Value} : ∀ {xs : List (List Int × Addr × Value)} {cs : List (Int × Int)}, KeyOk K G xs cs → KeyOk K G (xs.map (putAt k u)) cs
  | [], [], _ => trivial
  | (ks, b, v) :: xs, (x, y) :: cs, ⟨h1, h2, h3⟩ => by
    show KeyOk K G (putAt k u (ks, b, v) :: _) _
    unfold putAt
    split
    · exact ⟨h1, h2, KeyOk.put h3⟩
    · exact ⟨h1, h2, KeyOk.put h3⟩
  | [], _ :: _, h => h.elim
  | _ :: _, [], h => h.elim
theorem KeyOk.stored {K : PySem.W.Frag} {G : Hp} {c : Int × Int} {b : Addr} {u : Value} {xs : List (List Int × Addr × Value)} {cs : List (Int × Int)} (h : KeyOk K G xs cs) (hb : SqT K G b [.int c.1, .int c.2]) : KeyOk K G (storedH xs [c.1, c.2] b u) (ins cs c) := by
  have e := key_at (c := c) h
  unfold storedH ins
  rw [e]
  by_cases m : c ∈ cs
  · rw [if_pos (by simpa using m), if_pos m]
    exact h.put
  · rw [if_neg (by simpa using m), if_neg m]
    exact h.append hb
theorem KeyOk.len {K : PySem.W.Frag} {G : Hp} : ∀ {xs : List (List Int × Addr × Value)} {cs : List (Int × Int)}, KeyOk K G xs cs → xs.length = cs.length
  | [], [], _ => rfl
  | _ :: _, _ :: _, ⟨_, _, h⟩ => congrArg (· + 1) (KeyOk.len h)
  | [], _ :: _, h => h.elim
  | _ :: _, [], h => h.elim
theorem ins_len (cs : List (Int × Int)) (c : Int × Int) : (ins cs c).length ≤ cs.length + 1 := by
  unfold ins
  split
  · omega
  · simp
section
variable {X : Cx} {pins : List (Addr × Obj)} {σ : L2.St} {H : Hp} {s : Shared}
theorem tkey_of (I : Inv X pins σ H s) {b : Addr} {x y : Int} (h : SqT X.K H b [.int x, .int y]) : (tupleKind (intKind X.prog X.w)).is s.heap [x, y] b := by
  obtain ⟨its, rv, ⟨o, ho, hc, n, hd⟩, _⟩ := I.tuple h
  refine ⟨o, its.toArray, n, ho, hc, hd, ?_⟩
  cases rv with
  | cons r1 t1 =>
    cases t1 with
    | cons r2 t2 =>
      cases t2
      obtain ⟨t, rfl⟩ : ∃ t, _ = Value.int x t := r1
      obtain ⟨u, rfl⟩ : ∃ t, _ = Value.int y t := r2
      exact .cons (by simp [intKind, Value.isInt]) (.cons (by simp [intKind, Value.isInt]) .nil)
theorem keys_of (I : Inv X pins σ H s) : ∀ {xs : List (List Int × Addr × Value)} {cs : List (Int × Int)}, KeyOk X.K H xs cs → ∀ x ∈ xs, (tupleKind (intKind X.prog X.w)).is s.heap x.1 x.2.1
  | [], [], _, x, hx => by cases hx
  | (ks, b, u) :: xs, (p, q) :: cs, ⟨h1, h2, h3⟩, x, hx => by
    rcases List.mem_cons.mp hx with rfl | hx
    · subst h1
      exact tkey_of I h2
    · exact keys_of I h3 x hx
  | [], _ :: _, h, _, _ => h.elim
  | _ :: _, [], h, _, _ => h.elim
theorem dicH_of (I : Inv X pins σ H s) {a : Addr} {xs : List (List Int × Addr × Value)} {cs : List (Int × Int)} (hq : H a = some (.ext (DicO a xs))) (hk : KeyOk X.K H xs cs) : (a == sysModules) = false ∧ xs.length ≤ sizeLine ∧ s.heap.DictOfH (tupleKind (intKind X.prog X.w)) a xs := by
  obtain ⟨⟨lo, hz, nd, o, es, ep, ho, hx, hd, he⟩, _⟩ := I.hok a _ hq
  exact ⟨lo, hz, o, es, ep, ho, hx, hd, he, keys_of I hk, nd⟩
/-- d[k] = v -/
def rSetD (K : PySem.W.Frag) : TSet := fun o i v H Q => ∃ (p b : Addr) (c : Int × Int) (xs : List (List Int × Addr × Value)) (cs : List (Int × Int)), o = .ref p ∧ i = .ref b ∧ H p = some (.ext (DicO p xs)) ∧ KeyOk K H xs cs ∧ SqT K H b [.int c.1, .int c.2] ∧ xs.length < sizeLine ∧ ∀ u, Q (upd H p (.ext (DicO p (storedH xs [c.1, c.2] b u))))
theorem set_dic (hu : X.A.units + 1 < cLine) : PSet X (rSetD X.K) := by
  intro pins s σ H o i v ov iv u Q I ro ri rv ⟨p, b, c, xs, cs, e1, e2, hq, hk, hb, hl, q⟩
  subst e1 e2
  cases ro
  cases ri
  obtain ⟨lo, hz, hm⟩ := dicH_of I hq hk
  refine wpAny_setItem_heap (knd := tupleKind (intKind X.prog X.w)) hu (tkey_of I hb) hm (fun h' hm' sb => ?_) hz
  obtain ⟨o, es, ep, ho, hx, hd, he, hks, nd⟩ := hm'
  have hlen : (storedH xs [c.1, c.2] b u).length ≤ sizeLine := by
    unfold storedH
    split
    · rw [List.length_map]; exact hz
    · rw [List.length_append]; exact hl
  exact ⟨_, I.write (x := p) (e := p) (o := .ext (DicO p (storedH xs [c.1, c.2] b u))) (by rw [hq]; trivial) (.inl rfl) (fun b' u' hb' e' => sb.extBut b' u' hb' e') ⟨o, ho⟩ ⟨⟨lo, hlen, nd, o, es, ep, ho, hx, hd, he⟩, ⟨o, ho⟩, dicO_stable _ _⟩, q u⟩
theorem op_notInD (hu : X.A.units + 1 < cLine) : OpR X (compareOp .NotIn) (fun x y H Q => ∃ (b a : Addr) (c : Int × Int) (xs : List (List Int × Addr × Value)) (cs : List (Int × Int)), x = .ref b ∧ y = .ref a ∧ H a = some (.ext (DicO a xs)) ∧ KeyOk X.K H xs cs ∧ SqT X.K H b [.int c.1, .int c.2] ∧ Q (.bl (!decide (c ∈ cs))) H) := by
  intro pins s σ H x y v u Q I rx ry ⟨b, a, c, xs, cs, e1, e2, hq, hk, hb, q⟩
  subst e1 e2
  cases rx
  cases ry
  obtain ⟨lo, hz, hm⟩ := dicH_of I hq hk
  refine wpAny_notIn_heap (knd := tupleKind (intKind X.prog X.w)) hu (tkey_of I hb) lo hm ?_
  rw [key_at (c := c) hk]
  exact ⟨.bl (!decide (c ∈ cs)), H, I.tok _, rfl, q⟩
theorem inv_big (I : Inv X pins σ H s) : sysModules < s.heap.objs.size := Nat.lt_trans (by decide) (I.mod.glob.keeps I.bk).lt
theorem pe_dnew0 {pos : Pos} : PE X (.Dict [] [] pos) (fun _ H Q => ∀ p, H p = none → Q (.ref p) (upd H p (.ext (DicO p [])))) := fun pins s σ H Q I h =>
  wpAny_Dict_empty ⟨.ref s.heap.objs.size, _, I.laid (a := s.heap.objs.size) (o := .ext (DicO s.heap.objs.size [])) (t' := s.toks) (fun _ _ q => Heap.get?_push_of_some _ q) (Nat.le_refl _)
    ⟨⟨beq_eq_false_iff_ne.mpr (Ne.symm (Nat.ne_of_lt (inv_big I))), Nat.zero_le _, List.nodup_nil, _, #[], 0, Heap.get?_push_size _ rfl, ⟨rfl, rfl, rfl⟩, rfl, rfl⟩, ⟨_, Heap.get?_push_size _ rfl⟩, dicO_stable _ _⟩, rfl, h _ (I.hok.fresh (Nat.le_refl _))⟩
end
section
variable {X : Cx} {L : Kl} {ρ : List Sl} {a b e k : Expr} {d : D} {pos p pos' : Pos} {E : En} {rest : List Stmt} {cs : List (Int × Int)}
/-- x = {} -/
theorem sv_newD (i : Nat) {x : Str} (h : SV X L (ρ.set i (.dic [])) rest E) (hN : X.N.Nodup := by first | assumption | decide +kernel) (hi : X.N[i]? = some x := by rfl) (hx : Loc X.env.scope x := by first | exact Or.inl rfl | exact Or.inr rfl)
    (hs : swapsWith (.Dict [] [] p) (some (.Name x pos')) pos.line X.env = pure false := by rfl) (hf : X.fn x = true ∨ X.env.scope.names.lookup x = some .local := by first | exact .inl rfl | exact .inr rfl) : SV X L ρ (.Assign [.Name x pos'] (.Dict [] [] p) pos :: rest) E := .mk fun σ G0 H0 G H st =>
  wSs_cons (wS_of (ps_set (i := i) hN hi hx pe_dnew0 hs hf) (fun q hq => h.run _ G0 H0 G _ (st.newDic (xs := []) (cs := []) hq trivial)))
/-- x[k] = e, x a dict of the def's own, k a cell -/
theorem sv_put (i : Nat) {x : Str} {px : Pos} {c : Int × Int} {n : Nat} (hr : Room n X.A) (hi : ρ[i]? = some (.dic cs)) (he : EV X L ρ e d) (hk : EV X L ρ k (cell c.1 c.2)) (hl : cs.length < sizeLine) (h : SV X L (ρ.set i (.dic (ins cs c))) rest E) (hN : X.N[i]? = some x := by rfl)
    (hv : Vis X.env.scope x := by first | exact Or.inl rfl | exact Or.inr (Or.inl rfl) | exact Or.inr (Or.inr rfl)) (hd : (x == ("__debug__" : Str)) = false := by decide) (hcd : (x == ("__classdict__" : Str)) = false := by decide)
    (hs : swapsWithSole [.Subscript (.Name x px) k pos'] e pos.line X.env = pure false := by rfl) (hw : swappedStores [.Subscript (.Name x px) k pos'] e X.env = pure none := by rfl)
    (h1 : (assignEach [.Subscript (.Name x px) k pos'] X.env).map (·.2) = [assign (.Subscript (.Name x px) k pos') X.env] := by rfl)
    (ha : ∀ v, assign (.Subscript (.Name x px) k pos') X.env v = (do
      let ov ← holding [v] (eval (.Name x px) X.env)
      let iv ← holding [v, ov] (eval k X.env)
      standAt pos'
      holding [v, ov, iv] (setItem ov iv v)
      release [v, ov, iv] []) := by intro _; rfl) : SV X L ρ (.Assign [.Subscript (.Name x px) k pos'] e pos :: rest) E := .mk fun σ G0 H0 G H st => by
  refine wSs_cons (wS_of (ps_asg pe_w (pg_sub (pe_var hN hv hd hcd) pe_w (set_dic (by have := hr.units; omega)) ha) hs hw h1) (he.run σ G0 H0 G H st _ fun v G1 H1 e1 r1 => ?_))
  have st1 := st.step e1
  obtain ⟨q, xs, k1, k2, k3, k4, k5⟩ := st1.sl i _ hi
  have hσ := join_some k1
  refine ⟨_, hσ, hk.run σ G0 H0 G1 H1 st1 _ fun z G2 H2 e2 r2 => ?_⟩
  have st2 := st1.step e2
  cases r2 with
  | tup hq hr2 =>
    obtain ⟨v1, v2, rfl, w1, w2⟩ := RpA.two hr2
    cases w1
    cases w2
    have hk5 := k5.mono e2.gg
    have hg2 : G2 q = none := e2.unknown k2 k3
    refine ⟨q, _, c, xs, cs, rfl, rfl, e2.hh _ _ k2, hk5.mono e2.gh, seqT e2.gh hq, by rw [k5.len]; exact hl, fun u => ?_⟩
    exact h.run σ G0 H0 G2 _ (st2.updO (r' := .dic (ins cs c)) hi trivial trivial hσ fun n1 n2 => ⟨q, _, rfl, upd_same, n1, n2, hk5.stored hq⟩)
/-- the own dict is a datum from here on -/
theorem sv_freezeD (i : Nat) (hi : ρ[i]? = some (.dic cs)) (h : SV X L (ρ.set i (.v (.dct cs))) rest E) : SV X L ρ rest E := .mk fun σ G0 H0 G H st => by
  obtain ⟨p, xs, _, _, _, _, st1⟩ := st.freezeD hi
  exact h.run σ G0 H0 _ H st1
theorem op2NotInD {K : PySem.W.Frag} {c : Int × Int} : Op2 K L (fun x y H Q => ∃ (b a : Addr) (c : Int × Int) (xs : List (List Int × Addr × Value)) (cs : List (Int × Int)), x = .ref b ∧ y = .ref a ∧ H a = some (.ext (DicO a xs)) ∧ KeyOk K H xs cs ∧ SqT K H b [.int c.1, .int c.2] ∧ Q (.bl (!decide (c ∈ cs))) H) (cell c.1 c.2) (.dct cs) (.bl (!decide (c ∈ cs))) := fun G H v u s r1 r2 Q kk => by
  cases r1 with
  | tup hq hr =>
    obtain ⟨v1, v2, rfl, w1, w2⟩ := RpA.two hr
    cases w1
    cases w2
    cases r2 with
    | dct hd hk => exact ⟨_, _, c, _, cs, rfl, rfl, s _ _ hd, hk.mono s, seqT s hq, kk _ G H (.refl s) (.bl _)⟩
theorem tv_notInD {c : Int × Int} {n : Nat} (hr : Room n X.A) (ha : EV X L ρ a (cell c.1 c.2)) (hb : EV X L ρ b (.dct cs)) (hm : behindInMarks .NotIn b = false := by rfl) : TV X L ρ (.Compare a [.NotIn] [b] pos) (!decide (c ∈ cs)) := tv_cmp (op_notInD (by have := hr.units; omega)) op2NotInD ha hb hm
end
end Z

namespace Z
open PySem PySem.Spec PyProof.Rows PySem.W PySem.Calls L2

theorem RpA.setI {K : PySem.W.Frag} {L : Kl} {G : Hp} {v : V} {d : D} (h : Rp K L G v d) : ∀ {vs : List V} {ds : List D}, RpA K L G vs ds → ∀ j : Nat, RpA K L G (vs.set j v) (ds.set j d)
  | _, _, .nil, _ => .nil
  | _, _, .cons _ t, 0 => .cons h t
  | _, _, .cons r t, j + 1 => .cons r (RpA.setI h t j)
section
variable {X : Cx} {L : Kl} {ρ : List Sl} {a b c e k o : Expr} {es rs : List Expr} {d da db : D} {ds : List D} {pos p pos' : Pos} {E : En} {rest : List Stmt} {cs : List (Int × Int)} {t u : Bool}
/-! ### is None -/
def isNon : D → Bool
  | .non => true
  | _ => false
theorem op2IsN {K : PySem.W.Frag} : Op2 K L (fun x y H Q => y = .non ∧ Q (.bl (decide (x = .non))) H) da .non (.bl (isNon da)) := fun G H v u s r1 r2 Q kk => by
  cases r2
  refine ⟨rfl, ?_⟩
  rw [show decide (v = V.non) = isNon da by cases r1 <;> rfl]
  exact kk _ G H (.refl s) (.bl _)
theorem ev_isN (ha : EV X L ρ a da) (hb : EV X L ρ b .non) : EV X L ρ (.Compare a [.Is] [b] pos) (.bl (isNon da)) := ev_cmp op_isN op2IsN ha hb (nomark _)
/-! ### truth of a list -/
theorem tv_lst (h : EV X L ρ e (.lst ds)) (he : ∀ whole, isTrue e X.env whole = (do let v ← whole; standAt e.pos; holding [v] (truthy v)) := by intro _; rfl) : TV X L ρ e (!ds.isEmpty) := .mk fun σ G0 H0 G H st Q kk =>
  wT_of (pt_truth pe_w he) (h.run σ G0 H0 G H st _ fun v G1 H1 e1 r1 => by
    cases r1 with
    | @lst q vs _ hq hr =>
      refine ⟨_, .inl ⟨vs, Same.seq e1.gh hq, rfl⟩, ?_⟩
      rw [show vs.isEmpty = ds.isEmpty by cases hr <;> rfl]
      exact kk G1 H1 e1)
/-! ### in a list of cells -/
/-! ### own lists: x[i] = e, x.clear() -/
theorem sv_setL (i : Nat) {x : Str} {px : Pos} {n : Int} {j : Nat} (hi : ρ[i]? = some (.own ds)) (he : EV X L ρ e d) (hk : EV X L ρ k (.int n)) (hj : ixN ds.length n = some j) (h : SV X L (ρ.set i (.own (ds.set j d))) rest E) (hN : X.N[i]? = some x := by rfl)
    (hv : Vis X.env.scope x := by first | exact Or.inl rfl | exact Or.inr (Or.inl rfl) | exact Or.inr (Or.inr rfl)) (hd : (x == ("__debug__" : Str)) = false := by decide) (hcd : (x == ("__classdict__" : Str)) = false := by decide)
    (hs : swapsWithSole [.Subscript (.Name x px) k pos'] e pos.line X.env = pure false := by rfl) (hw : swappedStores [.Subscript (.Name x px) k pos'] e X.env = pure none := by rfl)
    (h1 : (assignEach [.Subscript (.Name x px) k pos'] X.env).map (·.2) = [assign (.Subscript (.Name x px) k pos') X.env] := by rfl)
    (ha : ∀ v, assign (.Subscript (.Name x px) k pos') X.env v = (do
      let ov ← holding [v] (eval (.Name x px) X.env)
      let iv ← holding [v, ov] (eval k X.env)
      standAt pos'
      holding [v, ov, iv] (setItem ov iv v)
      release [v, ov, iv] []) := by intro _; rfl) : SV X L ρ (.Assign [.Subscript (.Name x px) k pos'] e pos :: rest) E := .mk fun σ G0 H0 G H st => by
  refine wSs_cons (wS_of (ps_asg pe_w (pg_sub (pe_var hN hv hd hcd) pe_w set_list ha) hs hw h1) (he.run σ G0 H0 G H st _ fun v G1 H1 e1 r1 => ?_))
  have st1 := st.step e1
  obtain ⟨q, xs, k1, k2, k3, k4, k5⟩ := st1.sl i _ hi
  have hσ := join_some k1
  refine ⟨_, hσ, hk.run σ G0 H0 G1 H1 st1 _ fun z G2 H2 e2 r2 => ?_⟩
  have st2 := st1.step e2
  cases r2
  refine ⟨q, xs, n, j, rfl, rfl, e2.hh _ _ k2, by rw [k5.length]; exact hj, ?_⟩
  refine h.run σ G0 H0 G2 _ (st2.updO (r' := .own (ds.set j d)) hi trivial trivial hσ fun n1 n2 => ⟨q, _, rfl, upd_same, n1, n2, ?_⟩)
  exact RpA.setI (r1.mono e2.gg) (k5.mono e2.gg) j
end
end Z

namespace Z
open PySem PySem.Spec PyProof.Rows PySem.W PySem.Calls L2

def pairD (p : D × D) : D := .tup [p.1, p.2]
def enumP (ds : List D) : List (D × D) := ds.zipIdx.map fun q => (.int (q.2 : Nat), q.1)
theorem enumP_get (ds : List D) (i : Nat) : ((enumP ds).map pairD)[i]? = (ds[i]?).map fun d => D.tup [.int (i : Nat), d] := by
  unfold enumP
  rw [List.map_map, List.getElem?_map, List.getElem?_zipIdx]
  cases ds[i]? with
  | none => rfl
  | some d => simp [pairD]
theorem enumP_len (ds : List D) : (enumP ds).length = ds.length := by unfold enumP; simp
section
variable {X : Cx} {L : Kl} {ρ : List Sl} {a b c e k o iter elt : Expr} {es rs ifs : List Expr} {d da db : D} {ds : List D} {pos p pos' : Pos} {E : En} {rest : List Stmt} {cs : List (Int × Int)} {t u : Bool} {scope : Scope} {js : List Nat} {ys : List Str}
/-- enumerate(a), as what a comprehension goes through -/
theorem src_enum {z : Str} {elts : List Expr} {x1 : Nat} {pt p2 : Pos} (ha : EV X L ρ a (.lst ds)) (hm : X.mg z = none) (hz : z = "enumerate" := by rfl) (hgl : Gl X "enumerate" := by rfl) (hst : starEach [a] X.env = [(false, eval a X.env)] := by rfl) (hpl : (backTo p2 (starEach [] X.env)).any (·.1) = false := by rfl) :
    Src X L ρ (.Tuple elts x1 pt) (.Call (.Name z p) [a] [] p2) ((enumP ds).map pairD) := .mk fun σ G0 H0 G H st pins s I => by
  subst hz
  refine pi_enum (pe_w (e := a)) hgl hm hst hpl pins s σ H _ I (ha.run σ G0 H0 G H st _ fun v G1 H1 e1 r1 => ?_)
  cases r1 with
  | @lst q vs _ hq hr =>
    have hlen : ((enumP ds).map pairD).length = vs.length := by rw [List.length_map, enumP_len, hr.length]
    refine ⟨q, rfl, ⟨vs, Same.seq e1.gh hq⟩, G1, e1, fun H' i sm hi => ⟨vs, vs[i]'(by rw [← hlen]; exact hi), Same.seq sm hq, by simp⟩, fun G' H' H'' i y _ sm sm' hy => ?_, fun H' i sm hi => ⟨vs, Same.seq sm hq, by rw [← hlen]; exact hi⟩⟩
    obtain ⟨p', w, rfl, hp', rfl, hy⟩ := hy
    obtain ⟨d, h1, h2⟩ := hr.get' (hy vs (Same.seq sm' (Same.seq sm hq)))
    have ex : Ext G' H' (upd G' p' (.tup [.int (i : Nat), w])) (upd H' p' (.tup [.int (i : Nat), w])) := .alloc sm' hp' _
    exact ⟨_, .tup [.int (i : Nat), d], ex, by rw [enumP_get, h1]; rfl, .tup (SqT.of upd_same) (.cons (.int _) (.cons ((h2.mono sm).mono ex.gg) .nil))⟩
def fP (f : D × D → D) : D → D
  | .tup [a, b] => f (a, b)
  | _ => .non
def zP (f : D × D → Bool) : D → Bool
  | .tup [a, b] => f (a, b)
  | _ => false
theorem filt_pair (f : D × D → D) (pz : D × D → Bool) : ∀ ps : List (D × D), ((ps.map pairD).filter (zP pz)).map (fP f) = (ps.filter pz).map f
  | [] => rfl
  | (x, y) :: ps => by
    have ih := filt_pair f pz ps
    rw [List.map_cons, List.filter_cons, List.filter_cons]
    show List.map (fP f) (if pz (x, y) = true then pairD (x, y) :: _ else _) = List.map f (if pz (x, y) = true then _ else _)
    by_cases h : pz (x, y) = true
    · rw [if_pos h, if_pos h, List.map_cons, List.map_cons, ih]
      rfl
    · rw [if_neg h, if_neg h, ih]
/-- [elt for x, y in iter if ..] -/
theorem el_compPS {x y : Str} {px py pt : Pos} {kt : Nat} {cl : List (Str × Addr)} {ps : List (D × D)} (f : D × D → D) (pz : D × D → Bool) (cl' : cl = cl) (cp : Caps X scope ρ js ys) (src : Src X L ρ (.Tuple [.Name x px, .Name y py] kt pt) iter (ps.map pairD)) (hlen : ps.length < sizeLine)
    (hb : ∀ (C : Addr) (s : Shared) (H : Hp) (fp : List Addr) (q : D × D), q ∈ ps → Tests (compCx X (x :: y :: ys) scope cl C s H fp) L (.v q.1 :: .v q.2 :: js.map fun j => ρ.getD j .no) ifs (pz q) ∧
      (pz q = true → EV (compCx X (x :: y :: ys) scope cl C s H fp) L (.v q.1 :: .v q.2 :: js.map fun j => ρ.getD j .no) elt (f q)))
    (hnd : (x :: y :: ys).Nodup := by decide +kernel) (hclos : closureFor scope X.env = pure cl := by rfl) (hcell : ∀ y ∈ scope.names, y.2 ≠ .cell := by decide +kernel) (hkind : scope.kind = .function := by rfl) (hnames : ∀ y ∈ scope.names, y.2 = .local → scope.names.lookup y.1 = some .local := by decide +kernel)
    (hx2 : (relabel scope X.env).names.lookup x = some .local := by rfl) (hy2 : (relabel scope X.env).names.lookup y = some .local := by rfl)
    (hcl : ∀ x c, cl.lookup x = some c → X.env.cells.lookup x = some c := by exact fun _ _ h => h) (hhas : (scope.names.all fun q => !(q.2 == .free || q.2 == .cell) || (cl.lookup q.1).isSome) = true := by rfl)
    (hcalm : X.calm = true := by rfl) (hs : ∀ x, foldedSetIterable iter X.env x = pure x := by intro _; rfl) : EL X L ρ (.ListComp elt [⟨.Tuple [.Name x px, .Name y py] kt pt, iter, ifs, 0⟩] scope pos) ((ps.filter pz).map f) := by
  rw [← filt_pair f pz ps]
  refine el_compS (ts := [x, y]) (ys := ys) (js := js) (cl := cl) (fs := fun d ρ => match d with | .tup [d1, d2] => (ρ.set 0 (.v d1)).set 1 (.v d2) | _ => ρ) (ok := fun d => ∃ d1 d2, d = .tup [d1, d2]) (fP f) (zP pz) src (by rw [List.length_map]; exact hlen) (fun d hd => ?_)
    (fun C s H fp => ⟨gv_pair (X := compCx X ([x, y] ++ ys) scope cl C s H fp) 0 1 hcalm hnd rfl (.inl hx2) rfl (.inl hy2) (.inr hx2) (.inr hy2), fun d hd => ?_⟩)
    (fun d hd => ?_) hclos hcell hkind hnames hcl (has_of hhas) cp.len cp.own cp.cap hcalm hs
  · obtain ⟨q, _, rfl⟩ := List.mem_map.mp hd
    exact ⟨_, _, rfl⟩
  · obtain ⟨q, hq, rfl⟩ := List.mem_map.mp hd
    exact hb C s H fp q hq
  · obtain ⟨q, hq, rfl⟩ := List.mem_map.mp hd
    refine ⟨by show (((rhoC ρ [x, y] js).set 0 _).set 1 _).length = _; rw [List.length_set, List.length_set], fun i r hr => ?_, fun i r h o => ?_⟩
    · match i, hr with
      | 0, hr => exact .inl (Option.some.inj hr).symm
      | 1, hr => exact .inl (Option.some.inj hr).symm
      | i + 2, hr => exact .inr hr
    · match i, h with
      | 0, h =>
        rw [← Option.some.inj h] at o
        exact o
      | 1, h =>
        rw [← Option.some.inj h] at o
        exact o
      | i + 2, h => exact cp.noown i r h o
/-! ### sum of a list of ints -/
end
end Z

namespace M
/-! ### the st-th cell of a ring -/
def rx (s st : Int) : Int := sx s (st / s) (st % s)
def ry (s st : Int) : Int := sy s (st / s) (st % s)
theorem rx_told {s d al : Int} (h1 : 1 ≤ s) (h2 : 0 ≤ d) (h3 : d < 6) (h4 : 1 ≤ al) (h5 : al ≤ s) : rx s (d * s + al) = sx s d al ∧ ry s (d * s + al) = sy s d al := by
  have h := At.told (p := lastP (s - 1) + d * s + al) ⟨h1, h2, h3, h4, h5, rfl⟩
  rw [show lastP (s - 1) + d * s + al - lastP (s - 1) = d * s + al by omega] at h
  exact h
theorem st_size {s st : Int} (h1 : 1 ≤ s) (h2 : 1 ≤ st) (h3 : st ≤ 6 * s) : SizeOf (lastP (s - 1) + st) s := by
  have e := lastP_step s
  have h0 : 0 ≤ lastP (s - 1) := by have := lastP_ge (s := s - 1) (by omega); omega
  exact ⟨by omega, by omega, by omega, .inr (by omega)⟩
theorem st_at {s st : Int} (h1 : 1 ≤ s) (h2 : 1 ≤ st) (h3 : st ≤ 6 * s) : ∃ d al, At (lastP (s - 1) + st) s d al ∧ rx s st = sx s d al ∧ ry s st = sy s d al := by
  obtain ⟨d, al, h⟩ := At.of_size (st_size h1 h2 h3) (by omega)
  have e := h.told
  rw [show lastP (s - 1) + st - lastP (s - 1) = st by omega] at e
  exact ⟨d, al, h, e⟩
theorem st_dist {s st : Int} (h1 : 1 ≤ s) (h2 : 1 ≤ st) (h3 : st ≤ 6 * s) : dist (rx s st) (ry s st) = s := by
  obtain ⟨d, al, h, e1, e2⟩ := st_at h1 h2 h3
  rw [e1, e2]
  exact side_dist h.d0 h.d1 h.a1 h.a2
end M

namespace L2
open PySem PySem.Spec PyProof.Rows

/-! ### an exception in flight: what leaving a frame does to the heap -/
/-- the exception at e: its object, and its traceback at T (or none as yet) -/
structure Fly (h : Heap) (e : Addr) (C : Value) (dx : Option Addr) (T : Option Addr) : Prop where
  ex : ∃ oe vs, h.get? e = some oe ∧ oe.cls = C ∧ oe.dict = dx ∧ oe.data = .fields vs ∧ 1 < vs.size ∧ vs[1]? = some (match T with | some t => .ref t | none => .none)
  tr : ∀ t, T = some t → t ≠ e ∧ ∃ oT ts, h.get? t = some oT ∧ oT.data = .fields ts ∧ ts[3]? = some .none
/-- what has changed: the frames' slots, the exception, its traceback; a new traceback stands at T' -/
structure Flown (fs : List Addr) (e : Addr) (T : Option Addr) (h h' : Heap) : Prop where
  keep : ∀ b o, b ∉ fs → b ≠ e → T ≠ some b → h.get? b = some o → h'.get? b = some o
  slot : ∀ b o, b ∈ fs → h.get? b = some o → ∃ sl, h'.get? b = some { o with slots := sl }
  size : h.objs.size ≤ h'.objs.size
section
variable {M : Model} {A : Around} {E : Value → Shared → Prop} {s : Shared}
theorem note_fly {base : Heap} {env : Env} {outer : List Env} {L e : Addr} {C : Value} {dx T : Option Addr} {Q : Unit → Shared → Prop}
    (hfr : A.frames = some (env :: outer)) (hl : s.heap.FunFrames base (env :: outer)) (hf : env.frame = some L) (F : Fly s.heap e C dx T)
    (h : ∀ h' t, Fly h' e C dx (some t) → s.heap.get? t = none → Flown (frs (env :: outer)) e T s.heap h' → Q () { s with heap := h' }) :
    wpAny M A (noteFrame (.ref e) env) (fun _ s2 => wpAny M A (setFlight (.ref e) none) Q E s2) E s := by
  obtain ⟨⟨oe, vs, he, hC, hdx, hd, hsz, h1⟩, htr⟩ := F
  subst hC hdx
  have nofr : ∀ {s : Shared} {b : Addr} {o : Obj} {ws : Array Value}, s.heap.FunFrames base (env :: outer) → s.heap.get? b = some o → o.data = .fields ws → b ∉ (env :: outer).filterMap (·.frame) := fun {s b o ws} hl hb hd hm => by
    obtain ⟨_, o', ho', hnf⟩ := hl.mem hm
    rw [hb] at ho'; injection ho' with ho'; subst ho'; exact hnf ws hd
  have core : ∀ (s1 : Shared) (head : Value) (hadNext : Bool), s1.heap.get? e = some oe → s1.heap.FunFrames base (env :: outer) →
      (∀ h' t, Fly h' e oe.cls oe.dict (some t) → s1.heap.get? t = none → Flown (frs (env :: outer)) e none s1.heap h' → Q () { s1 with heap := h' }) →
      wpAny M A (do let a ← frameOf env; let pl ← entryPlaceOf L hadNext; let b ← EntryCells.newEntry head a .none (rawInt L) .none pl; setField (.ref e) 1 b) (fun _ s' => wpAny M A (setFlight (.ref e) none) Q E s') E s1 := by
    intro s1 head hadNext he hl h
    have hene := nofr hl he hd
    refine wpAny_bind (wpAny_frameOf_fun hfr hl hf fun h₁ hs₁ => ?_)
    refine wpAny_bind (wpAny_entryPlaceOf fun pl hpl => ?_)
    unfold EntryCells.newEntry newFields
    refine wpAny_bind (wpAny_newObj_type ?_ (hpl.sizeOk5 _ _ _ _ _))
    have he₁ : h₁.get? e = some oe := (hs₁.2.1 e hene).trans he
    have he₂ := Heap.get?_push_of_some (h := h₁) { cls := .type "traceback", dict := none, data := .fields ([head, .ref L, .none, rawInt L, .none] ++ (if pl.isEmpty then List.replicate 6 Value.none else pl)).toArray } he₁
    refine wpAny_setField he₂ hd hsz ?_
    have hTe : h₁.objs.size ≠ e := Nat.ne_of_gt (Heap.lt_size he₁)
    have hd₃ := Obj.data_mapFields hd (·.setIfInBounds 1 (Value.ref h₁.objs.size))
    have he₃ := Heap.get?_update_self (Obj.mapFields (·.setIfInBounds 1 (Value.ref h₁.objs.size))) he₂ (Obj.isFreed_of_fields hd₃)
    have hT₃ := (Heap.get?_update_other (h₁.push { cls := .type "traceback", dict := none, data := .fields ([head, .ref L, .none, rawInt L, .none] ++ (if pl.isEmpty then List.replicate 6 Value.none else pl)).toArray })
      (Obj.mapFields (·.setIfInBounds 1 (Value.ref h₁.objs.size))) (Ne.symm hTe)).trans (Heap.get?_push_size h₁ rfl)
    unfold setFlight
    refine wpAny_bind (wpAny_field he₃ hd₃ (x := .ref h₁.objs.size) (by simp [hsz]) ?_)
    rw [if_pos (show (Value.ref h₁.objs.size != Value.none) = true from by simp)]
    refine wpAny_setField hT₃ rfl (by simp only [List.size_toArray, List.length_append, List.length_cons, List.length_nil] <;> omega) (h _ h₁.objs.size ?_ ?_ ?_)
    · refine ⟨⟨_, _, ?_, Obj.cls_mapFields _ _, ?_, hd₃, by simp [hsz], by simp [hsz]⟩, fun t ht => ?_⟩
      · rw [Heap.get?_update_other _ _ hTe]; exact he₃
      · obtain ⟨c, d, dt, sl⟩ := oe; cases dt <;> rfl
      · cases ht
        exact ⟨hTe, _, _, Heap.get?_update_self _ hT₃ (Obj.isFreed_of_fields (Obj.data_mapFields rfl _)), Obj.data_mapFields rfl _, by first | (simp; done) | (rcases hpl with rfl | ⟨_, _, _, _, _, _, _, rfl⟩ <;> simp)⟩
    · cases q : s1.heap.get? h₁.objs.size with
      | none => rfl
      | some o => have := Heap.lt_size q; rw [hs₁.1] at this; exact absurd this (Nat.lt_irrefl _)
    · have keep : ∀ b o, b ≠ e → h₁.get? b = some o →
          (((h₁.push { cls := .type "traceback", dict := none, data := .fields ([head, .ref L, .none, rawInt L, .none] ++ (if pl.isEmpty then List.replicate 6 Value.none else pl)).toArray }).update e (Obj.mapFields (·.setIfInBounds 1 (Value.ref h₁.objs.size)))).update h₁.objs.size
            (Obj.mapFields (·.setIfInBounds 3 ((none : Option Addr).elim Value.none fun f => rawInt f)))).get? b = some o := fun b o hbe hb => by
        have hbT : h₁.objs.size ≠ b := Nat.ne_of_gt (Heap.lt_size hb)
        rw [Heap.get?_update_other _ _ hbT, Heap.get?_update_other _ _ (Ne.symm hbe)]
        exact Heap.get?_push_of_some _ hb
      refine ⟨fun b o hb hbe _ ho => keep b o hbe ((hs₁.2.1 b hb).trans ho), fun b o hb ho => ?_, ?_⟩
      · obtain ⟨sl, hs⟩ := hs₁.2.2 b o ho
        exact ⟨sl, keep b _ (fun z => hene (z ▸ hb)) hs⟩
      · rw [Heap.size_after_update, Heap.size_after_update, Heap.size_push, hs₁.1]
        exact Nat.le_succ _
  unfold noteFrame
  simp only [hf]
  cases T with
  | none =>
    refine wpAny_bind (wpAny_field he hd h1 ?_)
    rw [if_neg (by decide)]
    exact core s _ _ he hl h
  | some t =>
    obtain ⟨hTe, oT, ts, hT, hdT, h3⟩ := htr t rfl
    refine wpAny_bind (wpAny_field he hd h1 ?_)
    rw [if_pos (show (Value.ref t != Value.none) = true from by simp)]
    refine wpAny_bind (wpAny_field hT hdT h3 ?_)
    rw [if_neg (show ¬ ((Value.none == rawInt L) = true) from by simp [rawInt])]
    refine wpAny_bind (wpAny_setField hT hdT (Array.getElem?_eq_some_iff.mp h3).1 ?_)
    have other : ∀ b, b ≠ t → (s.heap.update t (Obj.mapFields (·.setIfInBounds 3 Value.none))).get? b = s.heap.get? b := fun b hb => Heap.get?_update_other _ _ (Ne.symm hb)
    have noRecord : ∀ b o, s.heap.get? b = some o → (∀ vs, o.data ≠ .fields vs) → b ≠ t := fun b o hb hnf q => by
      rw [q, hT] at hb; injection hb with hb; subst hb; exact hnf ts hdT
    refine core { s with heap := s.heap.update t (Obj.mapFields (·.setIfInBounds 3 Value.none)) } _ _ ((other e (Ne.symm hTe)).trans he) (hl.of_keeps fun b o hb hnf => ⟨o, (other b (noRecord b o hb hnf)).trans hb, rfl⟩) fun h' t' f n w => ?_
    refine h h' t' f ?_ ⟨fun b o hb hbe hbt ho => w.keep b o hb hbe (by intro z; cases z) ((other b fun z => hbt (by rw [z])).trans ho), fun b o hb ho => ?_, ?_⟩
    · by_cases z : t' = t
      · subst z
        have := Heap.get?_update_self (Obj.mapFields (·.setIfInBounds 3 Value.none)) hT (Obj.isFreed_of_fields (Obj.data_mapFields hdT _))
        rw [show ({ s with heap := s.heap.update t' (Obj.mapFields (·.setIfInBounds 3 Value.none)) } : Shared).heap.get? t' = _ from this] at n
        cases n
      · exact (other t' z).symm.trans n
    · exact w.slot b o hb ((other b fun z => nofr hl hT hdT (z ▸ hb)).trans ho)
    · have := w.size
      rw [show ({ s with heap := s.heap.update t (Obj.mapFields (·.setIfInBounds 3 Value.none)) } : Shared).heap.objs.size = s.heap.objs.size from Heap.size_after_update ..] at this
      exact this
theorem leave_fly {base : Heap} {env : Env} {outer : List Env} {L e : Addr} {C : Value} {dx T : Option Addr} {Q : Unit → Shared → Prop}
    (hfr : A.frames = some (env :: outer)) (hl : s.heap.FunFrames base (env :: outer)) (hf : env.frame = some L) (F : Fly s.heap e C dx T)
    (h : ∀ h' t, Fly h' e C dx (some t) → s.heap.get? t = none → Flown (frs (env :: outer)) e T s.heap h' → Q () { s with heap := h' }) : wpAny M A (leaving env (.ref e)) Q E s := by
  unfold leaving
  exact wpAny_bind (note_fly hfr hl hf F h)
end
end L2

namespace L2
open PySem PySem.Spec PyProof.Rows

theorem HOk.flown {P : Program} {w : World} {H : Hp} {h h' : Heap} {fs : List Addr} {e : Addr} {T : Option Addr} (ok : HOk P w H h) (W : Flown fs e T h h') (hfs : ∀ b ∈ fs, H b = none) (he : H e = none) (hT : ∀ t, T = some t → H t = none) : HOk P w H h' := fun a o q => by
  have nx : ∀ b u, H b = some u → b ∉ fs ∧ b ≠ e ∧ T ≠ some b := fun b u hb => ⟨fun z => (by rw [hfs b z] at hb; cases hb), fun z => (by rw [z, he] at hb; cases hb), fun z => (by rw [hT b z] at hb; cases hb)⟩
  refine (ok a o q).stay (fun b u hb hu => ?_) (fun _ z => z) fun _ _ z => z
  rcases hb with rfl | hb
  · obtain ⟨h1, h2, h3⟩ := nx _ _ q
    exact W.keep _ _ h1 h2 h3 hu
  · obtain ⟨h1, h2, h3⟩ := nx _ _ hb
    exact W.keep _ _ h1 h2 h3 hu
theorem HOk.here {P : Program} {w : World} {H : Hp} {h : Heap} {a : Addr} {u : HO} (ok : HOk P w H h) (q : H a = some u) : ∃ o, h.get? a = some o := by
  have hok := ok a u q
  cases u with
  | lst xs => obtain ⟨_, _, _, _, e⟩ := hok; exact ⟨_, e⟩
  | tup xs => obtain ⟨_, _, _, o, e, _⟩ := hok; exact ⟨_, e⟩
  | dK kvs => obtain ⟨_, _, _, _, o, _, _, e, _⟩ := hok; exact ⟨_, e⟩
  | dT kvs => obtain ⟨_, _, _, _, o, _, _, e, _⟩ := hok; exact ⟨_, e⟩
  | set S n => obtain ⟨o, _, _, _, e, _⟩ := hok; exact ⟨_, e⟩
  | ins C dx fs => obtain ⟨_, _, _, e, _⟩ := hok; exact ⟨_, e⟩
  | own y => obtain ⟨_, e⟩ := hok; exact ⟨_, e⟩
  | xd fs => obtain ⟨_, ⟨_, _, _, e, _⟩, _⟩ := hok; exact ⟨_, e⟩
  | rng lo hi => obtain ⟨_, _, _, e⟩ := hok; exact ⟨_, e⟩
  | frz ob u => obtain ⟨e, _⟩ := hok; exact ⟨_, e⟩
  | tbl ps => exact ⟨_, show h.get? a = some _ from hok⟩
  | met f y => exact ⟨_, show h.get? a = some _ from hok⟩
  | ext φ => obtain ⟨_, ⟨_, e⟩, _⟩ := hok; exact ⟨_, e⟩
theorem HOk.gone {P : Program} {w : World} {H : Hp} {h : Heap} {a : Addr} (ok : HOk P w H h) (q : h.get? a = none) : H a = none := by
  cases e : H a with
  | none => rfl
  | some u =>
    obtain ⟨o, ho⟩ := ok.here e
    rw [ho] at q
    cases q
/-- how an exception lies behind a call: it is newer than the call, its traceback too; nothing else has changed but by the rules -/
def CXr (P : Program) (w : World) : CXT := fun outer H s E e s' => ∃ ea C dx T H', e = .ref ea ∧ s'.os = s.os ∧ AllBare s'.gens ∧ Un (frs outer) [] H H' s.heap s'.heap ∧ HOk P w H' s'.heap ∧ Fly s'.heap ea C dx (some T) ∧
  H' ea = none ∧ H' T = none ∧ s.heap.get? ea = none ∧ s.heap.get? T = none ∧ E C dx H'
section
variable {P : Program} {w : World} {K : PySem.W.Frag} {mg : Str → Option Value} {base : Heap} {N : List Str} {qual : Str} {scope : Scope} {f : Addr} {cd : Value} {A : Around} {outer : List Env} {s0 : Shared} {H0 : Hp} {E : XK}
theorem xe_of {pins : List (Addr × Obj)} {σ : St} {H : Hp} {s : Shared} {ea : Addr} {C : Value} {dx T : Option Addr} (I : Inv (cxOf (CXr P w) P w K mg base N qual scope f cd A outer s0 H0 E) pins σ H s) (F : Fly s.heap ea C dx T) (he : H ea = none) (hT : ∀ t, T = some t → H t = none)
    (ne : s0.heap.get? ea = none) (nT : ∀ t, T = some t → s0.heap.get? t = none) (hE : E C dx H) : (cxOf (CXr P w) P w K mg base N qual scope f cd A outer s0 H0 E).xe (.ref ea) s := by
  refine leave_fly I.ok.frames I.stack rfl F fun h' t F' nt W => ?_
  have hu : Un (frs outer) [] H0 H s0.heap s.heap := I.base
  have lo : ∀ b o, s0.heap.get? b = some o → b ≠ s0.heap.objs.size := fun b o hb => Nat.ne_of_lt (Heap.lt_size hb)
  have nfr : ∀ b o, s0.heap.get? b = some o → b ∉ frs outer → b ∉ frs (envOfC qual scope s0.heap.objs.size f cd :: outer) := fun b o hb h z => by
    rcases List.mem_cons.mp (I.stkSub b z) with e | e
    · exact lo b o hb e
    · exact h e
  have nx : ∀ b o, s0.heap.get? b = some o → b ≠ ea ∧ T ≠ some b := fun b o hb => ⟨fun z => (by rw [z, ne] at hb; cases hb), fun z => (by rw [nT b z] at hb; cases hb)⟩
  have sub : ∀ b, b ∈ frs outer → b ∈ frs (envOfC qual scope s0.heap.objs.size f cd :: outer) := fun b hb => List.mem_cons_of_mem _ hb
  refine ⟨ea, C, dx, t, H, rfl, I.os, I.bare, ⟨fun b o q n hb hx => ?_, fun b o q n hb hx => ?_, hu.free, fun b o q hx => ?_, hu.tups, hu.frzs, hu.tbls⟩, I.hok.flown W I.stkFree he hT, F', he, ?_, ne, ?_, hE⟩
  · exact W.keep b o (nfr b o q hb) (nx b o q).1 (nx b o q).2 (hu.keep b o q n hb hx)
  · obtain ⟨sl, hs⟩ := hu.slot b o q n hb hx
    obtain ⟨sl', hs'⟩ := W.slot b _ (sub b hb) hs
    exact ⟨sl', hs'⟩
  · obtain ⟨o', ho'⟩ := hu.there b o q hx
    by_cases hb : b ∈ frs (envOfC qual scope s0.heap.objs.size f cd :: outer)
    · obtain ⟨sl, hs⟩ := W.slot b o' hb ho'
      exact ⟨_, hs⟩
    · exact ⟨o', W.keep b o' hb (nx b o q).1 (nx b o q).2 ho'⟩
  · exact I.hok.gone nt
  · cases q : s0.heap.get? t with
    | none => rfl
    | some o =>
      obtain ⟨o', ho'⟩ := hu.there t o q (by simp)
      rw [ho'] at nt
      cases nt
theorem pass_r : Passes (CXr P w) (cxOf (CXr P w) P w K mg base N qual scope f cd A outer s0 H0 E) E := fun pins σ H s e s' I x => by
  obtain ⟨ea, C, dx, T, H', rfl, hos, hb, u, hok, F, h1, h2, n1, n2, hE⟩ := x
  have I' : Inv (cxOf (CXr P w) P w K mg base N qual scope f cd A outer s0 H0 E) pins σ H' s' := I.call' (ch := []) hos u hok hb (fun b z => absurd z (by simp))
  have old : ∀ b, s.heap.get? b = none → s0.heap.get? b = none := fun b hb => by
    cases q : s0.heap.get? b with
    | none => rfl
    | some o =>
      obtain ⟨o', ho'⟩ := I.base.there b o q (show b ∉ ([] : List Addr) by simp)
      rw [ho'] at hb
      cases hb
  exact xe_of I' F h1 (fun t ht => by cases ht; exact h2) (old _ n1) (fun t ht => by cases ht; exact old _ n2) hE
end
end L2

namespace L2
open PySem PySem.Spec PyProof.Rows

/-! ### raise C(..) of an own exception without an __init__ -/
theorem exc_obj {K : PySem.W.Frag} {h : Heap} {C : Addr} {bmB : List Value} {newId : String} (X : K.In h) (q : PySem.W.excIn K C bmB newId = true) :
    ∃ bm N nm qn bs hdct sn sub ab col dd k0 k1 k2 k3 k5 mN, h.get? C = some (excClassObj nm qn C N bs bm hdct sn sub ab col dd k0 k1 k2 k3 k5 newId) ∧ h.Ns N mN ∧ mN "__init__" = none ∧ OwnTail h bmB bm := by
  unfold PySem.W.excIn at q
  split at q
  · rename_i dd cd sl ho
    split at q
    · rename_i C' bm k0 k1 k2 k3 n k5 hm hs
      simp only [Bool.and_eq_true, beq_iff_eq, Bool.not_eq_true'] at q
      obtain ⟨⟨⟨⟨⟨rfl, rfl⟩, hdel⟩, ht⟩, hok⟩, hni⟩ := q
      obtain ⟨nm, bs, mro, ns, qn, hd, sn, sub, ab, col, del⟩ := cd
      dsimp only at hm hdel hok hni
      subst hm hdel
      have hsl : sl = #[k0, k1, k2, k3, some (.builtin n), k5] := by
        obtain ⟨l⟩ := sl
        simp only at hs
        rw [hs]
      subst hsl
      exact ⟨bm, ns, nm, qn, bs, hd, sn, sub, ab, col, dd, k0, k1, k2, k3, k5, _, X _ _ ho, .of_isNs (PySem.W.isNs_of_in X hok), PySem.W.nsMap_none_of_in X hok hni, PySem.W.tail_of_in X ht⟩
    · cases q
  · cases q
/-- an exception of the class at C, new since the body began, reaches what the body wants of exceptions -/
def Thrown (X : Cx) (C : Value) (dx : Option Addr) (H : Hp) : Prop := ∀ (pins : List (Addr × Obj)) (σ : St) (s : Shared) (ea : Addr), Inv X pins σ H s → Fly s.heap ea C dx none → H ea = none → X.s₀.heap.get? ea = none → X.xe (.ref ea) s
section
variable {X : Cx} {C : Addr} {bmB : List Value} {B newId initId : String} {x : Str} {e : Expr} {es : List Expr} {t : TA} {np cpos pos : Pos}
theorem Inv.old {pins : List (Addr × Obj)} {σ : St} {H : Hp} {s : Shared} (I : Inv X pins σ H s) {b : Addr} (hx : X.ex = []) (hb : s.heap.get? b = none) : X.s₀.heap.get? b = none := by
  cases q : X.s₀.heap.get? b with
  | none => rfl
  | some o =>
    obtain ⟨o', ho'⟩ := I.base.there b o q (by rw [hx]; simp)
    rw [ho'] at hb
    cases hb
theorem ps_raise0 (q : PySem.W.excIn X.K C bmB newId = true) (FB : ExcBaseFacts B newId initId bmB) (hg : Gl X x) (hm : X.mg x = some (.ref C)) (hc : X.calm = true) (hx : X.ex = []) (ha : PA X (e :: es) t)
    (hd : (x == ("__debug__" : Str)) = false := by decide) (he : starEach (e :: es) X.env = (false, eval e X.env) :: starEach es X.env := by rfl) (hpl : (backTo cpos (starEach es X.env)).any (·.1) = false := by rfl) :
    PS X (.Raise (some (.Call (.Name x np) (e :: es) [] cpos)) none pos) (fun _ σ H => t σ H fun vs H1 => vs.length ≤ sizeLine ∧ Thrown X (.ref C) none H1) := by
  intro pins s σ H D I hq
  obtain ⟨bm, N, nm, qn, bs, hdct, sn, sub, ab, col, dd, k0, k1, k2, k3, k5, mN, hC, hN, hni, T⟩ := exc_obj I.mod.kin q
  refine wpAny_Raise_call_subT (C := C) (nm := nm) (q := qn) (N := N) (bs := bs) (bm := bm) (hdct := hdct) (sn := sn) (sub := sub) (ab := ab) (col := col) (dd := dd) (k0 := k0) (k1 := k1) (k2 := k2) (k3 := k3) (k5 := k5)
    FB (mN := mN) (T.hasType FB.hasBase) (I.ok.hd hc) (by rw [he]; show (false || (backTo cpos (starEach es X.env)).any (·.1)) = false; rw [hpl]; rfl) hni (ld_glob I hg hm ⟨rfl, ?_⟩ hd)
  have hA := ha cpos pins s σ H _ I hq
  rw [he] at hA ⊢
  refine Calls.evalArgs_plain (thn hA fun us s2 ⟨vs, H2, I2, r2, hl, hT⟩ => ⟨rfl, by rw [← r2.length]; exact hl, I2.bk _ _ hC, hN.keeps I2.bk, T.keeps I2.bk, fun h' e hm => ?_⟩)
  obtain ⟨tp, h1, h2, h3⟩ := hm.there
  refine hT pins σ { s2 with heap := h' } e (I2.kept hm.keeps) ⟨⟨_, _, h1, rfl, rfl, rfl, (show 1 < 6 by decide), rfl⟩, fun t ht => by cases ht⟩ (I2.hok.gone hm.new) (I2.old hx hm.new)
end
end L2

set_option maxHeartbeats 4000000
namespace PySem
open PySem.Spec PyProof.Rows
section
variable {prog : Program} {w : World} {A : Around} {E : Value → Shared → Prop} {h : Heap} {g : Array GenState} {d : Drawn} {t : Nat} {os : OsState}
variable {nm q : Str} {C N : Addr} {bs bm bmB : List Value} {hdct : Bool} {sn : List Str} {sub : List Value} {ab : Bool} {col : Option Bool} {dd : Option Addr} {k0 k1 k2 k3 k5 : Option Value} {B newId initId : String}
/-- the new exception's object -/
abbrev exNew (C tp : Addr) : Obj := { cls := .ref C, data := .fields #[.ref tp, .none, .none, .none, .bool false, .none] }
theorem type_call_init (F : ExcBaseFacts B newId initId bmB) (T : OwnTail h bmB bm) {mN : Str → Option Value} {f : Addr} {of : Obj} {rest : List Value} {Q : Fin → Shared → Prop}
    (hC : h.get? C = some (excClassObj nm q C N bs bm hdct sn sub ab col dd k0 k1 k2 k3 k5 newId)) (hn : h.Ns N mN) (hi : mN "__init__" = some (.ref f)) (hf : h.get? f = some of) (hfc : of.cls = .type "function")
    (hq : wpAny (model prog w) A (call (.ref f) (.ref (h.objs.size + 1) :: rest)) (fun r s' => r = .none ∧ Q (.done (.ret (.ref (h.objs.size + 1)))) s') E
      ⟨(h.push { cls := .type "tuple", data := .seq rest.toArray }).push (exNew C h.objs.size), g, d, t, os⟩) (hrest : rest.length ≤ sizeLine := by size_fits) :
    wpAny (model prog w) A (Builtin.«type.__call__» ⟨.ref C :: rest, []⟩) Q E ⟨h, g, d, t, os⟩ := by
  repeat (first | with_reducible refine wpAny_loadPart_at hC ?_ | with_reducible refine wpAny_madeBy_exc hC ?_ | wp_step)
  refine codeAny_call_builtin_code (Code.quiet_builtin _ F.quiet) (wpAny_check_new_subT F T hC ?_)
  refine codeAny_exc_new_subT F T hC ?_ hrest
  show wpAny _ _ _ _ _ _
  have hC₁ := Heap.get?_push_of_some { cls := .ref C, data := .fields #[.ref h.objs.size, .none, .none, .none, .bool false, .none] }
    (Heap.get?_push_of_some { cls := .type "tuple", data := .seq rest.toArray } hC)
  have hn₁ : ((h.push { cls := .type "tuple", data := .seq rest.toArray }).push { cls := .ref C, data := .fields #[.ref h.objs.size, .none, .none, .none, .bool false, .none] }).Ns N mN :=
    let ⟨o, es, ep, e, r⟩ := hn; ⟨o, es, ep, Heap.get?_push_of_some _ (Heap.get?_push_of_some _ e), r⟩
  have hget : ((h.push { cls := .type "tuple", data := .seq rest.toArray }).push
      { cls := .ref C, data := .fields #[.ref h.objs.size, .none, .none, .none, .bool false, .none] }).get? (h.objs.size + 1) = some
      { cls := .ref C, data := .fields #[.ref h.objs.size, .none, .none, .none, .bool false, .none] } := by heap_get
  have hcC : (Value.ref C :: bm).contains (.ref C) = true := by simp
  have T₁ := T.keeps (h' := (h.push { cls := .type "tuple", data := .seq rest.toArray }).push { cls := .ref C, data := .fields #[.ref h.objs.size, .none, .none, .none, .bool false, .none] })
    fun b o e => Heap.get?_push_of_some _ (Heap.get?_push_of_some _ e)
  unfold isInstance
  repeat (first | with_reducible refine wpAny_loadPart_at hget ?_ | (with_reducible refine wpAny_isSubtype_exc hC₁ ?_; rw [hcC]) | wp_step)
  show wpAny _ _ (typeLookup (.ref C) _) _ _ _
  refine wpAny_typeLookup_tail hC₁ hn₁ T₁ F.mroIs F.init.lookup ?_
  rw [hi]
  refine wpAny_holding (wpAny_bind (wpAny_bindSpecial_def (Heap.get?_push_of_some _ (Heap.get?_push_of_some _ hf)) hfc ?_))
  show wpAny (model prog w) A (do let r ← call (.ref f) (.ref (h.objs.size + 1) :: rest); pure (some r)) _ _ _
  refine wpAny_bind (wpAny_mono hq (fun r s' hr => ?_) fun _ _ x => x)
  obtain ⟨rfl, hQ⟩ := hr
  refine wpAny_pure ?_
  dsimp only
  rw [if_neg (by decide)]
  exact wpAny_pure hQ
/-- the class called: its __init__ is asked behind the new object -/
theorem call_exc_init (F : ExcBaseFacts B newId initId bmB) (T : OwnTail h bmB bm) {mN : Str → Option Value} {f : Addr} {of : Obj} {rest : List Value} {Q : Value → Shared → Prop}
    (hC : h.get? C = some (excClassObj nm q C N bs bm hdct sn sub ab col dd k0 k1 k2 k3 k5 newId)) (hn : h.Ns N mN) (hi : mN "__init__" = some (.ref f)) (hf : h.get? f = some of) (hfc : of.cls = .type "function")
    (hq : wpAny (model prog w) (A.under (.builtin "type.__call__" ⟨.ref C :: rest, []⟩)) (call (.ref f) (.ref (h.objs.size + 1) :: rest)) (fun r s' => r = .none ∧ Q (.ref (h.objs.size + 1)) s') E
      ⟨(h.push { cls := .type "tuple", data := .seq rest.toArray }).push (exNew C h.objs.size), g, d, t, os⟩) (hrest : rest.length ≤ sizeLine := by size_fits) :
    wpAny (model prog w) A (call (.ref C) rest) Q E ⟨h, g, d, t, os⟩ := by
  have f1 := tc_lookup
  have f2 := tc_bind (.ref C)
  have hT : (⟨h, g, d, t, os⟩ : Shared).TypeIs (.ref C) "type" := ⟨_, hC, rfl⟩
  refine wpAny_call (codeAny_of_tree ?_)
  show wpAny _ _ (callAny (.ref C) _) _ _ _
  repeat (any_goals (first | assumption | with_reducible refine wpAny_loadPart_at hC ?_ | wp_step))
  refine ⟨rfl, ?_⟩
  refine codeAny_call_builtin_at (Code.quiet_builtin _ (by decide +kernel)) entry_typeCall (wpAny_check_type_call_sub hC (type_call_init (hrest := hrest) F T hC hn hi hf hfc ?_))
  exact hq
end
section
variable {M : Model} {prog : Program} {w : World} {A : Around} {E : Value → Shared → Prop} {s : Shared} {env : Env}
variable {nm q : Str} {C N : Addr} {bs bm bmB : List Value} {hdct : Bool} {sn : List Str} {sub : List Value} {ab : Bool} {col : Option Bool} {dd : Option Addr} {k0 k1 k2 k3 k5 : Option Value} {B newId initId : String}
theorem raise_made {x : Sem Value} {Q : Flow → Shared → Prop} (hbase : bm.contains (.type "BaseException") = true) (hh : A.handled = none)
    (h : wpAny M A x (fun v s₁ => ∃ e t dx, v = .ref e ∧ s₁.heap.get? C = some (excClassObj nm q C N bs bm hdct sn sub ab col dd k0 k1 k2 k3 k5 newId) ∧
      s₁.heap.get? e = some { cls := .ref C, dict := dx, data := .fields #[.ref t, .none, .none, .none, .bool false, .none] } ∧ E (.ref e) s₁) E s) :
    wpAny M A (raiseStmt env (some x) none) Q E s := by
  have hcB : (Value.ref C :: bm).contains (.type "BaseException") = true := by rw [List.contains_cons, hbase, Bool.or_true]
  unfold raiseStmt
  refine wpAny_bind (wpAny_mono h (fun v s₁ h₁ => ?_) fun _ _ x => x)
  obtain ⟨e, t, dx, rfl, hC, he, hE⟩ := h₁
  obtain ⟨hp, g, d, tk, os⟩ := s₁
  repeat (first | with_reducible refine wpAny_loadPart_at he ?_ | with_reducible refine wpAny_loadPart_at hC ?_ | (with_reducible refine wpAny_isSubtype_exc hC ?_; rw [hcB]) | wp_step)
  exact wpAny_raiseNew_none hh hE
theorem raise_init (F : ExcBaseFacts B newId initId bmB) {mN : Str → Option Value} {f : Addr} {of : Obj} {x : Str} {np cpos pos : Pos} {args : List Expr} {Q : Flow → Shared → Prop}
    (hbase : bm.contains (.type "BaseException") = true) (hh : A.handled = none) (hplain : (backTo cpos (starEach args env)).any (·.1) = false) (hi : mN "__init__" = some (.ref f)) (hfc : of.cls = .type "function")
    (h : wpAny (model prog w) A (eval (.Name x np) env) (fun f' s₁ => f' = .ref C ∧ wpAny (model prog w) A (evalArgs (.ref C) true (backTo cpos (starEach args env)) [])
      (fun a s₂ => a.kw = [] ∧ a.pos.length ≤ sizeLine ∧ s₂.heap.get? C = some (excClassObj nm q C N bs bm hdct sn sub ab col dd k0 k1 k2 k3 k5 newId) ∧ s₂.heap.Ns N mN ∧ OwnTail s₂.heap bmB bm ∧ s₂.heap.get? f = some of ∧
        wpAny (model prog w) (A.under (.builtin "type.__call__" ⟨.ref C :: a.pos, []⟩)) (call (.ref f) (.ref (s₂.heap.objs.size + 1) :: a.pos)) (fun r s' => r = .none ∧ ∃ t dx, s'.heap.get? C = some (excClassObj nm q C N bs bm hdct sn sub ab col dd k0 k1 k2 k3 k5 newId) ∧
            s'.heap.get? (s₂.heap.objs.size + 1) = some { cls := .ref C, dict := dx, data := .fields #[.ref t, .none, .none, .none, .bool false, .none] } ∧ E (.ref (s₂.heap.objs.size + 1)) s') E
          { s₂ with heap := (s₂.heap.push { cls := .type "tuple", data := .seq a.pos.toArray }).push (exNew C s₂.heap.objs.size) }) E s₁) E s) :
    wpAny (model prog w) A (exec (.Raise (some (.Call (.Name x np) args [] cpos)) none pos) env) Q E s := by
  rw [arm_exec_Raise]
  simp only [evalOpt, Option.map]
  refine wpAny_bind (wpAny_standAt (raise_made (C := C) (nm := nm) (q := q) (N := N) (bs := bs) (bm := bm) (hdct := hdct) (sn := sn) (sub := sub) (ab := ab) (col := col) (dd := dd) (k0 := k0) (k1 := k1) (k2 := k2) (k3 := k3) (k5 := k5) (newId := newId) hbase hh (wpAny_bind (wpAny_mono (wpAny_Call_ofName (wpAny_mono h (fun f' s₁ h₁ => ?_) fun _ _ x => x)) (fun v s₃ h₃ => wpAny_bind (wpAny_standAt (wpAny_pure h₃))) fun _ _ x => x))))
  obtain ⟨rfl, h₁⟩ := h₁
  unfold callWith
  refine wpAny_bind (wpAny_holding (wpAny_mono h₁ (fun a s₂ h₂ => wpAny_bind (wpAny_standAt ?_)) fun _ _ x => x))
  obtain ⟨apos, akw⟩ := a
  obtain ⟨hkw, hlen, hC, hn, T, hf, h₂⟩ := h₂
  obtain rfl : akw = [] := hkw
  obtain ⟨hp, g, d, tk, os⟩ := s₂
  simp only [hplain]
  refine wpAny_bind (wpAny_keeperOf_exc hC ?_)
  refine wpAny_bind (call_exc_init (hrest := hlen) F T hC hn hi hf hfc (wpAny_mono h₂ (fun r s' hr => ⟨hr.1, wpAny_bind (wpAny_holding (wpAny_point (wpAny_pure ?_)))⟩) fun _ _ x => x))
  obtain ⟨_, t, dx, h3, h4, h5⟩ := hr
  exact ⟨_, t, dx, rfl, h3, h4, h5⟩
end
end PySem

set_option maxHeartbeats 4000000
namespace PySem
open PySem.Spec PyProof.Rows
section
variable {prog : Program} {w : World} {A : Around} {E : Value → Shared → Prop} {h : Heap} {g : Array GenState} {d : Drawn} {t : Nat} {os : OsState}
variable {nm q : Str} {C N : Addr} {bs bm bmB : List Value} {hdct : Bool} {sn : List Str} {sub : List Value} {ab : Bool} {col : Option Bool} {dd : Option Addr} {k0 k1 k2 k3 k5 : Option Value} {B newId initId : String}
/-- an exception's object -/
abbrev exObj (C t : Addr) (dx : Option Addr) : Obj := { cls := .ref C, dict := dx, data := .fields #[.ref t, .none, .none, .none, .bool false, .none] }
/-- the base's __init__ on an exception: its arguments are laid anew -/
theorem init_call (F : ExcBaseFacts B newId initId bmB) (T : OwnTail h bmB bm) {e t0 : Addr} {dx : Option Addr} {rest : List Value} {Q : Value → Shared → Prop}
    (hC : h.get? C = some (excClassObj nm q C N bs bm hdct sn sub ab col dd k0 k1 k2 k3 k5 newId)) (he : h.get? e = some (exObj C t0 dx))
    (hq : ∀ h', h'.get? e = some (exObj C h.objs.size dx) → (∀ b o, b ≠ e → h.get? b = some o → h'.get? b = some o) → Q .none ⟨h', g, d, t, os⟩) (hrest : rest.length ≤ sizeLine := by size_fits) :
    wpAny (model prog w) A (call (.builtin initId) (.ref e :: rest)) Q E ⟨h, g, d, t, os⟩ := by
  refine wpAny_call (codeAny_call_builtin F.init.plain F.initEntry (wpAny_check_init_subT F T hC he rfl ?_))
  wp_walk
  refine hq _ ?_ fun b o hb ho => ?_
  · rw [Heap.get?_update_self _ (Heap.get?_push_of_some _ he) rfl]
    rfl
  · rw [Heap.get?_update_other _ _ (Ne.symm hb)]
    exact Heap.get?_push_of_some _ ho
end
end PySem

set_option maxHeartbeats 4000000
namespace PySem.W
open PySem PySem.Spec PyProof.Rows PySem.Builtin PySem.Builtin.ObjectAttr
abbrev bmV : List Value := [.type "ValueError", .type "Exception", .type "BaseException", .type "object"]
theorem refuse_exc (self : Value) (C FE : Addr) : refuseLoop self "__setattr__" (.ref C :: .ref FE :: bmV) = pure () := by
  rw [refuseLoop_ref, refuseLoop_ref]
  kernel_rfl
section
variable {K : Frag} {prog : Program} {w : World} {A : Around} {s : Shared} {x C FE : Addr} {R : Result → Shared → Prop}
theorem osa_exc {ox : Obj} {od : Option Obj} {cd : ClassData} {name : Str} {tk : Tok} {v : Value} (X : K.In s.heap) (I : InstAt s.heap x ox C od) (hc : clsIn K C = some cd) (hm' : cd.mro = .ref C :: .ref FE :: bmV) (ha : findIn K (.ref C) name = some none)
    (h : wpAny (model prog w) A.in1 (storeInOwnDict (.ref x) (.ref C) (.str name tk) name v false)
      (fun fin s' => match fin with | .done f => R (.ok f) s' | .again c' => c'.quiet = true ∧ codeAny (model prog w) A c' R s') (fun e s' => R (.error e) s') s) :
    codeAny (model prog w) A (.call (.builtin "object.__setattr__") ⟨[.ref x, .str name tk, v], []⟩) R s := by
  have SF := PySem.F.store_object
  have sub : Looks (model prog w) s.heap (isInstance (.ref x) (.type "object")) true := I.type.andThen (looks_mroIn X (by unfold mroIn; rw [hc, Option.bind_some, hm']; simp))
  refine codeAny_call_builtin SF.slot.plain SF.entry (@check_slot (model prog w) _ _ s "object.__setattr__" "object" "__setattr__" (.ref x) [.str name tk, v] [] _ SF.kind SF.split sub (SF.args (.ref x) (.str name tk) v) ?_)
  have hm : Looks (model prog w) s.heap (mroOf (.ref C)) cd.mro := (looks_clsIn X hc).andThen .now
  rw [osa_eq, refuse_eq]
  refine wpAny_bind (wpAny_bind (I.type.here (wpAny_bind (hm.here ?_))))
  rw [hm', refuse_exc]
  exact wpAny_pure (wpAny_bind (I.type.here (wpAny_bind ((looks_findIn X ha).here (wpAny_bind (wpAny_pure h))))))
end
section
variable {K : Frag} {prog : Program} {w : World} {A : Around} {s : Shared} {C FE : Addr}
theorem store_exc {e t0 : Addr} {cd : ClassData} {name : Str} {tk : Tok} {v : Value} {b : Bool} {E : Value → Shared → Prop} {Q : Fin → Shared → Prop} (X : K.In s.heap) (he : s.heap.get? e = some (exObj C t0 none)) (hc : clsIn K C = some cd) (hd : cd.hasDict = true)
    (h : ∀ h', h'.get? e = some (exObj C t0 (some s.heap.objs.size)) → h'.Ns1 s.heap.objs.size (fun x => if x = name then some v else none) → (∀ b o, b ≠ e → s.heap.get? b = some o → h'.get? b = some o) → Q (.done (.ret .none)) { s with heap := h', toks := s.toks + 1 }) :
    wpAny (model prog w) A (storeInOwnDict (.ref e) (.ref C) (.str name tk) name v b) Q E s := by
  refine wpAny_bind (wpAny_pure (wpAny_bind (wpAny_bind (wpAny_loadPart he (wpAny_bind ((looks_clsIn X hc).here ?_))))))
  rw [hd]
  dsimp only
  rw [if_neg (by decide), if_neg (by simp [typeHasDict])]
  refine wpAny_bind (wpAny_alloc ?_)
  have he1 : (s.heap.push { cls := .type "dict", data := .dict #[] }).get? e = some (exObj C t0 none) := Heap.get?_push_of_some _ he
  refine wpAny_bind (wpAny_update he1 ?_)
  refine wpAny_pure ?_
  dsimp only
  have hlt : e < s.heap.objs.size := Heap.lt_size he
  generalize hp : ((s.heap.push { cls := Value.type "dict", data := Data.dict #[] }).update e fun o => { cls := o.cls, dict := some s.heap.objs.size, data := o.data, slots := o.slots }) = h1
  have e1 : h1.get? e = some (exObj C t0 (some s.heap.objs.size)) := by
    rw [← hp, Heap.get?_update_self _ he1 rfl]
  have d1 : h1.get? s.heap.objs.size = some { cls := .type "dict", data := .dict #[] } := by
    rw [← hp, Heap.get?_update_other _ _ (Nat.ne_of_lt hlt)]
    exact Heap.get?_push_size _ rfl
  have k1 : ∀ b o, b ≠ e → s.heap.get? b = some o → h1.get? b = some o := fun b o hb ho => by
    rw [← hp, Heap.get?_update_other _ _ (Ne.symm hb)]
    exact Heap.get?_push_of_some _ ho
  have n1 : h1.Ns1 s.heap.objs.size fun _ => none := ⟨_, _, _, d1, rfl, fun x hx => by simp at hx, by unfold UniqKeys; simp, fun n => rfl⟩
  clear hp
  unfold storeInDict
  refine wpAny_bind (wpAny_pure (wpAny_bind (wpAny_nsSet1 (s := { s with heap := h1 }) n1 fun h2 n2 sb => ?_)))
  obtain ⟨oD, esD, epD, hoD, hdD, hcD⟩ := n2.count (PySem.Within.cons name v PySem.Within.nil)
  refine wpAny_bind (wpAny_lookBehind hoD (by rw [hdD]; exact pastItsLine_dict (by have : esD.size ≤ 1 := hcD; rw [sizeLine_eq]; omega)) ?_)
  exact wpAny_pure (h h2 ((sb.2 e (Nat.ne_of_lt hlt)).trans e1) n2 fun b o hb ho => (sb.2 b (Nat.ne_of_lt (Heap.lt_size ho))).trans (k1 b o hb ho))
/-- e.name = v for an exception that has no dict as yet -/
theorem set_exc {e t0 : Addr} {cd : ClassData} {name : Str} {v : Value} {E : Value → Shared → Prop} {Q : Unit → Shared → Prop} (X : K.In s.heap) (he : s.heap.get? e = some (exObj C t0 none)) (hc : clsIn K C = some cd) (hm' : cd.mro = .ref C :: .ref FE :: bmV) (hd : cd.hasDict = true)
    (hs : findIn K (.ref C) "__setattr__" = some (some (.builtin "object.__setattr__"))) (ha : findIn K (.ref C) name = some none)
    (h : ∀ h', h'.get? e = some (exObj C t0 (some s.heap.objs.size)) → h'.Ns1 s.heap.objs.size (fun x => if x = name then some v else none) → (∀ b o, b ≠ e → s.heap.get? b = some o → h'.get? b = some o) → Q () { s with heap := h', toks := s.toks + 2 }) :
    wpAny (model prog w) A (setAttr (.ref e) name v) Q E s := by
  have I : InstAt s.heap e (exObj C t0 none) C none := ⟨he, rfl, rfl, trivial⟩
  exact set_plain X I hs (osa_exc (s := { s with toks := s.toks + 1 }) (FE := FE) X I hc hm' ha (store_exc (s := { s with toks := s.toks + 1 }) X he hc hd h))
end
end PySem.W

set_option maxHeartbeats 4000000
namespace PySem.W
open PySem PySem.Spec PyProof.Rows PySem.Builtin PySem.Builtin.ObjectAttr
section
variable {K : Frag} {prog : Program} {w : World} {A : Around} {s : Shared} {x C : Addr}
/-- e.name of an exception: what stands in its dict -/
theorem get_exc {ox : Obj} {od : Option Obj} {name : Str} {v : Value} {expr : Bool} {Q : Value → Shared → Prop} {E : Value → Shared → Prop} (X : K.In s.heap) (I : InstAt s.heap x ox C od)
    (hga : findIn K (.ref C) "__getattribute__" = some (some (.builtin "BaseException.__getattribute__"))) (hk : findIn K (.ref C) "__getattr__" = some none) (hb : mroIn K C (.type "BaseException") = some true)
    (hf : findObj K C od name = some (.value v)) (hh : handedIn v = true) (h : Q v { s with toks := s.toks + 1 }) : wpAny (model prog w) A (getAttr (.ref x) name expr) Q E s := by
  have L0 := I.type (M := model prog w)
  have G := PySem.F.attr_ValueError.ga
  refine wpAny_bind (wpAny_mkText (wpAny_holding (wpAny_bind (L0 _ _ _ _ (fun _ _ e => e) (wpAny_bind (looks_findIn X hga _ _ _ _ (fun _ _ e => e) ?_))))))
  dsimp only
  rw [show (onTheHeap (Value.ref C) && Value.builtin "BaseException.__getattribute__" == Value.builtin "object.__getattribute__") = false from by rw [show (Value.builtin "BaseException.__getattribute__" == Value.builtin "object.__getattribute__") = false from by decide +kernel, Bool.and_false], if_neg (by decide)]
  refine wpAny_bind (looks_hook (mc := .ref C) X (r := none) (by rw [if_pos (show onTheHeap (Value.ref C) = true from rfl)]; exact hk) _ _ _ _ (fun _ _ e => e) (wpAny_bind (wpAny_attempt (wpAny_holding ?_))))
  unfold callGetattribute
  rw [show (expr && onTheHeap (Value.builtin "BaseException.__getattribute__")) = false from Bool.and_false _, if_neg (by decide)]
  unfold boundAndCalled
  rw [G.bind]
  refine wpAny_bind (wpAny_pure ?_)
  show wpAny _ _ (call (.builtin "BaseException.__getattribute__") [.ref x, .str name s.toks]) _ _ _
  refine wpAny_call ?_
  refine codeAny_call_builtin G.plain PySem.F.entry_bexc_ga ?_
  refine @check_slot (model prog w) _ _ { s with toks := s.toks + 1 } "BaseException.__getattribute__" "BaseException" "__getattribute__" (.ref x) [.str name s.toks] [] _ (by decide +kernel) (by decide +kernel) (L0.andThen (looks_mroIn X hb)) (PySem.F.args_bexc_ga (.ref x) (.str name s.toks)) ?_
  have L1 := looks_find (M := model prog w) X I hf
  refine wpAny_bind (wpAny_pure ?_)
  refine wpAny_bind (wpAny_pure (wpAny_bind (L0 _ _ _ _ (fun _ _ e => e) (wpAny_bind (L1 _ _ _ _ (fun _ _ e => e) ?_)))))
  refine wpAny_pure ?_
  show wpAny _ _ (handedOut v) _ _ _
  rw [handedOut_of hh]; exact wpAny_pure h
end
end PySem.W

set_option maxHeartbeats 4000000
namespace L2
open PySem PySem.Spec PyProof.Rows PySem.W

/-! ### an exception's own __init__(self, at): the base's __init__ with a text, self.at = at -/
def excInit (K : Frag) (C : Addr) (bmB : List Value) (newId : String) (f : Addr) : Bool := match K.lookup C with
  | some ⟨.type "type", _, .cls cd, sl⟩ => (match cd.mro, sl.toList with
    | .ref C' :: bm, [_, _, _, _, some (.builtin n), _] => C' == C && n == newId && !cd.hasDel && tailIn K bmB bm && nsOkIn K cd.ns && nsIn K cd.ns "__init__" == some (some (.ref f))
    | _, _ => false)
  | _ => false
theorem ns_some_of {K : Frag} {h : Heap} {N : Addr} {m : Str → Option Value} {n : Str} {v : Value} (X : K.In h) (G : h.Ns N m) (e : nsIn K N n = some (some v)) : m n = some v := by
  obtain ⟨o, es, ep, ho, hd, _, hf⟩ := G
  unfold nsIn at e
  split at e
  · rename_i c d es' n' sl q
    have := X _ _ q
    rw [ho] at this
    cases this
    cases hd
    split at e
    · rename_i en he
      cases e
      rw [← hf]
      unfold nsFind findBy
      rw [← Array.find?_toList, he]
      rfl
    · split at e <;> cases e
  · cases e
theorem exc_objI {K : PySem.W.Frag} {h : Heap} {C f : Addr} {bmB : List Value} {newId : String} (X : K.In h) (q : excInit K C bmB newId f = true) :
    ∃ bm N nm qn bs hdct sn sub ab col dd k0 k1 k2 k3 k5 mN, h.get? C = some (excClassObj nm qn C N bs bm hdct sn sub ab col dd k0 k1 k2 k3 k5 newId) ∧ h.Ns N mN ∧ mN "__init__" = some (.ref f) ∧ OwnTail h bmB bm := by
  unfold excInit at q
  split at q
  · rename_i dd cd sl ho
    split at q
    · rename_i C' bm k0 k1 k2 k3 n k5 hm hs
      simp only [Bool.and_eq_true, beq_iff_eq, Bool.not_eq_true'] at q
      obtain ⟨⟨⟨⟨⟨rfl, rfl⟩, hdel⟩, ht⟩, hok⟩, hni⟩ := q
      obtain ⟨nm, bs, mro, ns, qn, hd, sn, sub, ab, col, del⟩ := cd
      dsimp only at hm hdel hok hni
      subst hm hdel
      have hsl : sl = #[k0, k1, k2, k3, some (.builtin n), k5] := by
        obtain ⟨l⟩ := sl
        simp only at hs
        rw [hs]
      subst hsl
      have G : h.Ns ns _ := .of_isNs (PySem.W.isNs_of_in X hok)
      exact ⟨bm, ns, nm, qn, bs, hd, sn, sub, ab, col, dd, k0, k1, k2, k3, k5, _, X _ _ ho, G, ns_some_of X G hni, PySem.W.tail_of_in X ht⟩
    · cases q
  · cases q
/-- an exception of the class at C without a dict; with its dict at dx -/
def ExN (e C : Addr) (h : Heap) : Prop := ∃ t, h.get? e = some (exObj C t none)
def ExW (e C dx : Addr) (h : Heap) : Prop := ∃ t, h.get? e = some (exObj C t (some dx))
/-- what of the text such a class must have -/
structure XCls (K : Frag) (C FE f : Addr) : Prop where
  exc : excInit K C bmV "ValueError.__new__" f = true
  cd : ∃ cd, clsIn K C = some cd ∧ cd.mro = .ref C :: .ref FE :: bmV ∧ cd.hasDict = true
  sa : findIn K (.ref C) "__setattr__" = some (some (.builtin "object.__setattr__"))
  at_ : findIn K (.ref C) "at" = some none
  ga : findIn K (.ref C) "__getattribute__" = some (some (.builtin "BaseException.__getattribute__"))
  hk : findIn K (.ref C) "__getattr__" = some none
/-- what of the text the base must have -/
structure XBase (K : Frag) (FE : Addr) (mc : Value) : Prop where
  sp : specialIn K (.ref FE) "__getattribute__" = some (some (.builtin "type.__getattribute__"))
  rd : readsIn K FE mc = true
  ini : findCls K (.ref FE) mc "__init__" = some (.val (.builtin "ValueError.__init__"))
def smallI (i : Int) : Prop := ∃ n : Fin 64, i = ((n.val : Nat) : Int)
theorem small_text : ∀ n : Fin 64, ((toString ((n.val : Nat) : Int) : String) : Str).length ≤ 20 := by decide +kernel
theorem small_log : ∀ n : Fin 64, ((n.val : Nat) : Int).natAbs.log2 < 1920 := by decide +kernel
section
variable {X : Cx} {C FE f : Addr} {mc : Value} {x a b : Str} {np p1 p2 q1 q2 q3 q4 apos pos : Pos} {j1 j2 : Nat}
theorem pe_msg (hN : X.N[1]? = some ("at" : Str)) (hv : Vis X.env.scope "at") (ha : a.length ≤ 1000) (hb : b.length ≤ 1000) :
    PE X (.JoinedStr [.Constant (.str a) j1 q1, .FormattedValue (.Name "at" p2) (-1) none q2, .Constant (.str b) j2 q3] q4) (fun σ H Q => ∃ i, σ[1]? = some (some (.int i)) ∧ smallI i ∧ ∀ y, Q (.str y) H) := by
  rintro pins s σ H Q I ⟨i, h1, ⟨n, rfl⟩, hq⟩
  have hz := sizeLine_eq
  have ht := small_text n
  refine JoinedStr_many (joinParts_cons (Calls.Constant_str ⟨?_, joinParts_consE (joinParts_cons ?_)⟩))
  · rw [strLen_append]
    have : (Str.empty).length = 0 := rfl
    omega
  · refine FormattedValue_plain (thn ((pe_var (pos := p2) hN hv) pins _ σ H (fun v H' => v = V.int ((n.val : Nat) : Int) ∧ H' = H) (I.tok _) ⟨_, h1, rfl, rfl⟩) fun u s1 ⟨v, H1, I1, r1, e1, e2⟩ => ?_)
    subst e1 e2
    obtain ⟨tk, rfl⟩ := r1
    refine formatField_int_small (small_log n) ⟨?_, joinParts_consE (joinParts_cons (Calls.Constant_str ⟨?_, joinParts_nilE (joinParts_nil ⟨.str _, H1, I1.tok _, ⟨_, rfl⟩, hq _⟩ ?_)⟩))⟩
    all_goals
      simp only [strLen_append]
      have : (Str.empty).length = 0 := rfl
      omega
end
/-! FloorError.__init__(self, f'..') -/
section
variable {X : Cx} {C FE f : Addr} {mc : Value} {x a b : Str} {np p1 p2 q1 q2 q3 q4 apos pos : Pos} {j1 j2 : Nat}
theorem pe_baseInit (c : XCls X.K C FE f) (B : XBase X.K FE mc) (hN0 : X.N[0]? = some ("self" : Str)) (hN : X.N[1]? = some ("at" : Str)) (hv0 : Vis X.env.scope "self") (hv : Vis X.env.scope "at") (ha : a.length ≤ 1000) (hb : b.length ≤ 1000)
    (hg : Gl X x) (hm : X.mg x = some (.ref FE)) {pl : Sem Bool} (hdb : (x == ("__debug__" : Str)) = false := by decide)
    (he : starEach [.Name "self" p1, .JoinedStr [.Constant (.str a) j1 q1, .FormattedValue (.Name "at" p2) (-1) none q2, .Constant (.str b) j2 q3] q4] X.env = (false, eval (.Name "self" p1) X.env) :: starEach [.JoinedStr [.Constant (.str a) j1 q1, .FormattedValue (.Name "at" p2) (-1) none q2, .Constant (.str b) j2 q3] q4] X.env := by rfl)
    (ht : eval (.Call (.Attribute (.Name x np) "__init__" apos) [.Name "self" p1, .JoinedStr [.Constant (.str a) j1 q1, .FormattedValue (.Name "at" p2) (-1) none q2, .Constant (.str b) j2 q3] q4] [] pos) X.env = (do
      let ov ← eval (.Name x np) X.env
      standAt apos.atName
      let (f, first) ← holding [ov] (getMethod ov "__init__" pl)
      callWith pos f first (backTo pos (starEach [.Name "self" p1, .JoinedStr [.Constant (.str a) j1 q1, .FormattedValue (.Name "at" p2) (-1) none q2, .Constant (.str b) j2 q3] q4] X.env)) (backToKw pos (keywordEach [] X.env))) := by rfl) :
    PE X (.Call (.Attribute (.Name x np) "__init__" apos) [.Name "self" p1, .JoinedStr [.Constant (.str a) j1 q1, .FormattedValue (.Name "at" p2) (-1) none q2, .Constant (.str b) j2 q3] q4] [] pos)
      (fun σ H Q => ∃ e i, σ[0]? = some (some (.ref e)) ∧ σ[1]? = some (some (.int i)) ∧ smallI i ∧ H e = some (.ext (ExN e C)) ∧ Q .non (upd H e (.ext (ExN e C)))) := by
  rintro pins s σ H Q I ⟨e, i, h0, h1, hs, hH, hq⟩
  refine PySem.W.methodCall_KW (pl := pl) (ld_glob I hg hm ?_ hdb) ht
  refine method_cls I.kIn B.sp (cls_value I.kIn B.rd B.ini (by decide +kernel) ?_)
  refine Calls.callWith_builtin (by rfl) ?_
  have pa : PA X [.Name "self" p1, .JoinedStr [.Constant (.str a) j1 q1, .FormattedValue (.Name "at" p2) (-1) none q2, .Constant (.str b) j2 q3] q4] _ := pa_cons (pe_var hN0 hv0) (pa_cons (pe_msg hN hv ha hb) pa_nil)
  have hA := pa pos pins { s with toks := s.toks + 1 } σ H (fun vs H1 => ∃ y, vs = [.ref e, .str y] ∧ H1 = H) (I.tok _) ⟨_, h0, i, h1, hs, fun y => ⟨y, rfl, rfl⟩⟩
  rw [he] at hA ⊢
  refine Calls.evalArgs_plain (thn hA fun us s2 ⟨vs, H2, I2, r2, y, ev, eH⟩ => ?_)
  subst ev eH
  cases r2 with
  | cons r r2 => cases r2 with
    | cons r' r2 => cases r2 with
      | nil =>
        cases r
        obtain ⟨tk, rfl⟩ := r'
        obtain ⟨⟨t0, hob⟩, _, hst⟩ := I2.hok _ _ hH
        obtain ⟨bm, N, nm, qn, bs, hdct, sn, sub, ab, col, dd, k0, k1, k2, k3, k5, mN, hC, hNs, hni, T⟩ := exc_objI I2.kIn c.exc
        obtain ⟨hp, g, d, tks, os⟩ := s2
        refine init_call (initId := "ValueError.__init__") (dx := none) PySem.F.excBase_ValueError T hC hob fun h' g1 g2 => ?_
        refine ⟨.non, upd H2 e (.ext (ExN e C)), I2.write (s := ⟨hp, g, d, tks, os⟩) (x := e) (e := e) (t' := tks) (by rw [hH]; trivial) (.inl rfl) (fun b u hb hu => g2 b u hb hu) ⟨_, g1⟩ ⟨⟨_, g1⟩, ⟨_, g1⟩, hst⟩, rfl, hq⟩
end
end L2

set_option maxHeartbeats 4000000
namespace L2
open PySem PySem.Spec PyProof.Rows PySem.W Z
def spInit (C : Addr) : Sp := fun vs H Q _ => ∃ e i, vs = [.ref e, .int i] ∧ smallI i ∧ H e = some (.ext (ExN e C)) ∧
  ∀ dx, H dx = none → dx ≠ e → Q .non (upd (upd H e (.ext (ExW e C dx))) dx (.xd [("at", .int i)]))
section
variable {X : Cx} {C FE f : Addr} {p5 p6 p7 pos : Pos}
theorem Inv.forget {pins : List (Addr × Obj)} {σ : St} {H : Hp} {s : Shared} {e : Addr} {φ : Heap → Prop} (I : Inv X pins σ H s) (he : H e = some (.ext φ)) : Inv X pins σ (del H e) s := by
  have ne : ∀ {b : Addr} {u : HO}, H b = some u → (∀ φ, u ≠ .ext φ) → b ≠ e := fun {b u} q n z => by
    subst z
    rw [he] at q
    cases q
    exact n _ rfl
  have dn : ∀ {b : Addr}, H b = none → del H e b = none := fun {b} q => by
    unfold del
    split
    · rfl
    · exact q
  refine ⟨I.ok, I.os, I.bare, ⟨I.base.keep, I.base.slot, fun b o q n hx => dn (I.base.free b o q n hx), I.base.there, fun b xs q => ?_, fun b o u q => ?_, fun b ps q => ?_⟩, I.loc, I.cell, dn I.free, fun x c h => dn (I.freeC x c h), fun p hp => ?_, fun a u q => ?_, I.len⟩
  · have := I.base.tups b xs q
    rw [del_ne (ne this fun φ z => by cases z)]
    exact this
  · have := I.base.frzs b o u q
    rw [del_ne (ne this fun φ z => by cases z)]
    exact this
  · obtain ⟨m, this⟩ := I.base.tbls b ps q
    exact ⟨m, by rw [del_ne (ne this fun φ z => by cases z)]; exact this⟩
  · obtain ⟨h1, h2, h3⟩ := I.pin p hp
    exact ⟨h1, dn h2, h3⟩
  · have q' : H a = some u := by
      unfold del at q
      split at q
      · cases q
      · exact q
    exact (I.hok a u q').stay (fun b o _ z => z) (fun b z => by rw [del_ne (ne z fun φ z => by cases z)]; exact z) fun b xs z => by rw [del_ne (ne z fun φ z => by cases z)]; exact z
theorem ps_setAt (c : XCls X.K C FE f) (hN0 : X.N[0]? = some ("self" : Str)) (hN : X.N[1]? = some ("at" : Str)) (hv0 : Vis X.env.scope "self") (hv : Vis X.env.scope "at") (hs : swapsWith (.Name "at" p7) (some (.Attribute (.Name "self" p5) "at" p6)) pos.line X.env = pure false := by rfl) :
    PS X (.Assign [.Attribute (.Name "self" p5) "at" p6] (.Name "at" p7) pos) (fun D σ H => ∃ e i, σ[0]? = some (some (.ref e)) ∧ σ[1]? = some (some (.int i)) ∧ H e = some (.ext (ExN e C)) ∧
      ∀ dx, H dx = none → dx ≠ e → D.nx σ (upd (upd H e (.ext (ExW e C dx))) dx (.xd [("at", .int i)]))) := by
  rintro pins s σ H D I ⟨e, i, h0, h1, hH, hq⟩
  refine plainObj_wpAny_Assign_Attribute (thn ((pe_var (pos := p7) hN hv) pins s σ H (fun v H' => v = .int i ∧ H' = H) I ⟨_, h1, rfl, rfl⟩) fun u s1 ⟨v, H1, I1, r1, e1, e2⟩ =>
    thn ((pe_var (pos := p5) hN0 hv0) pins s1 σ H (fun v H' => v = .ref e ∧ H' = H) (e2 ▸ I1) ⟨_, h0, rfl, rfl⟩) fun ov s2 ⟨v2, H2, I2, r2, e3, e4⟩ => ?_) hs
  subst e1 e2 e3 e4
  cases r2
  obtain ⟨⟨t0, hob⟩, _, hst⟩ := I2.hok _ _ hH
  obtain ⟨cd, hcd, hmro, hhd⟩ := c.cd
  have hf : H2 s2.heap.objs.size = none := I2.hok.fresh (Nat.le_refl _)
  have hne : s2.heap.objs.size ≠ e := fun z => by rw [z, hH] at hf; cases hf
  refine set_exc (FE := FE) (v := u) I2.kIn hob hcd hmro hhd c.sa c.at_ fun h' g1 g2 g3 => ?_
  have hdx : ∀ b o, s2.heap.get? b = some o → b ≠ s2.heap.objs.size := fun b o q => Nat.ne_of_lt (Heap.lt_size q)
  have nb : ∀ b, H2 b = none → b ≠ e := fun b n z => by rw [z, hH] at n; cases n
  refine ⟨σ, _, I2.un (t' := s2.toks + 2) (H' := upd (upd H2 e (.ext (ExW e C s2.heap.objs.size))) s2.heap.objs.size (.xd [("at", .int i)])) ⟨fun b o q n _ _ => g3 b o (nb b n) q, fun b o q n _ _ => ⟨o.slots, g3 b o (nb b n) q⟩, fun b o q n _ => ?_, fun b o q _ => ?_, fun b xs q => ?_, fun b o xs q => ?_, fun b ps q => ⟨#[], ?_⟩⟩ ?_, hq _ hf hne⟩
  · rw [upd_ne (hdx b o q), upd_ne (nb b n)]
    exact n
  · by_cases z : b = e
    · exact ⟨_, z ▸ g1⟩
    · exact ⟨o, g3 b o z q⟩
  · rw [upd_ne (ne_of_none q hf), upd_ne fun z => by rw [z, hH] at q; cases q]
    exact q
  · rw [upd_ne (ne_of_none q hf), upd_ne fun z => by rw [z, hH] at q; cases q]
    exact q
  · rw [upd_ne (ne_of_none q hf), upd_ne fun z => by rw [z, hH] at q; cases q]
    rw [q]
    simp
  · intro a o q
    by_cases ha : a = s2.heap.objs.size
    · subst ha
      rw [upd_same] at q
      cases q
      refine ⟨_, g2, fun f => ?_⟩
      by_cases hf : f = "at"
      · subst hf
        have : List.lookup ("at" : Str) [("at", V.int i)] = some (.int i) := rfl
        rw [this, if_pos rfl]
        exact r1
      · have hb : (f == ("at" : Str)) = false := beq_eq_false_iff_ne.mpr hf
        simp only [List.lookup, hb, if_neg hf]
        trivial
    · rw [upd_ne ha] at q
      by_cases hae : a = e
      · subst hae
        rw [upd_same] at q
        cases q
        exact ⟨⟨_, g1⟩, ⟨_, g1⟩, fun h1 h2 ⟨t, q⟩ k => ⟨t, k _ q⟩⟩
      · rw [upd_ne hae] at q
        refine (I2.hok a o q).stay (fun b u hb hu => g3 b u ?_ hu) (fun b z => ?_) fun b xs z => ?_
        · rcases hb with rfl | hb
          · exact hae
          · intro z
            rw [z, hH] at hb
            cases hb
        · rw [upd_ne (ne_of_none z hf), upd_ne fun y => by rw [y, hH] at z; cases z]
          exact z
        · rw [upd_ne (ne_of_none z hf), upd_ne fun y => by rw [y, hH] at z; cases z]
          exact z
end
end L2

set_option maxHeartbeats 4000000
namespace L2
open PySem PySem.Spec PyProof.Rows PySem.W Z
/-- the body of such an __init__ -/
structure IniBody (st : Stmt) (qual : Str) : Prop where
  ex : ∃ (a b : Str) (np p1 p2 q1 q2 q3 q4 apos pos epos p5 p6 p7 p8 : Pos) (j1 j2 : Nat), a.length ≤ 1000 ∧ b.length ≤ 1000 ∧
    defBody st = [.Expr (.Call (.Attribute (.Name "FloorError" np) "__init__" apos) [.Name "self" p1, .JoinedStr [.Constant (.str a) j1 q1, .FormattedValue (.Name "at" p2) (-1) none q2, .Constant (.str b) j2 q3] q4] [] pos) epos,
      .Assign [.Attribute (.Name "self" p5) "at" p6] (.Name "at" p7) p8] ∧
    ∀ (n f : Addr) (cdv : Value), ∃ pl : Sem Bool, eval (.Call (.Attribute (.Name "FloorError" np) "__init__" apos) [.Name "self" p1, .JoinedStr [.Constant (.str a) j1 q1, .FormattedValue (.Name "at" p2) (-1) none q2, .Constant (.str b) j2 q3] q4] [] pos) (envOfC qual (defScope st) n f cdv) = (do
      let ov ← eval (.Name "FloorError" np) (envOfC qual (defScope st) n f cdv)
      standAt apos.atName
      let (f', first) ← holding [ov] (getMethod ov "__init__" pl)
      callWith pos f' first (backTo pos (starEach [.Name "self" p1, .JoinedStr [.Constant (.str a) j1 q1, .FormattedValue (.Name "at" p2) (-1) none q2, .Constant (.str b) j2 q3] q4] (envOfC qual (defScope st) n f cdv))) (backToKw pos (keywordEach [] (envOfC qual (defScope st) n f cdv))))
section
variable {P : Program} {w : World} {K : Frag} {mg : Str → Option Value} {base : Heap} {C FE f : Addr} {mc : Value}
theorem fn_init {x qual : Str} {st : Stmt} {fd : FuncData} {k : Nat} (F : DefT K x qual st ["self", "at"] f fd) (S : FnScope ["self", "at"] ["self", "at"] (defScope st)) (c : XCls K C FE f) (B : XBase K FE mc) (hFE : mg "FloorError" = some (.ref FE))
    (hb : IniBody st qual) (hg : (defScope st).names.lookup ("FloorError" : Str) = some .globalImplicit) : FnOk P w K mg base CX0 (k + 1) f fd ["self", "at"] (spInit C) := by
  obtain ⟨oc, od, dV, kV, doc, pm, an, cdv, ct, osl, rfl, lk, hcd⟩ := F.ex
  obtain ⟨a, b, np, p1, p2, q1, q2, q3, q4, apos, pos, epos, p5, p6, p7, p8, j1, j2, ha, hb', hbody, hev⟩ := hb.ex
  refine fn_of lk hcd S (fun vs H Q E ⟨e, i, h, _⟩ => by rw [h]; rfl) fun A outer s H vs Q E hr ⟨e, i, hv, hs, hH, hq⟩ => ?_
  rw [hbody]
  have v0 : Vis (defScope st) ("self" : Str) := (S.par "self" (by simp)).elim .inl fun h => .inr (.inl h)
  have v1 : Vis (defScope st) ("at" : Str) := (S.par "at" (by simp)).elim .inl fun h => .inr (.inl h)
  obtain ⟨pl, hev⟩ := hev s.heap.objs.size f cdv
  refine ⟨_, pss_cons (ps_expr (pe_baseInit c B rfl rfl v0 v1 ha hb' hg hFE (ht := hev))) (pss_one (ps_setAt c rfl rfl v0 v1)), ?_⟩
  subst hv
  refine ⟨e, i, rfl, rfl, hs, hH, e, i, rfl, rfl, upd_same, fun dx hdx hne => ?_⟩
  rw [upd_ne hne] at hdx
  have := hq dx hdx hne
  rw [show upd (upd H e (.ext (ExN e C))) e (.ext (ExW e C dx)) = upd H e (.ext (ExW e C dx)) from by funext z; unfold upd; split <;> rfl]
  exact this
end
section
variable {X : Cx} {C FE f : Addr} {x : Str} {e : Expr} {te : TE} {np cpos pos : Pos} {k : Nat} {fd : FuncData}
theorem ps_raiseI (c : XCls X.K C FE f) (F : FnOk X.prog X.w X.K X.mg X.base CX0 k f fd ["self", "at"] (spInit C)) (hb : Binds X.K fd ["self", "at"] []) (hfn : PySem.W.isFn X.K (.ref f) = true) (hr : Room (k + 1) X.A) (hg : Gl X x) (hm : X.mg x = some (.ref C)) (hx : X.ex = []) (ha : PE X e te)
    (hd : (x == ("__debug__" : Str)) = false := by decide) (he : starEach [e] X.env = [(false, eval e X.env)] := by rfl) :
    PS X (.Raise (some (.Call (.Name x np) [e] [] cpos)) none pos) (fun _ σ H => te σ H fun v H1 => ∃ i, [v] = [V.int i] ∧ smallI i ∧ ∀ dx, H1 dx = none → Thrown X (.ref C) (some dx) (upd H1 dx (.xd [("at", .int i)]))) := by
  intro pins s σ H D I hq
  obtain ⟨bm, N, nm, qn, bs, hdct, sn, sub, ab, col, dd, k0, k1, k2, k3, k5, mN, hC, hN, hni, T⟩ := exc_objI I.mod.kin c.exc
  obtain ⟨of, lk, hof⟩ : ∃ of, X.K.lookup f = some of ∧ of.cls = .type "function" := by
    have := beq_iff_eq.mp hfn
    unfold typeIn at this
    exact Option.map_eq_some_iff.mp this
  refine raise_init (C := C) (nm := nm) (q := qn) (N := N) (bs := bs) (bm := bm) (hdct := hdct) (sn := sn) (sub := sub) (ab := ab) (col := col) (dd := dd) (k0 := k0) (k1 := k1) (k2 := k2) (k3 := k3) (k5 := k5) (of := of)
    PySem.F.excBase_ValueError (mN := mN) (T.hasType PySem.F.excBase_ValueError.hasBase) hr.hd (by rw [he]; rfl) hni hof (ld_glob I hg hm ⟨rfl, ?_⟩ hd)
  have hA := (pa_cons ha (pa_nil (X := X)) he) cpos pins s σ H (fun vs H1 => ∃ i, vs = [.int i] ∧ smallI i ∧ ∀ dx, H1 dx = none → Thrown X (.ref C) (some dx) (upd H1 dx (.xd [("at", .int i)]))) I hq
  rw [he] at hA ⊢
  refine Calls.evalArgs_plain (thn hA fun us s2 ⟨vs, H2, I2, r2, i, ev, hs, hT⟩ => ?_)
  subst ev
  have hlen : us.length = 1 := r2.length.symm
  refine ⟨rfl, by rw [hlen, sizeLine_eq]; decide, I2.bk _ _ hC, hN.keeps I2.bk, T.keeps I2.bk, I2.kIn _ _ lk, ?_⟩
  have sz : s2.heap.objs.size < s2.heap.objs.size + 1 := Nat.lt_succ_self _
  have kp : ∀ b u, s2.heap.get? b = some u → ((s2.heap.push { cls := .type "tuple", data := .seq us.toArray }).push (exNew C s2.heap.objs.size)).get? b = some u := fun b u q => Heap.get?_push_of_some _ (Heap.get?_push_of_some _ q)
  have ge : ((s2.heap.push { cls := .type "tuple", data := .seq us.toArray }).push (exNew C s2.heap.objs.size)).get? (s2.heap.objs.size + 1) = some (exNew C s2.heap.objs.size) := by heap_get
  have I3 : Inv X pins σ (upd H2 (s2.heap.objs.size + 1) (.ext (ExN (s2.heap.objs.size + 1) C))) { s2 with heap := (s2.heap.push { cls := .type "tuple", data := .seq us.toArray }).push (exNew C s2.heap.objs.size) } :=
    I2.laid (t' := s2.toks) kp (Nat.le_succ _) ⟨⟨_, ge⟩, ⟨_, ge⟩, fun h1 h2 ⟨t, q⟩ kk => ⟨t, kk _ q⟩⟩
  have r3 : Vals [V.ref (s2.heap.objs.size + 1), .int i] (Value.ref (s2.heap.objs.size + 1) :: us) := .cons rfl r2
  have fe : H2 (s2.heap.objs.size + 1) = none := I2.hok.fresh (Nat.le_succ _)
  refine wpAny_call (codeAny_mono (F.run _ X.stack _ _ ⟨Value.ref (s2.heap.objs.size + 1) :: us, []⟩ (Value.ref (s2.heap.objs.size + 1) :: us) _ (fun v H' => v = .non ∧ ∃ dx, H2 dx = none ∧ dx ≠ s2.heap.objs.size + 1 ∧
      H' = upd (upd (upd H2 (s2.heap.objs.size + 1) (.ext (ExN (s2.heap.objs.size + 1) C))) (s2.heap.objs.size + 1) (.ext (ExW (s2.heap.objs.size + 1) C dx))) dx (.xd [("at", .int i)])) (fun _ _ _ => False) (hr.make C us []) (I3.env0.make C us [])
    (by have := hb _ (Value.ref (s2.heap.objs.size + 1) :: us) I3.kIn (by simp [hlen]); rw [List.append_nil] at this; exact this) r3 ⟨_, i, rfl, hs, upd_same, fun dx hdx hne => ⟨rfl, dx, by rw [upd_ne hne] at hdx; exact hdx, hne, rfl⟩⟩) fun r s' hq' => ?_)
  cases r with
  | error e => exact hq'.elim
  | ok fl =>
    cases fl with
    | ret u =>
      obtain ⟨v, H', I4, rv, ev, dx, hdx, hne, eH⟩ := I3.after hq'
      subst ev eH
      refine ⟨rv, ?_⟩
      have gE : upd (upd (upd H2 (s2.heap.objs.size + 1) (.ext (ExN (s2.heap.objs.size + 1) C))) (s2.heap.objs.size + 1) (.ext (ExW (s2.heap.objs.size + 1) C dx))) dx (.xd [("at", .int i)]) (s2.heap.objs.size + 1) = some (.ext (ExW (s2.heap.objs.size + 1) C dx)) := by
        rw [upd_ne (Ne.symm hne), upd_same]
      obtain ⟨⟨t, hob⟩, _, _⟩ := I4.hok _ _ gE
      have I5 := I4.forget gE
      have eD : del (upd (upd (upd H2 (s2.heap.objs.size + 1) (.ext (ExN (s2.heap.objs.size + 1) C))) (s2.heap.objs.size + 1) (.ext (ExW (s2.heap.objs.size + 1) C dx))) dx (.xd [("at", .int i)])) (s2.heap.objs.size + 1) = upd H2 dx (.xd [("at", .int i)]) := by
        funext z
        unfold del upd
        by_cases h1 : z = s2.heap.objs.size + 1
        · subst h1
          rw [if_pos rfl, if_neg (Ne.symm hne), fe]
        · rw [if_neg h1]
          split
          · rfl
          · first | rfl | rw [if_neg h1, if_neg h1] | rw [if_neg h1]
      rw [eD] at I5
      refine ⟨t, some dx, I4.bk _ _ hC, hob, hT dx hdx pins σ s' _ I5 ⟨⟨_, _, hob, rfl, rfl, rfl, (show 1 < 6 by decide), rfl⟩, fun t ht => by cases ht⟩ ?_ (I2.old hx ?_)⟩
      · rw [upd_ne (Ne.symm hne)]
        exact fe
      · exact Heap.get?_none_of_le (Nat.le_succ _)
    | next => exact False.elim hq'
    | brk => exact False.elim hq'
    | cont => exact False.elim hq'
end
end L2

set_option maxHeartbeats 4000000
namespace Z
open PySem PySem.Spec PyProof.Rows L2 PySem.W

/-! ### blocks that may raise, over data -/
/-- what an exception's dict holds: nothing, or `at` -/
def AtOk (H0 H : Hp) (dx : Option Addr) : Option Int → Prop
  | none => dx = none
  | some i => ∃ a, dx = some a ∧ H a = some (.xd [("at", .int i)]) ∧ H0 a = none
theorem AtOk.back {H0 H1 H : Hp} {dx : Option Addr} : ∀ {a : Option Int}, Same H0 H1 → AtOk H1 H dx a → AtOk H0 H dx a
  | none, _, h => h
  | some _, s, ⟨a, h1, h2, h3⟩ => ⟨a, h1, h2, s.free h3⟩
/-- the context takes exceptions of the class c with `at`, thrown where at least H0 still stands -/
structure Acc (X : Cx) (L : Kl) (H0 : Hp) (c : Nat) (a : Option Int) : Prop where
  takes : ∀ dx H', Same H0 H' → AtOk H0 H' dx a → Thrown X (.ref (L.cls c)) dx H'
  pass : ∃ E, Passes (CXr X.prog X.w) X E ∧ ∀ dx H', Same H0 H' → AtOk H0 H' dx a → E (.ref (L.cls c)) dx H'
  ex : X.ex = []
  calm : X.calm = true
  own : PassesOwn (model X.prog X.w) X.A X.env X.xe
theorem acc_of {P : Program} {w : World} {K : Frag} {mg : Str → Option Value} {base : Heap} {N : List Str} {qual : Str} {scope : Scope} {f : Addr} {cd : Value} {A : Around} {outer : List Env} {s : Shared} {H H0 : Hp} {E : XK} {L : Kl} {c : Nat} {a : Option Int}
    (hE : ∀ dx H', Same H0 H' → AtOk H0 H' dx a → E (.ref (L.cls c)) dx H') : Acc (cxOf (CXr P w) P w K mg base N qual scope f cd A outer s H E) L H0 c a where
  takes := fun dx H' sm ao pins σ s' ea I F he ne => xe_of I F he (fun t ht => by cases ht) ne (fun t ht => by cases ht) (hE dx H' sm ao)
  pass := ⟨E, pass_r, hE⟩
  ex := rfl
  calm := rfl
  own := PassesOwn.leaving
section
variable (X : Cx) (L : Kl) (H0 : Hp) (ρ : List Sl)
/-- a block as SV, from the entry H0 on -/
structure SVr (ss : List Stmt) (E : En) : Prop where
  run : ∀ (σ : L2.St) (G0 G H : Hp), StOk X.K L G0 H0 ρ σ G H → wSs X ss (ends X.K L G0 H0 E) σ H
/-- an expression that raises -/
structure RV (e : Expr) : Prop where
  run : ∀ (σ : L2.St) (G0 G H : Hp), StOk X.K L G0 H0 ρ σ G H → ∀ Q : VK, wE X e σ H Q
end
theorem exec_of_one {M : Model} {A : Around} {st : Stmt} {env : Env} {Q : Flow → Shared → Prop} {E : Value → Shared → Prop} {s : Shared} (h : wpAny M A (execs [st] env) Q E s) : wpAny M A (exec st env) Q E s := fun Γ p hΓ => by
  have h1 := h Γ p hΓ
  rw [execs_cons, Sem.wp_bind'] at h1
  refine Sem.wp_mono M Γ _ (fun f p' s' h' => ?_) (fun _ _ _ h' => h') _ _ h1
  cases f <;> exact h'
def dead : En := { nx := fun _ => False, rt := fun _ => False }
section
variable {X : Cx} {L : Kl} {H0 : Hp} {ρ : List Sl} {e a b c o tg : Expr} {es rs : List Expr} {d da db : D} {ds : List D} {pos p pos' np cpos : Pos} {E : En} {rest body els : List Stmt} {t u : Bool} {st : Stmt} {x : Str}
theorem svr_of (h : SV X L ρ rest E) : SVr X L H0 ρ rest E := .mk fun σ G0 G H s => h.run σ G0 H0 G H s
/-- a statement that goes on, then a block that may raise -/
theorem svr_cons (ρ' : List Sl) (h : SV X L ρ [st] { nx := fun r => r = ρ', rt := fun _ => False }) (hr : SVr X L H0 ρ' rest E) : SVr X L H0 ρ (st :: rest) E := .mk fun σ G0 G H s => by
  refine wSs_cons fun pins s' I => ?_
  refine thn (exec_of_one (h.run σ G0 H0 G H s pins s' I)) fun f s1 q => SP_mono ⟨?_, ?_, ?_, ?_⟩ q
  · rintro σ' H' ⟨r, G', st', rfl⟩
    exact hr.run σ' G0 G' H' st'
  · rintro v H' (⟨d, G', x1, r1, e⟩ | ⟨_, _, _, _, _, _, _, _, _, _, e⟩)
    · exact e.elim
    · exact e.elim
  · rintro σ' H' ⟨_, _, _, z⟩
    exact z.elim
  · rintro σ' H' ⟨_, _, _, z⟩
    exact z.elim
theorem svr_ifT (hc : TV X L ρ c true) (h : SVr X L H0 ρ body dead) : SVr X L H0 ρ (.If c body els pos :: rest) E := .mk fun σ G0 G H s => by
  refine wSs_cons (wS_of (ps_if pt_w pss_w pss_w) (hc.run σ G0 H0 G H s _ fun G1 H1 e1 => ?_))
  refine iteT (wSs_mono ⟨?_, ?_, ?_, ?_⟩ (h.run σ G0 G1 H1 (s.step e1)))
  · rintro σ' H' ⟨_, _, _, z⟩
    exact z.elim
  · rintro v H' (⟨d, G', x1, r1, e⟩ | ⟨_, _, _, _, _, _, _, _, _, _, e⟩)
    · exact e.elim
    · exact e.elim
  · rintro σ' H' ⟨_, _, _, z⟩
    exact z.elim
  · rintro σ' H' ⟨_, _, _, z⟩
    exact z.elim
theorem svr_ifF (hc : TV X L ρ c false) (h : SVr X L H0 ρ rest E) : SVr X L H0 ρ (.If c body [] pos :: rest) E := .mk fun σ G0 G H s => by
  refine wSs_cons (wS_of (ps_if pt_w pss_w pss_w) (hc.run σ G0 H0 G H s _ fun G1 H1 e1 => ?_))
  exact iteF (wSs_nil (h.run σ G0 G1 H1 (s.step e1)))
theorem svr_expr (h : RV X L H0 ρ e) (hs : swapsWith e none pos.line X.env = pure false := by rfl) : SVr X L H0 ρ (.Expr e pos :: rest) E := .mk fun σ G0 G H s => wSs_cons (wS_of (ps_expr pe_w hs) (h.run σ G0 G H s _))
theorem svr_ret (h : RV X L H0 ρ e) : SVr X L H0 ρ (.Return (some e) pos :: rest) E := .mk fun σ G0 G H s => wSs_cons (wS_of (ps_ret pe_w) (h.run σ G0 G H s _))
/-- raise C(..), C an own class without __init__ -/
theorem svr_raise0 {k : Nat} (A : Acc X L H0 k none) (q : excIn X.K (L.cls k) bmV "ValueError.__new__" = true) (hm : X.mg x = some (.ref (L.cls k))) (ha : EVs X L ρ (e :: es) ds) (hl : ds.length ≤ sizeLine) (hg : Gl X x := by rfl)
    (hd : (x == ("__debug__" : Str)) = false := by decide) (he : starEach (e :: es) X.env = (false, eval e X.env) :: starEach es X.env := by rfl) (hpl : (backTo cpos (starEach es X.env)).any (·.1) = false := by rfl) :
    SVr X L H0 ρ (.Raise (some (.Call (.Name x np) (e :: es) [] cpos)) none pos :: rest) E := .mk fun σ G0 G H s =>
  wSs_cons (wS_of (ps_raise0 q PySem.F.excBase_ValueError hg hm A.calm A.ex pa_w hd he hpl) (ha.run σ G0 H0 G H s _ fun vs G1 H1 e1 r1 => ⟨by rw [r1.length]; exact hl, A.takes none H1 (s.ext.hh.trans e1.hh) rfl⟩))
/-- an own class with an __init__(self, at), as it stands behind the top -/
structure XMk (P : Program) (w : World) (K : Frag) (mg : Str → Option Value) (base : Heap) (L : Kl) (x : Str) (c : Nat) (k : Nat) : Prop where
  ex : ∃ (FE f : Addr) (fd : FuncData), XCls K (L.cls c) FE f ∧ FnOk P w K mg base CX0 k f fd ["self", "at"] (spInit (L.cls c)) ∧ Binds K fd ["self", "at"] [] ∧ isFn K (.ref f) = true ∧ mg x = some (.ref (L.cls c))
theorem svr_raiseI {k n : Nat} {i : Int} (M : XMk X.prog X.w X.K X.mg X.base L x k n) (hr : Room (n + 1) X.A) (A : Acc X L H0 k (some i)) (ha : EV X L ρ e (.int i)) (hs : smallI i) (hg : Gl X x := by rfl)
    (hd : (x == ("__debug__" : Str)) = false := by decide) (he : starEach [e] X.env = [(false, eval e X.env)] := by rfl) : SVr X L H0 ρ (.Raise (some (.Call (.Name x np) [e] [] cpos)) none pos :: rest) E := .mk fun σ G0 G H s => by
  obtain ⟨FE, f, fd, c, F, hb, hfn, hm⟩ := M.ex
  refine wSs_cons (wS_of (ps_raiseI c F hb hfn hr hg hm A.ex pe_w hd he) (ha.run σ G0 H0 G H s _ fun v G1 H1 e1 r1 => ?_))
  cases r1
  exact ⟨i, rfl, hs, fun dx hdx => A.takes (some dx) _ ((s.ext.hh.trans e1.hh).trans (same_new hdx _)) ⟨dx, rfl, upd_same, (s.ext.hh.trans e1.hh).free hdx⟩⟩
/-- for x, y in enumerate(a), the body may raise -/
theorem svr_for_enum {elts : List Expr} {x1 : Nat} {pt p2 : Pos} {f : D → List Sl → List Sl} {ok : D → Prop} (hp : PassesOwn (model X.prog X.w) X.A X.env X.xe) (Iv : Nat → List Sl → Prop) (ha : EV X L ρ a (.lst ds)) (hm : X.mg x = none) (hx : x = "enumerate") (hg : GV X L (.Tuple elts x1 pt) f ok) (hok : ∀ (i : Nat) (d : D), d ∈ ds → ok (.tup [.int i, d])) (h0 : Iv 0 ρ)
    (hs : ∀ (i : Nat) (d : D) (ρ' : List Sl), ds[i]? = some d → Iv i ρ' → SVr X L H0 (f (.tup [.int i, d]) ρ') body { nx := Iv (i + 1), ct := Iv (i + 1), bk := fun ρ'' => SVr X L H0 ρ'' rest E, rt := E.rt, rl := E.rl })
    (hd : ∀ ρ', Iv ds.length ρ' → SVr X L H0 ρ' rest E) (hgl : Gl X "enumerate" := by rfl) (hst : starEach [a] X.env = [(false, eval a X.env)] := by rfl) (hpl : (backTo p2 (starEach [] X.env)).any (·.1) = false := by rfl) (hc : X.calm = true := by rfl)
    (hfs : ∀ x, foldedSetIterable (.Call (.Name "enumerate" p) [a] [] p2) X.env x = pure x := by intro _; rfl) : SVr X L H0 ρ (.For (.Tuple elts x1 pt) (.Call (.Name x p) [a] [] p2) body [] pos :: rest) E := .mk fun σ G0 G H st => by
  subst hx
  obtain ⟨g, pg, qg⟩ := hg
  refine wSs_cons (wS_of (ps_for hp hc (pi_enum pe_w hgl hm hst hpl) pg pss_w hfs) (ha.run σ G0 H0 G H st _ fun v G1 H1 e1 r1 => ?_))
  have st1 := st.step e1
  cases r1 with
  | @lst q vs _ hq hr =>
    refine ⟨q, rfl, ⟨vs, Same.seq e1.gh hq⟩, for_enum (K := X.K) (a := q) (xs := vs) (fun i σ' H' => ∃ ρ' G', StOk X.K L G1 H0 ρ' σ' G' H' ∧ Iv i ρ') ⟨ρ, G1, st1.rebase, h0⟩ (fun i σ' H' _ ⟨ρ', G', s', _⟩ => Same.seq (s'.ext.gg.trans s'.ext.gh) hq) ?_ ?_⟩
    · rintro i x σ' H' p' hx ⟨ρ', G', s', iv⟩ hp'
      obtain ⟨d, hd1, hd2⟩ := hr.get' hx
      have ex : Ext G' H' (upd G' p' (.tup [.int (i : Nat), x])) (upd H' p' (.tup [.int (i : Nat), x])) := .alloc s'.same hp' _
      have s'' := s'.step ex
      refine qg (.tup [.int i, d]) ρ' σ' G1 H0 _ _ (.ref p') (hok i d (List.mem_of_getElem? hd1)) s'' (.tup (SqT.of upd_same) (.cons (.int _) (.cons ((hd2.mono s'.ext.gg).mono ex.gg) .nil))) _ fun σ2 s2 => ?_
      have hh := (hs i d ρ' hd1 iv).run σ2 G1 _ _ s2
      refine wSs_mono ?_ hh
      refine ⟨fun _ _ q => q, ?_, ?_, fun _ _ q => q⟩
      · rintro v' H'' q
        exact retPre st1.ext q
      · rintro σ3 H3 ⟨ρ3, G3, s3, q3⟩
        exact q3.run σ3 G0 G3 H3 (s3.unbase st1.ext)
    · rintro σ' H' ⟨ρ', G', s', iv⟩
      rw [hr.length] at iv
      exact (hd ρ' iv).run σ' G0 G' H' (s'.unbase st1.ext)
end

/-! ### defs that raise -/
def spR (K : Frag) (L : Kl) (C : List D → Nat → Option Int → Prop) : Sp := fun vs H _ E => ∃ G ds c a, Same G H ∧ RpA K L G vs ds ∧ C ds c a ∧ ∀ dx H', Same H H' → AtOk H H' dx a → E (.ref (L.cls c)) dx H'
section
variable {P : Program} {w : World} {K : Frag} {mg : Str → Option Value} {base : Heap} {L : Kl}
theorem fnr_okT {x qual : Str} {st : Stmt} {f : Addr} {fd : FuncData} {N ps : List Str} {k : Nat} {C : List D → Nat → Option Int → Prop} (F : DefT K x qual st ps f fd) (S : FnScope N ps (defScope st)) (len : ∀ ds c a, C ds c a → ds.length = ps.length)
    (hbody : ∀ (cdv : Value) (A : Around) (outer : List Env) (s : Shared) (H : Hp) (E : XK), Room k (A.deeper (envOfC qual (defScope st) s.heap.objs.size f cdv)) → ∀ ds c a, C ds c a → Acc (cxOf (CXr P w) P w K mg base N qual (defScope st) f cdv A outer s H E) L H c a →
      SVr (cxOf (CXr P w) P w K mg base N qual (defScope st) f cdv A outer s H E) L H (rho0 N ds) (defBody st) dead) : FnOk P w K mg base (CXr P w) (k + 1) f fd ps (spR K L C) := by
  obtain ⟨oc, od, dV, kV, doc, pm, an, cdv, ct, osl, rfl, lk, hcd⟩ := F.ex
  refine fn_of lk hcd S (fun vs H Q E ⟨G, ds, c, a, _, hr, hc, _⟩ => hr.length.trans (len ds c a hc)) fun A outer s H vs Q E hr ⟨G, ds, c, a, sm, rp, hc, hE⟩ => ⟨_, pss_w, ?_⟩
  have hh := (hbody cdv A outer s H E hr ds c a hc (acc_of hE)).run (L2.start N vs) G G H (st0 sm rp)
  refine wSs_mono ⟨?_, ?_, ?_, ?_⟩ hh
  · rintro σ' H' ⟨_, _, _, z⟩
    exact z.elim
  · rintro v H' (⟨d, G', x1, r1, e⟩ | ⟨_, _, _, _, _, _, _, _, _, _, e⟩)
    · exact e.elim
    · exact e.elim
  · rintro σ' H' ⟨_, _, _, z⟩
    exact z.elim
  · rintro σ' H' ⟨_, _, _, z⟩
    exact z.elim
structure FnR (P : Program) (w : World) (K : Frag) (mg : Str → Option Value) (base : Heap) (L : Kl) (x : Str) (k : Nat) (C : List D → Nat → Option Int → Prop) : Prop where
  ex : ∃ (f : Addr) (fd : FuncData) (ps : List Str), FnOk P w K mg base (CXr P w) k f fd ps (spR K L C) ∧ mg x = some (.ref f) ∧ PySem.W.keepIn K (.ref f) = true ∧ Binds K fd ps []
theorem fnr_def {x : Str} {st : Stmt} {N ps : List Str} {k : Nat} {C : List D → Nat → Option Int → Prop} (g : GDef K mg x st ps) (S : FnScope N ps (defScope st)) (len : ∀ ds c a, C ds c a → ds.length = ps.length)
    (hbody : ∀ (f : Addr) (cdv : Value) (A : Around) (outer : List Env) (s : Shared) (H : Hp) (E : XK), Room k (A.deeper (envOfC x (defScope st) s.heap.objs.size f cdv)) → ∀ ds c a, C ds c a → Acc (cxOf (CXr P w) P w K mg base N x (defScope st) f cdv A outer s H E) L H c a →
      SVr (cxOf (CXr P w) P w K mg base N x (defScope st) f cdv A outer s H E) L H (rho0 N ds) (defBody st) dead) : FnR P w K mg base L x (k + 1) C := by
  obtain ⟨f, fd, F, hm⟩ := g
  exact ⟨f, fd, ps, fnr_okT F S len (hbody f), hm, F.kp, F.bd⟩
/-- a method that raises -/
structure MtR (P : Program) (w : World) (K : Frag) (mg : Str → Option Value) (base : Heap) (L : Kl) (c : Nat) (m : Str) (k : Nat) (C : List D → Nat → Option Int → Prop) : Prop where
  ex : ∃ (f : Addr) (fd : FuncData) (ps : List Str), FnOk P w K mg base (CXr P w) k f fd ps (spR K L C) ∧ Meth K (L.cls c) m f ∧ Binds K fd ps []
theorem mtr_def {x qual : Str} {st : Stmt} {N ps : List Str} {cs : List Nat} {k : Nat} {C : List D → Nat → Option Int → Prop} (g : MDef K L x qual st ps cs) (S : FnScope N ps (defScope st)) (len : ∀ ds c a, C ds c a → ds.length = ps.length)
    (hbody : ∀ (f : Addr) (cdv : Value) (A : Around) (outer : List Env) (s : Shared) (H : Hp) (E : XK), Room k (A.deeper (envOfC qual (defScope st) s.heap.objs.size f cdv)) → ∀ ds c a, C ds c a → Acc (cxOf (CXr P w) P w K mg base N qual (defScope st) f cdv A outer s H E) L H c a →
      SVr (cxOf (CXr P w) P w K mg base N qual (defScope st) f cdv A outer s H E) L H (rho0 N ds) (defBody st) dead) : ∀ c ∈ cs, MtR P w K mg base L c x (k + 1) C := by
  obtain ⟨f, fd, F, hm⟩ := g
  exact fun c hc => ⟨f, fd, ps, fnr_okT F S len (hbody f), hm c hc, F.bd⟩
/-- an __init__ that raises -/
def spRI (K : Frag) (L : Kl) (c0 : Nat) (C : List D → Nat → Option Int → Prop) : Sp := fun vs H _ E => ∃ G ds c a x dx vs', vs = .ref x :: vs' ∧ H x = some (.ins (L.cls c0) dx []) ∧ Same G H ∧ G x = none ∧ RpA K L G vs' ds ∧ C ds c a ∧
  ∀ dx H', Same (del H x) H' → AtOk (del H x) H' dx a → E (.ref (L.cls c)) dx H'
structure MkR (P : Program) (w : World) (K : Frag) (mg : Str → Option Value) (base : Heap) (L : Kl) (x : Str) (c0 : Nat) (k : Nat) (C : List D → Nat → Option Int → Prop) : Prop where
  ex : ∃ (f : Addr) (fd : FuncData) (ps : List Str), FnOk P w K mg base (CXr P w) k f fd ps (spRI K L c0 C) ∧ Mk K (L.cls c0) f ∧ mg x = some (.ref (L.cls c0)) ∧ Binds K fd ps []
theorem mkR_def {x qual : Str} {c0 : Nat} {st : Stmt} {N ps : List Str} {k : Nat} {C : List D → Nat → Option Int → Prop} (g : IDef K mg L x qual c0 st ps []) (S : FnScope N ps (defScope st)) (len : ∀ ds c a, C ds c a → ds.length + 1 = ps.length)
    (hbody : ∀ (f : Addr) (cdv : Value) (A : Around) (outer : List Env) (s : Shared) (H : Hp) (E : XK), Room k (A.deeper (envOfC qual (defScope st) s.heap.objs.size f cdv)) → ∀ (q : Addr) ds c a, C ds c a → Acc (cxOf (CXr P w) P w K mg base N qual (defScope st) f cdv A outer s H E) L (del H q) c a →
      SVr (cxOf (CXr P w) P w K mg base N qual (defScope st) f cdv A outer s H E) L (del H q) (.ob q c0 [] :: (ds.map Sl.v ++ List.replicate (N.length - (ds.length + 1)) Sl.no)) (defBody st) dead) : MkR P w K mg base L x c0 (k + 1) C := by
  obtain ⟨f, fd, F, hm, hx, hb⟩ := g
  refine ⟨f, fd, ps, ?_, hm, hx, hb⟩
  obtain ⟨oc, od, dV, kV, doc, pm, an, cdv, ct, osl, rfl, lk, hcd⟩ := F.ex
  refine fn_of lk hcd S (fun vs H Q E ⟨G, ds, c, a, y, dx, vs', e, _, _, _, hr, hc, _⟩ => by rw [e, List.length_cons, hr.length]; exact len ds c a hc) fun A outer s H vs Q E hr ⟨G, ds, c, a, y, dx, vs', e, hy, sm, hgy, rp, hc, hE⟩ => ⟨_, pss_w, ?_⟩
  subst e
  have hh := (hbody f cdv A outer s H E hr y ds c a hc (acc_of hE)).run (L2.start N (.ref y :: vs')) G G H (stI sm hy hgy rp)
  refine wSs_mono ⟨?_, ?_, ?_, ?_⟩ hh
  · rintro σ' H' ⟨_, _, _, z⟩
    exact z.elim
  · rintro v H' (⟨d, G', x1, r1, e⟩ | ⟨_, _, _, _, _, _, _, _, _, _, e⟩)
    · exact e.elim
    · exact e.elim
  · rintro σ' H' ⟨_, _, _, z⟩
    exact z.elim
  · rintro σ' H' ⟨_, _, _, z⟩
    exact z.elim
end
section
variable {X : Cx} {L : Kl} {H0 : Hp} {ρ : List Sl} {e o : Expr} {es : List Expr} {ds rs : List D} {pos p apos : Pos} {c c0 : Nat} {a : Option Int} {m : Str} {C : List D → Nat → Option Int → Prop}
theorem rv_call {x : Str} {k : Nat} (F : FnR X.prog X.w X.K X.mg X.base L x k C) (hr : Room k X.A) (ac : Acc X L H0 c a) (ha : EVs X L ρ (e :: es) ds) (hc : C ds c a) (hg : Gl X x := by rfl) (hdb : (x == ("__debug__" : Str)) = false := by decide)
    (he : starEach (e :: es) X.env = (false, eval e X.env) :: starEach es X.env := by rfl) (hpl : (backTo pos (starEach es X.env)).any (·.1) = false := by rfl) : RV X L H0 ρ (.Call (.Name x p) (e :: es) [] pos) := .mk fun σ G0 G H st Q => by
  obtain ⟨f, fd, ps, F1, hm, hk, hb⟩ := F.ex
  obtain ⟨E, hp, hE⟩ := ac.pass
  refine wE_of (pe_call F1 hr hg hm hk hb .nil hp pa_w hdb he hpl) (ha.run σ G0 H0 G H st _ fun vs G1 H1 e1 r1 => ?_)
  exact ⟨G1, ds, c, a, e1.gh, by rw [List.append_nil]; exact r1, hc, fun dx H' sm ao => hE dx H' ((st.ext.hh.trans e1.hh).trans sm) (ao.back (st.ext.hh.trans e1.hh))⟩
theorem rv_meth {k : Nat} (T : KCls X.K L c0) (F : MtR X.prog X.w X.K X.mg X.base L c0 m k C) (hr : Room k X.A) (ac : Acc X L H0 c a) (ho : EV X L ρ o (.obj c0 ds)) (ha : EVs X L ρ (e :: es) rs) (hc : C (.obj c0 ds :: rs) c a) (hm : m ∉ L.nm c0)
    (hst : starEach (e :: es) X.env = (false, eval e X.env) :: starEach es X.env := by rfl) (hpl : (backTo pos (starEach es X.env)).any (·.1) = false := by rfl) {pl : Sem Bool}
    (ht : eval (.Call (.Attribute o m apos) (e :: es) [] pos) X.env = (do
      let ov ← eval o X.env
      standAt apos.atName
      let (f, first) ← holding [ov] (getMethod ov m pl)
      callWith pos f first (backTo pos (starEach (e :: es) X.env)) (backToKw pos (keywordEach [] X.env))) := by rfl) : RV X L H0 ρ (.Call (.Attribute o m apos) (e :: es) [] pos) := .mk fun σ G0 G H st Q => by
  obtain ⟨f, fd, ps, F1, hm1, hb⟩ := F.ex
  obtain ⟨E, hp, hE⟩ := ac.pass
  refine wE_of (pe_meth pe_w T.cl hm1 F1 hr hb .nil hp pa_w hst hpl ht) (ho.run σ G0 H0 G H st _ fun v G1 H1 e1 r1 => ?_)
  cases r1 with
  | @obj x dx c' vs ds' hq hl hr1 =>
    refine ⟨x, dx, _, rfl, e1.gh _ _ hq, zip_none hm, ha.run σ G0 H0 G1 H1 (st.step e1) _ fun us G2 H2 e2 r2 => ?_⟩
    exact ⟨G2, .obj c0 ds :: rs, c, a, e2.gh, .cons (.obj (e2.gg _ _ hq) hl (hr1.mono e2.gg)) (by rw [List.append_nil]; exact r2), hc, fun dx H' sm ao => hE dx H' ((st.ext.hh.trans (e1.trans e2).hh).trans sm) (ao.back (st.ext.hh.trans (e1.trans e2).hh))⟩
theorem rv_make {x : Str} {k : Nat} (F : MkR X.prog X.w X.K X.mg X.base L x c0 k C) (hr : Room (k + 1) X.A) (ac : Acc X L H0 c a) (ha : EVs X L ρ (e :: es) ds) (hc : C ds c a) (hg : Gl X x := by rfl) (hdb : (x == ("__debug__" : Str)) = false := by decide)
    (he : starEach (e :: es) X.env = (false, eval e X.env) :: starEach es X.env := by rfl) (hpl : (backTo pos (starEach es X.env)).any (·.1) = false := by rfl) : RV X L H0 ρ (.Call (.Name x p) (e :: es) [] pos) := .mk fun σ G0 G H st Q => by
  obtain ⟨f, fd, ps, F1, M, hm, hb⟩ := F.ex
  obtain ⟨E, hp, hE⟩ := ac.pass
  refine wE_of (pe_make M F1 hr hg hm hb .nil hp pa_w hdb he hpl) (ha.run σ G0 H0 G H st _ fun vs G1 H1 e1 r1 => fun x' dx' nx ndx nex => ?_)
  have sub : Same H1 (del (upd (upd H1 dx' (.own x')) x' (.ins (L.cls c0) dx' [])) x') := fun b u q => by
    have z1 : b ≠ x' := ne_of_none q nx
    rw [del_ne z1, upd_ne z1, upd_ne (ne_of_none q ndx)]
    exact q
  exact ⟨G1, ds, c, a, x', dx', vs ++ [], rfl, upd_same, (e1.gh.trans (same_new ndx _)).trans (same_new (by rw [upd_ne nex.symm]; exact nx) _), e1.gh.free nx, by rw [List.append_nil]; exact r1, hc, fun dx H' sm ao => hE dx H' (Same.trans (st.ext.hh.trans e1.hh) (Same.trans sub sm)) (ao.back ((st.ext.hh.trans e1.hh).trans sub))⟩
end
end Z

set_option maxHeartbeats 4000000
namespace PySem.W
open PySem PySem.Spec PyProof.Rows PySem.Builtin PySem.Builtin.ObjectAttr
/-- what of the text an own exception class must have to be asked for -/
structure ExcK (K : Frag) (C : Addr) : Prop where
  cls : (clsIn K C).isSome = true
  ga : findIn K (.ref C) "__getattribute__" = some (some (.builtin "BaseException.__getattribute__"))
  hk : findIn K (.ref C) "__getattr__" = some none
  bs : mroIn K C (.type "BaseException") = some true
  ob : mroIn K C (.type "object") = some true
  ca : findIn K (.ref C) "__class__" = some (some (.builtin "object.__class__"))
  cg : specialIn K (.builtin "object.__class__") "__get__" = some (some (.builtin "getset_descriptor.__get__"))
  ct : takesIn K (.builtin "object.__class__") = some true
section
variable {K : Frag} {prog : Program} {w : World} {A : Around} {s : Shared} {x C : Addr}
theorem findObj_bind {od : Option Obj} {name : Str} {a g : Value} (hc : (clsIn K C).isSome = true) (ha : findIn K (.ref C) name = some (some a)) (hg : specialIn K a "__get__" = some (some g)) (ht : takesIn K a = some true) : findObj K C od name = some (.bind g a) := by
  obtain ⟨cd, hc⟩ := Option.isSome_iff_exists.mp hc
  unfold findObj
  rw [hc, Option.bind_some, ha, Option.bind_some]
  simp [hg, ht]
theorem class_exc {ox : Obj} {od : Option Obj} {Q : Option Value → Shared → Prop} {E : Value → Shared → Prop} (B : ExcK K C) (X : K.In s.heap) (I : InstAt s.heap x ox C od) (h : Q (some (.ref C)) { s with toks := s.toks + 1 }) :
    wpAny (model prog w) A (getAttr? (.ref x) "__class__") Q E s := by
  have L0 := I.type (M := model prog w)
  have G := PySem.F.attr_ValueError.ga
  unfold getAttr? getAttrBy? getAttrBy
  refine wpAny_bind (wpAny_mkText (wpAny_bind (wpAny_attempt (wpAny_holding (wpAny_bind (L0 _ _ _ _ (fun _ _ e => e) (wpAny_bind (looks_findIn X B.ga _ _ _ _ (fun _ _ e => e) ?_))))))))
  dsimp only
  rw [show (onTheHeap (Value.ref C) && Value.builtin "BaseException.__getattribute__" == Value.builtin "object.__getattribute__") = false from by rw [show (Value.builtin "BaseException.__getattribute__" == Value.builtin "object.__getattribute__") = false from by decide +kernel, Bool.and_false], if_neg (by decide)]
  refine wpAny_bind (looks_hook (mc := .ref C) X (r := none) (by rw [if_pos (show onTheHeap (Value.ref C) = true from rfl)]; exact B.hk) _ _ _ _ (fun _ _ e => e) (wpAny_bind (wpAny_attempt (wpAny_holding ?_))))
  unfold callGetattribute
  rw [show (false && onTheHeap (Value.builtin "BaseException.__getattribute__")) = false from rfl, if_neg (by decide)]
  unfold boundAndCalled
  rw [G.bind]
  refine wpAny_bind (wpAny_pure ?_)
  show wpAny _ _ (call (.builtin "BaseException.__getattribute__") [.ref x, .str "__class__" s.toks]) _ _ _
  refine wpAny_call ?_
  refine codeAny_call_builtin G.plain PySem.F.entry_bexc_ga ?_
  refine @check_slot (model prog w) _ _ { s with toks := s.toks + 1 } "BaseException.__getattribute__" "BaseException" "__getattribute__" (.ref x) [.str "__class__" s.toks] [] _ (by decide +kernel) (by decide +kernel) (L0.andThen (looks_mroIn X B.bs)) (PySem.F.args_bexc_ga (.ref x) (.str "__class__" s.toks)) ?_
  have L1 := looks_find (M := model prog w) X I (findObj_bind (od := od) B.cls B.ca B.cg B.ct)
  refine wpAny_bind (wpAny_pure ?_)
  refine wpAny_bind (wpAny_pure (wpAny_bind (L0 _ _ _ _ (fun _ _ e => e) (wpAny_bind (L1 _ _ _ _ (fun _ _ e => e) ?_)))))
  show wpAny _ _ (holding [_] (call _ [_, .ref x, .ref C]) >>= ret) _ _ _
  refine wpAny_bind (wpAny_holding (wpAny_call (class_get (s := { s with toks := s.toks + 1 }) (ox := ox) (od := od) X I B.ob ?_)))
  refine wpAny_pure ?_
  exact handed_on rfl (wpAny_pure h)
theorem kitx_exc (B : ExcK K C) : KitX K (.ref x) (.ref C) (fun h => ∃ ox od, InstAt h x ox C od) where
  ty := fun _ _ _ ⟨_, _, I⟩ => I.type
  it := fun _ _ X _ => by
    obtain ⟨cdD, hcD⟩ := Option.isSome_iff_exists.mp B.cls
    unfold clsIn at hcD
    split at hcD
    · rename_i c' d' cd' sl' ho
      intro A' Q' E' s' k q
      unfold isType loadHead
      exact wpAny_bind (wpAny_loadPart (k _ _ (X _ _ ho)) (wpAny_pure q))
    · cases hcD
  ne := fun h tp dd its n sl X htp => by
    obtain ⟨cdD, hcD⟩ := Option.isSome_iff_exists.mp B.cls
    refine Bool.eq_false_iff.mpr fun q => ?_
    have e : C = tp := Value.ref.inj (beq_iff_eq.mp q)
    subst e
    unfold clsIn at hcD
    split at hcD
    · rename_i c' d' cd' sl' ho
      have z := (X _ _ ho).symm.trans htp
      cases z
    · cases hcD
  ca := fun X ⟨_, _, I⟩ k => class_exc B X I k
/-- does the exception match the own class D -/
theorem exc_matches {M : Model} {ox : Obj} {od : Option Obj} {D : Addr} {b : Bool} {Q : Bool → Shared → Prop} {E : Value → Shared → Prop} (X : K.In s.heap) (I : InstAt s.heap x ox C od) (hD : (clsIn K D).isSome = true) (hDt : typeIn K (.ref D) = some (.type "type")) (hDb : mroIn K D (.type "BaseException") = some true)
    (hm : mroIn K C (.ref D) = some b) (q : Q b s) : wpAny M A (excMatches (.ref x) (.ref D)) Q E s := by
  have T : Looks M s.heap (isInstance (.ref D) (.type "tuple")) false := (looks_typeIn X hDt).andThen (Looks.of_pure (by rw [isSubtype_type]; kernel_rfl))
  have IT : Looks M s.heap (isType (.ref D)) true := by
    obtain ⟨cdD, hcD⟩ := Option.isSome_iff_exists.mp hD
    unfold clsIn at hcD
    split at hcD
    · rename_i c' d' cd' sl' ho
      intro A' Q' E' s' k q
      unfold isType loadHead
      exact wpAny_bind (wpAny_loadPart (k _ _ (X _ _ ho)) (wpAny_pure q))
    · cases hcD
  have EC : Looks M s.heap (isExcClass (.ref D)) true := IT.andThen (by rw [if_pos rfl]; exact looks_mroIn X hDb)
  unfold excMatches
  refine wpAny_bind (T.here ?_)
  rw [if_neg (by decide)]
  refine wpAny_bind (wpAny_pure ?_)
  show wpAny _ _ (do
    forIn [Value.ref D] PUnit.unit _
    let te ← typeOf (.ref x)
    _) _ _ _
  refine wpAny_bind ?_
  rw [List.forIn_cons]
  refine wpAny_bind (wpAny_bind (EC.here ?_))
  rw [if_neg (by decide)]
  refine wpAny_pure ?_
  dsimp only
  rw [List.forIn_nil]
  refine wpAny_pure ?_
  refine wpAny_bind (I.type.here ?_)
  refine wpAny_bind ?_
  rw [List.forIn_cons]
  refine wpAny_bind (wpAny_bind ((looks_mroIn X hm).here ?_))
  cases b with
  | true =>
    rw [if_pos rfl]
    exact wpAny_pure (wpAny_pure (wpAny_pure q))
  | false =>
    rw [if_neg (by decide)]
    refine wpAny_pure ?_
    dsimp only
    rw [List.forIn_nil]
    exact wpAny_pure (wpAny_pure q)
end
end PySem.W

set_option maxHeartbeats 4000000
namespace Z
open PySem PySem.Spec PyProof.Rows L2 PySem.W

/-! ### an exception as a datum: isinstance, e.at -/
theorem inst_exc {P : Program} {w : World} {H : Hp} {h : Heap} {a C : Addr} {dx : Option Addr} (hok : HOk P w H h) (q : H a = some (.ext (ExcO a C dx))) (hd : ∀ b, dx = some b → ∃ o, h.get? b = some o) : ∃ ox od, InstAt h a ox C od ∧ (od = none ↔ dx = none) ∧ ∀ b, dx = some b → od = h.get? b := by
  obtain ⟨⟨o, vs, h1, h2, h3, h4⟩, _, _⟩ := hok _ _ q
  have hn : notCls o = true := by unfold notCls; rw [h4]
  cases dx with
  | none => exact ⟨o, none, ⟨h1, h2, hn, by rw [h3]; trivial⟩, by simp, fun b z => by cases z⟩
  | some b =>
    obtain ⟨od, hod⟩ := hd b rfl
    exact ⟨o, some od, ⟨h1, h2, hn, by rw [h3]; exact hod⟩, by simp, fun b' z => by cases z; exact hod.symm⟩
theorem Rp.inst {X : Cx} {L : Kl} {pins : List (Addr × Obj)} {σ : L2.St} {G H : Hp} {s : Shared} {v : V} {c : Nat} {at_ : Option Int} (I : Inv X pins σ H s) (sm : Same G H) (r : Rp X.K L G v (.exc c at_)) : ∃ a, v = .ref a ∧ ∃ ox od, InstAt s.heap a ox (L.cls c) od ∧
    ∀ i, at_ = some i → ∃ o t, od = some o ∧ lookIn "at" o = some (some (.int i t)) := by
  cases r with
  | @exc0 a _ h =>
    obtain ⟨ox, od, J, _, _⟩ := inst_exc I.hok (sm _ _ h) fun b z => by cases z
    exact ⟨a, rfl, ox, od, J, fun i z => by cases z⟩
  | @exc1 a dx _ i h h2 =>
    obtain ⟨mA, hN, hr⟩ := I.hok _ _ (sm _ _ h2)
    obtain ⟨od0, ho, hl⟩ := lookIn_ns hN
    obtain ⟨ox, od, J, _, hb⟩ := inst_exc I.hok (sm _ _ h) fun b z => by cases z; exact ⟨_, ho⟩
    refine ⟨a, rfl, ox, od, J, fun j z => ?_⟩
    cases z
    have h1 : RelO (some (.int i)) (mA "at") := hr "at"
    obtain ⟨u, hu', ru⟩ := RelO.some_of h1
    obtain ⟨t, rfl⟩ := ru
    exact ⟨od0, t, (hb dx rfl).trans ho, by rw [hl, hu']⟩
section
variable {X : Cx} {L : Kl} {ρ : List Sl} {a o : Expr} {c : Nat} {at_ : Option Int} {pos p : Pos}
def rIsiX (K : Frag) (L : Kl) : List V → Hp → VK → Prop := fun xs H Q => ∃ G x c at_ cv v k, xs = [x, v] ∧ Same G H ∧ Rp K L G x (.exc c at_) ∧ ExcK K (L.cls c) ∧ (∀ u, RelV v u → u = cv) ∧ kitOne K (.ref (L.cls c)) cv = some k ∧ Q (.bl k) H
theorem call_isiX : CallR X (.builtin "isinstance") (rIsiX X.K L) := by
  intro pins s σ H xs us Q I r ⟨G, x, c, at_, cv, v, k, e, sm, rp, B, rc, hk, q⟩
  subst e
  obtain ⟨u, w', rfl, r1, r2⟩ := vals2 r
  have ec : w' = cv := rc _ r2
  subst ec
  obtain ⟨a, rfl, ox, od, J, _⟩ := rp.inst I sm
  cases r1
  exact kia_one (kitx_exc B) I.kIn ⟨ox, od, J⟩ hk (fun z => nomatch z) fun tk => ⟨.bl k, H, I.tok tk, rfl, q⟩
theorem ev_isiXT {x y : Str} {k : Bool} {n : String} {py : Pos} (ha : EV X L ρ a (.exc c at_)) (B : ExcK X.K (L.cls c)) (hk : kitOne X.K (.ref (L.cls c)) (.type n) = some k) (hm : X.mg x = none) (hmy : X.mg y = none) (hx : x = "isinstance" := by rfl) (hy : bootBuiltins y = some (.type n) := by decide +kernel) (hg : Gl X x := by rfl) (hgy : Gl X y := by rfl)
    (hn : y ≠ "__name__" := by decide) (hd : (y == ("__debug__" : Str)) = false := by decide)
    (he : starEach [a, .Name y py] X.env = (false, eval a X.env) :: starEach [.Name y py] X.env := by rfl) : EV X L ρ (.Call (.Name x p) [a, .Name y py] [] pos) (.bl k) := by
  subst hx
  refine ev_callB (call_isiX (L := L)) (fun G H vs s r Q kk => ?_) hm (by decide +kernel) (evs_cons ha (evs_cons (ev_bltn (d := .ty n) (v := .ty n) hmy hy rfl (fun _ => .ty n) hgy hn hd) evs_nil) he) hg (he := he)
  obtain ⟨v, u, rfl, h1, h2⟩ := RpA.two r
  cases h2
  exact ⟨G, v, c, at_, _, _, k, rfl, s, h1, B, fun _ z => z, hk, kk _ G H (.refl s) (.bl k)⟩
theorem ev_isiXC {x y : Str} {k : Bool} {c' : Nat} {py : Pos} (ha : EV X L ρ a (.exc c at_)) (B : ExcK X.K (L.cls c)) (hk : kitOne X.K (.ref (L.cls c)) (.ref (L.cls c')) = some k) (hm : X.mg x = none) (hmy : X.mg y = some (.ref (L.cls c'))) (hx : x = "isinstance" := by rfl) (hg : Gl X x := by rfl) (hgy : Gl X y := by rfl)
    (hd : (y == ("__debug__" : Str)) = false := by decide)
    (he : starEach [a, .Name y py] X.env = (false, eval a X.env) :: starEach [.Name y py] X.env := by rfl) : EV X L ρ (.Call (.Name x p) [a, .Name y py] [] pos) (.bl k) := by
  subst hx
  refine ev_callB (call_isiX (L := L)) (fun G H vs s r Q kk => ?_) hm (by decide +kernel) (evs_cons ha (evs_cons (ev_glob (d := .cls c') (v := .ref (L.cls c')) hmy rfl (fun _ => .cls c') hgy hd) evs_nil) he) hg (he := he)
  obtain ⟨v, u, rfl, h1, h2⟩ := RpA.two r
  cases h2
  exact ⟨G, v, c, at_, _, _, k, rfl, s, h1, B, fun _ z => z, hk, kk _ G H (.refl s) (.bl k)⟩
/-- e.at -/
theorem ev_at {i : Int} (B : ExcK X.K (L.cls c)) (hd : hasDictIn X.K (L.cls c) = true) (hn : findIn X.K (.ref (L.cls c)) "at" = some none) (ho : EV X L ρ o (.exc c (some i))) (hb : attributeBase o "at" X.env (eval o X.env) = eval o X.env := by rfl) : EV X L ρ (.Attribute o "at" pos) (.int i) := .mk fun σ G0 H0 G H st Q k pins s I => by
  refine attr_of hb (thn (ho.run σ G0 H0 G H st (fun v H' => ∃ G', Ext G H G' H' ∧ Rp X.K L G' v (.exc c (some i))) (fun v G' H' e r => ⟨G', e, r⟩) pins s I) fun u s1 ⟨v, H1, I1, rv, G1, e1, r1⟩ => ?_)
  obtain ⟨a, rfl, ox, od, J, hat⟩ := r1.inst I1 e1.gh
  cases rv
  obtain ⟨o', t, rfl, hl⟩ := hat i rfl
  exact get_exc I1.kIn J B.ga B.hk B.bs (findObj_own hd hn rfl hl) rfl ⟨.int i, H1, I1.tok _, ⟨_, rfl⟩, k _ G1 H1 e1 (.int i)⟩
end
end Z

set_option maxHeartbeats 4000000
namespace L2
open PySem PySem.Spec PyProof.Rows PySem.W Z

/-! ### an exception is caught -/
theorem land_again {M : Model} {A : Around} {E : Value → Shared → Prop} {s : Shared} {e : Addr} {C : Value} {dx : Option Addr} {t : Addr} {Q : Unit → Shared → Prop} (F : Fly s.heap e C dx (some t)) (h : Q () s) : wpAny M A (setFlight (.ref e) none) Q E s := by
  obtain ⟨⟨oe, vs, he, hC, hdx, hd, hsz, h1⟩, htr⟩ := F
  obtain ⟨hTe, oT, ts, hT, hdT, h3⟩ := htr t rfl
  unfold setFlight
  refine wpAny_bind (wpAny_field he hd h1 ?_)
  rw [if_pos (show (Value.ref t != Value.none) = true from by simp)]
  refine wpAny_setField hT hdT (Array.getElem?_eq_some_iff.mp h3).1 ?_
  rw [show ((none : Option Addr).elim Value.none fun f => rawInt f) = Value.none from rfl, Heap.update_setField_same _ _ _ _ _ _ hT hdT h3]
  exact h
/-- within an except suite -/
abbrev Cx.mark (X : Cx) (e : Addr) : Cx := { X with A := X.A.mark (some (.ref e)), calm := false }
section
variable {X : Cx} {pins : List (Addr × Obj)} {σ : St} {H : Hp} {s : Shared} {e : Addr}
theorem Inv.mark (I : Inv X pins σ H s) (e : Addr) : Inv (X.mark e) pins σ H s :=
  ⟨⟨I.ok.mod, I.ok.kind, I.ok.glob, I.ok.blt, I.ok.above, I.ok.inj, I.ok.has, I.ok.cab, fun z => (by cases z), I.ok.frames, I.ok.stk, I.ok.exf, I.ok.bs, I.ok.bsz, I.ok.noex, I.ok.exfs, I.ok.funs, I.ok.frf⟩, I.os, I.bare, I.base, I.loc, I.cell, I.free, I.freeC, I.pin, I.hok, I.len⟩
theorem Inv.unmark (hd : X.calm = true → X.A.handled = none) (I : Inv (X.mark e) pins σ H s) : Inv X pins σ H s :=
  ⟨⟨I.ok.mod, I.ok.kind, I.ok.glob, I.ok.blt, I.ok.above, I.ok.inj, I.ok.has, I.ok.cab, hd, I.ok.frames, I.ok.stk, I.ok.exf, I.ok.bs, I.ok.bsz, I.ok.noex, I.ok.exfs, I.ok.funs, I.ok.frf⟩, I.os, I.bare, I.base, I.loc, I.cell, I.free, I.freeC, I.pin, I.hok, I.len⟩
/-- a thing that was not there when the context's frame, cells and pins were -/
structure Fresh (X : Cx) (pins : List (Addr × Obj)) (ea : Addr) : Prop where
  old : X.s₀.heap.get? ea = none
  loc : ea ≠ X.env.locals
  cell : ∀ x c, X.env.cells.lookup x = some c → c ≠ ea
  pin : ∀ p ∈ X.pn ++ pins, p.1 ≠ ea
theorem Inv.freshAt (I : Inv X pins σ H s) (hx : X.ex = []) {ea : Addr} (h : s.heap.get? ea = none) : Fresh X pins ea where
  old := I.old hx h
  loc := fun z => by
    obtain ⟨m, ⟨o, _, _, ho, _⟩, _⟩ := I.loc
    rw [z, ho] at h
    cases h
  cell := fun x c e z => by
    obtain ⟨v, o, ho, _⟩ := I.cell x c e
    rw [z, h] at ho
    cases ho
  pin := fun p hp z => by
    have := (I.pin p hp).1
    rw [z, h] at this
    cases this
/-- from now on tracked -/
theorem Inv.track {ea : Addr} {φ : Heap → Prop} (I : Inv X pins σ H s) (fr : Fresh X pins ea) (he : H ea = none) (hφ : φ s.heap) (ho : ∃ o, s.heap.get? ea = some o) (hs : ∀ h1 h2 : Heap, φ h1 → (∀ o, h1.get? ea = some o → h2.get? ea = some o) → φ h2) : Inv X pins σ (upd H ea (.ext φ)) s := by
  refine ⟨I.ok, I.os, I.bare, ⟨I.base.keep, I.base.slot, fun b o q n hx => ?_, I.base.there, fun b xs q => ?_, fun b o u q => ?_, fun b ps q => ?_⟩, I.loc, I.cell, ?_, fun x c h => ?_, fun p hp => ?_, fun a u q => ?_, I.len⟩
  · rw [upd_ne fun z => by rw [z, fr.old] at q; cases q]
    exact I.base.free b o q n hx
  · have := I.base.tups b xs q
    rw [upd_ne (ne_of_none this he)]
    exact this
  · have := I.base.frzs b o u q
    rw [upd_ne (ne_of_none this he)]
    exact this
  · obtain ⟨m, this⟩ := I.base.tbls b ps q
    exact ⟨m, by rw [upd_ne (ne_of_none this he)]; exact this⟩
  · rw [upd_ne (Ne.symm fr.loc)]
    exact I.free
  · rw [upd_ne (fr.cell x c h)]
    exact I.freeC x c h
  · obtain ⟨h1, h2, h3⟩ := I.pin p hp
    exact ⟨h1, by rw [upd_ne (fr.pin p hp)]; exact h2, h3⟩
  · by_cases z : a = ea
    · subst z
      rw [upd_same] at q
      cases q
      exact ⟨hφ, ho, hs⟩
    · rw [upd_ne z] at q
      exact (I.hok a u q).stay (fun b o _ z => z) (fun b z => by rw [upd_ne (ne_of_none z he)]; exact z) fun b xs z => by rw [upd_ne (ne_of_none z he)]; exact z
/-- the name of `as` goes -/
theorem name_goes {M : Model} {A : Around} {E : Value → Shared → Prop} {i : Nat} {n : Str} {pos : Pos} {Q : Unit → Shared → Prop} (I : Inv X pins σ H s) (hN : X.N.Nodup) (hi : X.N[i]? = some n) (hl : X.env.scope.names.lookup n = some .local)
    (h : ∀ s', Inv X pins (σ.set i none) H s' → Q () s') : wpAny M A (do bindName X.env n .none; unbindBehindTheSuite X.env n pos) Q E s := by
  obtain ⟨m, hn, hlm⟩ := id I.loc
  have hcls : (X.env.scope.kind == .class || (X.env.scope.kind == .module && X.env.locals != X.env.globals)) = false := by rw [I.ok.kind]; rfl
  have hiσ : i < σ.length := by rw [I.len]; exact (List.getElem?_eq_some_iff.mp hi).1
  obtain ⟨oL, _, _, hoL, _⟩ := id hn
  refine wpAny_nameGoes_keeps hl hn hcls fun h' v hn' hs => h _ ⟨I.ok, I.os, I.bare, ⟨fun b o e n hb hx => ?_, fun b o e n hb hx => ?_, I.base.free, fun b o e hx => ?_, I.base.tups, I.base.frzs, I.base.tbls⟩, ⟨_, hn', fun j y v' e1 e2 e3 => ?_⟩, fun y c e => ?_, I.free, I.freeC, fun p hp => ?_, fun b ob e => ?_, by simpa using I.len⟩
  · exact (hs.2 b (Nat.ne_of_lt (Nat.lt_of_lt_of_le (Heap.lt_size e) I.ok.above))).trans (I.base.keep b o e n hb hx)
  · obtain ⟨sl, e1⟩ := I.base.slot b o e n hb hx
    exact ⟨sl, (hs.2 b (Nat.ne_of_lt (Nat.lt_of_lt_of_le (Heap.lt_size e) I.ok.above))).trans e1⟩
  · obtain ⟨o', e1⟩ := I.base.there b o e hx
    exact ⟨o', (hs.2 b (Nat.ne_of_lt (Nat.lt_of_lt_of_le (Heap.lt_size e) I.ok.above))).trans e1⟩
  · by_cases hj : j = i
    · subst hj
      rw [List.getElem?_set_self hiσ] at e2
      cases e2
    · rw [List.getElem?_set_ne (Ne.symm hj)] at e2
      obtain ⟨u', r', q⟩ := hlm j y v' e1 e2 e3
      refine ⟨u', r', ?_⟩
      rcases q with ⟨k, e⟩ | ⟨k, c, e, z⟩
      · refine .inl ⟨k, ?_⟩
        have : y ≠ n := fun e => hj (nodup_ix hN e1 (e ▸ hi))
        simp [this, e]
      · exact .inr ⟨k, c, e, z.sameBut hs (I.cne y c e)⟩
  · obtain ⟨w', z⟩ := I.cell y c e
    exact ⟨w', z.sameBut hs (I.cne y c e)⟩
  · obtain ⟨e, n, ne, nf, d⟩ := I.pin p hp
    exact ⟨(hs.2 p.1 ne).trans e, n, ne, nf, d⟩
  · refine (I.hok b ob e).stay (fun c w' hc q => (hs.2 c ?_).trans q) (fun _ q => q) fun _ _ q => q
    rintro rfl
    rcases hc with z | hc
    · rw [← z] at e
      rw [I.free] at e
      cases e
    · rw [I.free] at hc
      cases hc
/-- an exception of a call comes to a try of this frame -/
theorem catch_r {s1 s' : Shared} {H1 : Hp} {E : XK} {ev : Value} {Q : Unit → Shared → Prop} {E' : Value → Shared → Prop} (I1 : Inv X pins σ H1 s1) (hx : X.ex = []) (hst : X.stack = X.env :: X.outer) (hf : X.env.frame = some X.env.locals) (x : CXr X.prog X.w X.stack H1 s1 E ev s')
    (h : ∀ ea C dx t H' s2, ev = .ref ea → Inv X pins σ H' s2 → Fly s2.heap ea C dx (some t) → H' ea = none → Fresh X pins ea → H1 ea = none → E C dx H' → Q () s2) :
    wpAny (model X.prog X.w) X.A (noteFrame ev X.env) (fun _ s2 => wpAny (model X.prog X.w) X.A (setFlight ev none) Q E' s2) E' s' := by
  obtain ⟨ea, C, dx, T, H', rfl, hos, hb, u, hok, F, h1, h2, n1, n2, hE⟩ := x
  have I2 : Inv X pins σ H' s' := I1.call' (ch := []) hos u hok hb (fun b z => absurd z (by simp))
  refine note_fly (base := X.base) (outer := X.outer) (by rw [← hst]; exact I2.ok.frames) (by rw [← hst]; exact I2.stack) hf F fun h' t F' nt W => ?_
  rw [← hst] at W
  have nx : ∀ b o, s1.heap.get? b = some o → b ≠ ea ∧ some T ≠ some b := fun b o hb => ⟨fun z => (by rw [z, n1] at hb; cases hb), fun z => (by cases z; rw [n2] at hb; cases hb)⟩
  have hok' : HOk X.prog X.w H' h' := I2.hok.flown W I2.stkFree h1 (fun t ht => by cases ht; exact h2)
  have u' : Un (frs X.stack) [] H1 H' s1.heap h' := by
    refine ⟨fun b o q n hb hx => W.keep b o hb (nx b o q).1 (nx b o q).2 (u.keep b o q n hb hx), fun b o q n hb hx => ?_, u.free, fun b o q hx => ?_, u.tups, u.frzs, u.tbls⟩
    · obtain ⟨sl, hs⟩ := u.slot b o q n hb hx
      obtain ⟨sl', hs'⟩ := W.slot b _ hb hs
      exact ⟨sl', hs'⟩
    · obtain ⟨o', ho'⟩ := u.there b o q hx
      by_cases hb : b ∈ frs X.stack
      · obtain ⟨sl, hs⟩ := W.slot b o' hb ho'
        exact ⟨_, hs⟩
      · exact ⟨o', W.keep b o' hb (nx b o q).1 (nx b o q).2 ho'⟩
  exact h ea C dx t H' { s' with heap := h' } rfl (I1.call' (s' := { s' with heap := h' }) (ch := []) hos u' hok' hb (fun b z => absurd z (by simp))) F' h1 (I1.freshAt hx n1) (I1.hok.gone n1) hE
end
end L2

set_option maxHeartbeats 4000000
namespace Z
open PySem PySem.Spec PyProof.Rows L2 PySem.W

/-! ### try .. except over data -/
theorem StOk.know {K : Frag} {L : Kl} {G0 H0 G H : Hp} {ρ : List Sl} {σ : L2.St} {ea : Addr} {dx : Option Addr} {c : Nat} {a : Option Int} (st : StOk K L G0 H0 ρ σ G H) (he : H ea = none) (ao : AtOk H0 H dx a) :
    ∃ G1, StOk K L G0 H0 ρ σ G1 (upd H ea (.ext (ExcO ea (L.cls c) dx))) ∧ Rp K L G1 (.ref ea) (.exc c a) := by
  have hg : G ea = none := st.ext.gh.free he
  have h0 : H0 ea = none := st.ext.hh.free he
  have st1 : StOk K L G0 H0 ρ σ (upd G ea (.ext (ExcO ea (L.cls c) dx))) (upd H ea (.ext (ExcO ea (L.cls c) dx))) := st.step (.alloc st.ext.gh he _)
  cases a with
  | none =>
    cases ao
    exact ⟨_, st1, .exc0 upd_same⟩
  | some i =>
    obtain ⟨b, rfl, hb, hb0⟩ := ao
    have hne : b ≠ ea := fun z => by rw [z, he] at hb; cases hb
    generalize hG : upd G ea (.ext (ExcO ea (L.cls c) (some b))) = G1 at st1
    have g1 : G1 ea = some (.ext (ExcO ea (L.cls c) (some b))) := by rw [← hG]; exact upd_same
    have hb1 : upd H ea (.ext (ExcO ea (L.cls c) (some b))) b = some (.xd [("at", .int i)]) := by rw [upd_ne hne]; exact hb
    generalize upd H ea (.ext (ExcO ea (L.cls c) (some b))) = H1 at st1 hb1
    by_cases hk : G1 b = none
    · have gg : Same G1 (upd G1 b (.xd [("at", .int i)])) := same_new hk _
      have gh : Same (upd G1 b (.xd [("at", .int i)])) H1 := fun d u q => by
        by_cases e : d = b
        · subst e
          rw [upd_same] at q
          rw [hb1]
          exact q
        · rw [upd_ne e] at q
          exact st1.ext.gh _ _ q
      refine ⟨upd G1 b (.xd [("at", .int i)]), ⟨⟨st1.ext.gg.trans gg, gh, st1.ext.hh, fun d hd => ?_⟩, fun j r hr => ?_, st1.len, st1.dist⟩, .exc1 ((upd_ne (Ne.symm hne)).trans g1) upd_same⟩
      · by_cases e : d = b
        · subst e
          exact .inr hb0
        · rw [upd_ne e] at hd
          exact st1.ext.nw d hd
      · refine (st1.sl j r hr).stay gg fun q u ho c1 c2 => ?_
        obtain ⟨q', u'', c1', _, c3, _⟩ := (st1.sl j r hr).owned ho
        rw [c1] at c1'
        cases c1'
        have hq : q ≠ b := fun z => by
          subst z
          rw [hb1] at c2
          cases c2
          cases r with
          | no => exact ho
          | v d => exact ho
          | own ds =>
            obtain ⟨p, vs, e1, e2, _⟩ := st1.sl j _ hr
            rw [c1] at e1
            cases e1
            rw [hb1] at e2
            cases e2
          | ob p c ds =>
            obtain ⟨vs, e1, ⟨dx, e2⟩, _⟩ := st1.sl j _ hr
            rw [c1] at e1
            cases e1
            rw [hb1] at e2
            cases e2
          | dic cs =>
            obtain ⟨p, xs, e1, e2, _⟩ := st1.sl j _ hr
            rw [c1] at e1
            cases e1
            rw [hb1] at e2
            cases e2
        exact ⟨c2, by rw [upd_ne hq]; exact c3⟩
    · have : G1 b = some (.xd [("at", .int i)]) := by
        cases q : G1 b with
        | none => exact absurd q hk
        | some u =>
          have := st1.ext.gh _ _ q
          rw [hb1] at this
          exact this.symm
      exact ⟨G1, st1, .exc1 g1 this⟩
theorem StOk.drop {K : Frag} {L : Kl} {G0 H0 G H : Hp} {ρ : List Sl} {σ : L2.St} (st : StOk K L G0 H0 ρ σ G H) {i : Nat} (hi : ∀ r, ρ[i]? = some r → ¬ isOwn r) : StOk K L G0 H0 (ρ.set i .no) (σ.set i none) G H where
  ext := st.ext
  sl := fun j s hs => by
    rcases get_set hs with ⟨rfl, rfl, hl⟩ | ⟨hne, hs⟩
    · trivial
    · rw [List.getElem?_set_ne (fun z => hne z.symm)]
      exact st.sl j s hs
  len := by rw [List.length_set, List.length_set]; exact st.len
  dist := fun j k p r1 r2 h1 h2 o1 o2 h3 h4 => by
    rcases get_set h1 with ⟨_, e, _⟩ | ⟨n1, g1⟩
    · rw [e] at o1; exact o1.elim
    rcases get_set h2 with ⟨_, e, _⟩ | ⟨n2, g2⟩
    · rw [e] at o2; exact o2.elim
    rw [List.getElem?_set_ne (fun z => n1 z.symm)] at h3
    rw [List.getElem?_set_ne (fun z => n2 z.symm)] at h4
    exact st.dist j k p r1 r2 g1 g2 o1 o2 h3 h4
/-- an own class as it is asked for in an except -/
structure XpK (K : Frag) (D : Addr) : Prop where
  cls : (clsIn K D).isSome = true
  ty : typeIn K (.ref D) = some (.type "type")
  bs : mroIn K D (.type "BaseException") = some true
/-- the handlers, an exception of the class c with `at` being held -/
def HB (X : Cx) (L : Kl) (ρ : List Sl) (c : Nat) (a : Option Int) (hs : List ExceptHandler) (E : En) : Prop := ∀ (ea : Addr) (pins : List (Addr × Obj)) (σ : L2.St) (G0 H0 G H : Hp) (s : Shared) (dx : Option Addr) (t : Addr),
  Inv X pins σ H s → StOk X.K L G0 H0 ρ σ G H → Fly s.heap ea (.ref (L.cls c)) dx (some t) → H ea = none → Fresh X pins ea → AtOk H0 H dx a → wpAny (model X.prog X.w) X.A (handleBy (.ref ea) X.env hs) (SP X pins (ends X.K L G0 H0 E)) X.xe s
theorem fly_inst {h : Heap} {ea C : Addr} {dx t : Option Addr} (F : Fly h ea (.ref C) dx t) (hd : ∀ b, dx = some b → ∃ o, h.get? b = some o) : ∃ ox od, InstAt h ea ox C od := by
  obtain ⟨oe, vs, he, hC, hdx, hda, _⟩ := F.ex
  have hn : notCls oe = true := by unfold notCls; rw [hda]
  cases dx with
  | none => exact ⟨oe, none, he, hC, hn, by rw [hdx]; trivial⟩
  | some b =>
    obtain ⟨o, ho⟩ := hd b rfl
    exact ⟨oe, some o, he, hC, hn, by rw [hdx]; exact ho⟩
theorem at_inst {P : Program} {w : World} {h : Heap} {H0 H : Hp} {ea C : Addr} {dx : Option Addr} {t : Option Addr} {a : Option Int} (hok : HOk P w H h) (F : Fly h ea (.ref C) dx t) (ao : AtOk H0 H dx a) : ∃ ox od, InstAt h ea ox C od :=
  fly_inst F fun b z => by
    subst z
    cases a with
    | none => cases ao
    | some i =>
      obtain ⟨b', e, hb, _⟩ := ao
      cases e
      exact hok.here hb
section
variable {X : Cx} {L : Kl} {ρ : List Sl} {c : Nat} {a : Option Int} {E : En} {x n : Str} {np pos : Pos} {name : Option Str} {body rest : List Stmt} {b0 : Stmt} {hs : List ExceptHandler} {DA : Addr}
theorem hb_skip (hm : X.mg x = some (.ref DA)) (T : XpK X.K DA) (hno : mroIn X.K (L.cls c) (.ref DA) = some false) (h : HB X L ρ c a hs E) (hg : Gl X x := by rfl) (hd : (x == ("__debug__" : Str)) = false := by decide) : HB X L ρ c a (.ExceptHandler (some (.Name x np)) name body pos :: hs) E := by
  intro ea pins σ G0 H0 G H s dx t I st F he fr ao
  obtain ⟨ox, od, J⟩ := at_inst I.hok F ao
  refine wpAny_handleBy_cons (codeAny_handlers_test (ld_glob (I.mark ea) hg hm ?_ hd)) (by intro q; cases q)
  refine exc_matches I.kIn J T.cls T.ty T.bs hno ?_
  exact h ea pins σ G0 H0 G H s dx t I st F he fr ao
/-- except C as n: suite, the suite goes on -/
theorem hb_as (i : Nat) (hm : X.mg x = some (.ref DA)) (T : XpK X.K DA) (hyes : mroIn X.K (L.cls c) (.ref DA) = some true) (ρ2 : List Sl) (hb : ∀ ea, SV (X.mark ea) L (ρ.set i (.v (.exc c a))) (b0 :: body) { nx := fun r => r = ρ2, rt := fun _ => False }) (hr : E.nx (ρ2.set i .no)) (ho : ∀ r, ρ2[i]? = some r → ¬ isOwn r)
    (hxe : ∀ e s, ¬ X.xe e s) (hN : X.N.Nodup := by first | assumption | decide +kernel) (hi : X.N[i]? = some n := by rfl) (hl : X.env.scope.names.lookup n = some .local := by rfl) (hg : Gl X x := by rfl) (hd : (x == ("__debug__" : Str)) = false := by decide) : HB X L ρ c a (.ExceptHandler (some (.Name x np)) (some n) (b0 :: body) pos :: hs) E := by
  intro ea pins σ G0 H0 G H s dx t I st F he fr ao
  obtain ⟨ox, od, J⟩ := at_inst I.hok F ao
  refine wpAny_handleBy_cons (codeAny_handlers_test (ld_glob (I.mark ea) hg hm ?_ hd)) (by intro q; cases q)
  refine exc_matches I.kIn J T.cls T.ty T.bs hyes ?_
  refine codeAny_handlers_suite_as (land_again F ?_)
  obtain ⟨oe, vs, hoe, hC, hdx, hda, _⟩ := F.ex
  have I1 : Inv X pins σ (upd H ea (.ext (ExcO ea (L.cls c) dx))) s := I.track fr he ⟨oe, vs, hoe, hC, hdx, hda⟩ ⟨oe, hoe⟩ fun h1 h2 ⟨o, ws, q1, q2⟩ k => ⟨o, ws, k _ q1, q2⟩
  obtain ⟨G1, st1, rp⟩ := st.know (c := c) he ao
  refine store_ok (v := .ref ea) I1 hN hi (.inl hl) rfl (fun s2 I2 => ?_) (.inr hl)
  have hh := (hb ea).run (σ.set i (some (.ref ea))) G0 H0 G1 _ (st1.set rp) pins s2 (I2.mark ea)
  refine wpAny_mono hh (fun f s3 q => ?_) fun e s3 z => (hxe e s3 z).elim
  cases f with
  | next =>
    obtain ⟨σ3, H3, I3, r, G3, st3, e⟩ := q
    subst e
    exact name_goes (I3.unmark I.ok.hd) hN hi hl fun s4 I4 => ⟨_, H3, I4, _, G3, st3.drop ho, hr⟩
  | brk => obtain ⟨_, _, _, _, _, _, z⟩ := q; exact z.elim
  | cont => obtain ⟨_, _, _, _, _, _, z⟩ := q; exact z.elim
  | ret u =>
    obtain ⟨_, _, _, _, _, z⟩ := q
    rcases z with ⟨_, _, _, _, z⟩ | ⟨_, _, _, _, _, _, _, _, _, _, z⟩
    · exact z.elim
    · exact z.elim
/-- except C: suite, the suite hands back -/
theorem hb_no (hm : X.mg x = some (.ref DA)) (T : XpK X.K DA) (hyes : mroIn X.K (L.cls c) (.ref DA) = some true) (hb : ∀ ea, SV (X.mark ea) L ρ (b0 :: body) { nx := fun _ => False, rt := E.rt })
    (hxe : ∀ e s, ¬ X.xe e s) (hg : Gl X x := by rfl) (hd : (x == ("__debug__" : Str)) = false := by decide) : HB X L ρ c a (.ExceptHandler (some (.Name x np)) none (b0 :: body) pos :: hs) E := by
  intro ea pins σ G0 H0 G H s dx t I st F he fr ao
  obtain ⟨ox, od, J⟩ := at_inst I.hok F ao
  refine wpAny_handleBy_cons (codeAny_handlers_test (ld_glob (I.mark ea) hg hm ?_ hd)) (by intro q; cases q)
  refine exc_matches I.kIn J T.cls T.ty T.bs hyes ?_
  refine codeAny_handlers_suite (land_again F ?_)
  have hh := (hb ea).run σ G0 H0 G _ st pins s (I.mark ea)
  refine wpAny_mono hh (fun f s3 q => ?_) fun e s3 z => (hxe e s3 z).elim
  cases f with
  | next => obtain ⟨_, _, _, _, _, _, z⟩ := q; exact z.elim
  | brk => obtain ⟨_, _, _, _, _, _, z⟩ := q; exact z.elim
  | cont => obtain ⟨_, _, _, _, _, _, z⟩ := q; exact z.elim
  | ret u =>
    obtain ⟨v, σ3, H3, I3, r, z⟩ := q
    rcases z with ⟨d, G3, x3, r3, z⟩ | ⟨_, _, _, _, _, _, _, _, _, _, z⟩
    · exact ⟨v, σ3, H3, I3.unmark I.ok.hd, r, .inl ⟨d, G3, x3, r3, z⟩⟩
    · exact z.elim
/-- try: f(..) that raises; the handlers -/
theorem sv_try {y : Str} {k : Nat} {C : List D → Nat → Option Int → Prop} {e : Expr} {es : List Expr} {ds : List D} {h0 : ExceptHandler} {p epos tpos : Pos} (F : FnR X.prog X.w X.K X.mg X.base L y k C) (hr : Room k X.A) (ha : EVs X L ρ (e :: es) ds) (hc : C ds c a)
    (hh : HB X L ρ c a (h0 :: hs) { E with nx := fun ρ' => SV X L ρ' rest E }) (hxe : ∀ e s, ¬ X.xe e s) (hx : X.ex = [] := by rfl) (hst : X.stack = X.env :: X.outer := by rfl) (hf : X.env.frame = some X.env.locals := by rfl) (hg : Gl X y := by rfl) (hdb : (y == ("__debug__" : Str)) = false := by decide)
    (hsw : swapsWith (.Call (.Name y p) (e :: es) [] pos) none epos.line X.env = pure false := by rfl)
    (he : starEach (e :: es) X.env = (false, eval e X.env) :: starEach es X.env := by rfl) (hpl : (backTo pos (starEach es X.env)).any (·.1) = false := by rfl) :
    SV X L ρ (.Try [.Expr (.Call (.Name y p) (e :: es) [] pos) epos] (h0 :: hs) [] [] tpos :: rest) E := .mk fun σ G0 H0 G H st => by
  have le : EndsLe (ends X.K L G0 H0 { E with nx := fun ρ' => SV X L ρ' rest E }) { ends X.K L G0 H0 E with nx := fun σ' H' => wSs X rest (ends X.K L G0 H0 E) σ' H' } :=
    ⟨fun σ' H' ⟨ρ', G', s', h'⟩ => h'.run σ' G0 H0 G' H' s', fun _ _ q => q, fun _ _ q => q, fun _ _ q => q⟩
  refine wSs_cons fun pins s I => ?_
  obtain ⟨f, fd, ps, F1, hm, hk, hb⟩ := F.ex
  refine wpAny_Try_except (wpAny_execs_cons (wpAny_Expr_any ?_ I.quiet hsw))
  refine wpAny_Call_Name_kw (ld_glob I hg hm ?_ hdb)
  refine PySem.W.callWith_K (h₀ := X.base) I.ok.mod.kin hk ?_ he hpl
  refine wpAny_mono (ha.run σ G0 H0 G H st (fun vs H1 => ∃ G1, Ext G H G1 H1 ∧ RpA X.K L G1 vs ds) (fun vs G1 H1 e1 r1 => ⟨G1, e1, r1⟩) pos pins s I) (fun us s1 ⟨vs, H1, I1, r, G1, e1, r1⟩ => ⟨I1.kIn, ?_⟩) fun e s3 z => (hxe e s3 z).elim
  have st1 := st.step e1
  have sp : spR X.K L C vs H1 (fun _ _ => False) (fun C' dx H' => C' = .ref (L.cls c) ∧ Same H1 H' ∧ AtOk H1 H' dx a) := ⟨G1, ds, c, a, e1.gh, r1, hc, fun dx H' sm ao => ⟨rfl, sm, ao⟩⟩
  have hl : us.length = ps.length := by rw [← r.length]; exact F1.len _ _ _ _ sp
  refine wpAny_call (codeAny_mono (F1.run X.A X.stack s1 H1 ⟨us, []⟩ us vs (fun _ _ => False) _ hr I1.env0 (by have := hb s1 us I1.kIn (by rw [List.append_nil]; exact hl); rw [List.append_nil] at this; exact this) r sp) fun r' s' hq => ?_)
  cases r' with
  | ok fl =>
    cases fl with
    | ret u => obtain ⟨_, _, _, _, _, _, _, z⟩ := hq; exact z.elim
    | next => exact False.elim hq
    | brk => exact False.elim hq
    | cont => exact False.elim hq
  | error ev =>
    refine catch_r I1 hx hst hf hq fun ea C' dx t H' s2 e I2 F2 h1 fr h1e ⟨eC, sm, ao⟩ => ?_
    subst e eC
    have st2 : StOk X.K L G0 H0 ρ σ G1 H' := st1.step ⟨.refl _, e1.gh.trans sm, sm, fun _ z => .inl z⟩
    exact thn (hh ea pins σ G0 H0 G1 H' s2 dx t I2 st2 F2 h1 fr (ao.back st1.ext.hh)) fun f s3 q => SP_mono le q
/-- try: a block that raises nothing -/
theorem sv_tryOk {h0 : ExceptHandler} {tpos : Pos} (hb : SV X L ρ body { E with nx := fun ρ' => SV X L ρ' rest E }) (hxe : ∀ e s, ¬ X.xe e s) : SV X L ρ (.Try body (h0 :: hs) [] [] tpos :: rest) E := .mk fun σ G0 H0 G H st => by
  have le : EndsLe (ends X.K L G0 H0 { E with nx := fun ρ' => SV X L ρ' rest E }) { ends X.K L G0 H0 E with nx := fun σ' H' => wSs X rest (ends X.K L G0 H0 E) σ' H' } :=
    ⟨fun σ' H' ⟨ρ', G', s', h'⟩ => h'.run σ' G0 H0 G' H' s', fun _ _ q => q, fun _ _ q => q, fun _ _ q => q⟩
  refine wSs_cons fun pins s I => ?_
  refine wpAny_Try_except (wpAny_mono (hb.run σ G0 H0 G H st pins s I) (fun f s1 q => ?_) fun e s3 z => (hxe e s3 z).elim)
  have q' := SP_mono le q
  cases f with
  | next => exact wpAny_execs_nil q'
  | brk => exact q'
  | cont => exact q'
  | ret u => exact q'
end
end Z

set_option maxHeartbeats 4000000
namespace Z
open PySem PySem.Spec PyProof.Rows L2 PySem.W

/-! ### a def that is called within an except suite -/
structure RoomH (k : Nat) (A : Around) : Prop where
  dp : A.depth + 3 * k + 5 < recursionLimit
  un : A.units + 16 * k + 200 < cLine
theorem RoomH.of {k : Nat} {A : Around} (r : Room k A) (v : Option Value) : RoomH k (A.mark v) := ⟨r.dp, r.un⟩
theorem RoomH.deeper {k : Nat} {A : Around} (r : RoomH (k + 1) A) (env : Env) : RoomH k (A.deeper env) :=
  ⟨by have := r.dp; show A.depth + 1 + 3 * k + 5 < _; omega, by have := r.un; show A.units + 3 + 16 * k + 200 < _; omega⟩
abbrev cxH (P : Program) (w : World) (K : Frag) (mg : Str → Option Value) (base : Heap) (N : List Str) (qual : Str) (scope : Scope) (f : Addr) (cd : Value) (A : Around) (outer : List Env) (s : Shared) (H : Hp) (E : XK) : Cx :=
  { cxOf CX0 P w K mg base N qual scope f cd A outer s H E with calm := false, xe := fun _ _ => False }
structure FnOkH (P : Program) (w : World) (K : Frag) (mg : Str → Option Value) (base : Heap) (k : Nat) (f : Addr) (fd : FuncData) (ps : List Str) (sp : Sp) : Prop where
  len : ∀ vs H Q E, sp vs H Q E → vs.length = ps.length
  run : ∀ (A : Around) (outer : List Env) (s : Shared) (H : Hp) (args : Args) (us : List Value) (vs : List V) (Q : VK) (E : XK), RoomH k A → Env0 P w K mg base A outer s H → BindsTo s fd args (ps.zip us) → Vals vs us → sp vs H Q E →
    codeAny (model P w) A (.call (.ref f) args) (CR CX0 outer P w H s Q E) s
section
variable {P : Program} {w : World} {K : Frag} {mg : Str → Option Value} {base : Heap} {L : Kl}
theorem inv_startH {N ps : List Str} {qual : Str} {scope : Scope} {f : Addr} {cd : Value} {A : Around} {outer : List Env} {s s1 : Shared} {H : Hp} {E : XK} {us : List Value} {vs : List V}
    (S : FnScope N ps scope) (e0 : Env0 P w K mg base A outer s H) (hl : vs.length = ps.length) (r : Vals vs us)
    (x : InCallC s s.heap.objs.size (bindL (envOfC qual scope s.heap.objs.size f cd).kindOf (ps.zip us) fun _ => none) (cellsFrom (s.heap.objs.size + 1) scope.names []) (bindC (envOfC qual scope s.heap.objs.size f cd).kindOf (ps.zip us) fun _ => none) s1) :
    Inv (cxH P w K mg base N qual scope f cd A outer s H E) [] (L2.start N vs) H s1 := by
  have I := inv_start (CX := CX0) (E := E) (A := { A with handled := none }) (w := w) S rfl (P := P) (K := K) (mg := mg) (base := base) (outer := outer) (H := H) ⟨e0.frames, e0.mod, e0.bs, e0.bsz, e0.funs, e0.frf, e0.hok, e0.bare⟩ hl r x
  exact ⟨⟨I.ok.mod, I.ok.kind, I.ok.glob, I.ok.blt, I.ok.above, I.ok.inj, I.ok.has, I.ok.cab, fun z => (by cases z), Around.frames_deeper e0.frames, I.ok.stk, I.ok.exf, I.ok.bs, I.ok.bsz, I.ok.noex, I.ok.exfs, I.ok.funs, I.ok.frf⟩, I.os, I.bare, I.base, I.loc, I.cell, I.free, I.freeC, I.pin, I.hok, I.len⟩
theorem fnH_okT {x qual : Str} {st : Stmt} {f : Addr} {fd : FuncData} {N ps : List Str} {k : Nat} {C : List D → D → Prop} (F : DefT K x qual st ps f fd) (S : FnScope N ps (defScope st)) (len : ∀ ds r, C ds r → ds.length = ps.length)
    (hbody : ∀ (cdv : Value) (A : Around) (outer : List Env) (s : Shared) (H : Hp) (E : XK), RoomH k (A.deeper (envOfC qual (defScope st) s.heap.objs.size f cdv)) → ∀ ds r, C ds r →
      SV (cxH P w K mg base N qual (defScope st) f cdv A outer s H E) L (rho0 N ds) (defBody st) { nx := fun _ => r = .non, rt := fun d => d = r }) : FnOkH P w K mg base (k + 1) f fd ps (spC K L C) := by
  obtain ⟨oc, od, dV, kV, doc, pm, an, cdv, ct, osl, rfl, lk, hcd⟩ := F.ex
  have hlen : ∀ vs H Q E, spC K L C vs H Q E → vs.length = ps.length := fun vs H Q E ⟨G, ds, r, _, hr, hc, _⟩ => hr.length.trans (len ds r hc)
  refine ⟨hlen, fun A outer s H args us vs Q E hr e0 hb r hsp => ?_⟩
  have hl := hlen _ _ _ _ hsp
  have KX : K.In s.heap := e0.mod.kin.keeps fun b o e => (e0.bs b o e).1
  have lim : s.heap.NoLimit := e0.mod.nolimit.keeps fun b o e => (e0.bs b o e).1
  have hkind : ∀ y ∈ ps.zip us, (defScope st).names.lookup y.1 = some .local ∨ ((defScope st).names.lookup y.1 = some .cell ∧ ((cellsFrom (s.heap.objs.size + 1) (defScope st).names []).lookup y.1).isSome = true) := fun ⟨n, v⟩ hy => by
    rcases S.par n (List.of_mem_zip hy).1 with q | q
    · exact .inl q
    · exact .inr ⟨q, PySem.W.cellsFrom_some _ _ _ (.inl q)⟩
  refine codeAny_call_function (by have := hr.dp; omega) (KX _ _ lk) rfl S.co S.gen rfl (PySem.W.codeRec_of KX hcd) (hb _ _ _ _ ?_)
  refine wpAny_newFunctionEnv_cells S.kind hkind fun env he s1 x => ?_
  subst he
  refine ⟨lim.keeps x.toInCall.keep, codeAny_func ?_⟩
  have I := inv_startH (P := P) (w := w) (K := K) (mg := mg) (base := base) (E := E) S e0 hl r x
  obtain ⟨G, ds, rr, sm, rp, hc, kk⟩ := hsp
  refine wpAny_mono ((hbody cdv A outer s H E (hr.deeper _) ds rr hc).run (L2.start N vs) G H G H (st0 sm rp) [] s1 I) (fun fl s' hs => ?_) fun e s' hs => hs.elim
  have fin : ∀ {σ' : L2.St} {H' : Hp} {v : V} {u : Value}, Inv (cxH P w K mg base N qual (defScope st) f cdv A outer s H E) [] σ' H' s' → RelV v u → Q v H' → CE outer P w H s Q u s' :=
    fun {σ' H' v u} J rv q => ⟨v, H', J.os, J.bare, J.base, J.hok, rv, q⟩
  cases fl with
  | ret u =>
    obtain ⟨v, σ', H', J, rv, q⟩ := hs
    rcases q with ⟨d, G', x1, r1, e⟩ | ⟨_, _, _, _, _, _, _, _, _, _, z⟩
    · subst e
      exact fin J rv (kk v G' H' x1 r1)
    · exact z.elim
  | next =>
    obtain ⟨σ', H', J, ρ', G', st', e⟩ := hs
    subst e
    exact fin (v := V.non) (u := Value.none) J rfl (kk .non G' H' st'.ext .non)
  | brk =>
    obtain ⟨_, _, _, _, _, _, q⟩ := hs
    exact False.elim q
  | cont =>
    obtain ⟨_, _, _, _, _, _, q⟩ := hs
    exact False.elim q
structure FnH (P : Program) (w : World) (K : Frag) (mg : Str → Option Value) (base : Heap) (L : Kl) (x : Str) (k : Nat) (C : List D → D → Prop) : Prop where
  ex : ∃ (f : Addr) (fd : FuncData) (ps : List Str), FnOkH P w K mg base k f fd ps (spC K L C) ∧ mg x = some (.ref f) ∧ PySem.W.keepIn K (.ref f) = true ∧ Binds K fd ps []
theorem fnH_def {x : Str} {st : Stmt} {N ps : List Str} {k : Nat} {C : List D → D → Prop} (g : GDef K mg x st ps) (S : FnScope N ps (defScope st)) (len : ∀ ds r, C ds r → ds.length = ps.length)
    (hbody : ∀ (f : Addr) (cdv : Value) (A : Around) (outer : List Env) (s : Shared) (H : Hp) (E : XK), RoomH k (A.deeper (envOfC x (defScope st) s.heap.objs.size f cdv)) → ∀ ds r, C ds r →
      SV (cxH P w K mg base N x (defScope st) f cdv A outer s H E) L (rho0 N ds) (defBody st) { nx := fun _ => r = .non, rt := fun d => d = r }) : FnH P w K mg base L x (k + 1) C := by
  obtain ⟨f, fd, F, hm⟩ := g
  exact ⟨f, fd, ps, fnH_okT F S len (hbody f), hm, F.kp, F.bd⟩
end
section
variable {X : Cx} {L : Kl} {ρ : List Sl} {e : Expr} {es : List Expr} {d : D} {ds : List D} {pos p : Pos}
theorem ev_callH {x : Str} {k : Nat} {C : List D → D → Prop} (F : FnH X.prog X.w X.K X.mg X.base L x k C) (hr : RoomH k X.A) (ha : EVs X L ρ (e :: es) ds) (hc : C ds d) (hg : Gl X x := by rfl) (hdb : (x == ("__debug__" : Str)) = false := by decide)
    (he : starEach (e :: es) X.env = (false, eval e X.env) :: starEach es X.env := by rfl) (hpl : (backTo pos (starEach es X.env)).any (·.1) = false := by rfl) : EV X L ρ (.Call (.Name x p) (e :: es) [] pos) d := .mk fun σ G0 H0 G H st Q k => by
  obtain ⟨f, fd, ps, F1, hm, hk, hb⟩ := F.ex
  intro pins s I
  refine wpAny_Call_Name_kw (ld_glob I hg hm ?_ hdb)
  refine PySem.W.callWith_K (h₀ := X.base) I.ok.mod.kin hk (thn (ha.run σ G0 H0 G H st (fun vs H1 => ∃ G1, Ext G H G1 H1 ∧ RpA X.K L G1 vs ds) (fun vs G1 H1 e1 r1 => ⟨G1, e1, r1⟩) pos pins s I) fun us s1 ⟨vs, H1, I1, r, G1, e1, r1⟩ => ⟨I1.kIn, ?_⟩) he hpl
  have sp : spC X.K L C vs H1 Q (fun _ _ _ => False) := ⟨G1, ds, d, e1.gh, r1, hc, fun v G2 H2 e2 r2 => k v G2 H2 (e1.trans e2) r2⟩
  have hl : us.length = ps.length := by rw [← r.length]; exact F1.len _ _ _ _ sp
  refine wpAny_call (codeAny_mono (F1.run X.A X.stack s1 H1 ⟨us, []⟩ us vs Q _ hr I1.env0 (by have := hb s1 us I1.kIn (by rw [List.append_nil]; exact hl); rw [List.append_nil] at this; exact this) r sp) fun r' s' hq => ?_)
  cases r' with
  | error e => exact hq.elim
  | ok fl =>
    cases fl with
    | ret u => exact I1.after hq
    | next => exact False.elim hq
    | brk => exact False.elim hq
    | cont => exact False.elim hq
end
end Z

set_option maxHeartbeats 4000000
set_option exponentiation.threshold 2000
namespace K02
open PySem L2 Z M
def top (i : Nat) : Stmt := PySem.Challenge.pw_sixcells_k02_refused.main.body.getD i (.Pass ⟨0, 0, 0, 0⟩)
/-- what the top has laid -/
structure Top (K : PySem.W.Frag) (mg : Str → Option Value) (L : Kl) : Prop where
  b_enumerate : mg "enumerate" = none
  b_max : mg "max" = none
  b_list : mg "list" = none
  b_range : mg "range" = none
  b_isinstance : mg "isinstance" = none
  b_int : mg "int" = none
  b_tuple : mg "tuple" = none
  b_abs : mg "abs" = none
  b_sorted : mg "sorted" = none
  b_len : mg "len" = none
  b_bool : mg "bool" = none
  b_ValueError : mg "ValueError" = none
  c_MIDDLE : ∃ a, mg "MIDDLE" = some (.ref a) ∧ ∀ G, Rp K L G (.ref a) (.tup [(.int 0), (.int 0)])
  c_WAYS : ∃ a, mg "WAYS" = some (.ref a) ∧ ∀ G, Rp K L G (.ref a) (.tup [(.tup [(.int 1), (.int 0)]), (.tup [(.int 0), (.int 1)]), (.tup [(.int (-1)), (.int 1)]), (.tup [(.int (-1)), (.int 0)]), (.tup [(.int 0), (.int (-1))]), (.tup [(.int 1), (.int (-1))])])
  p__wall : GDef K mg "_wall" (top 0) ["k"]
  p_is_whole : GDef K mg "is_whole" (top 11) ["thing"]
  p_is_count : GDef K mg "is_count" (top 12) ["thing"]
  p_is_cell : GDef K mg "is_cell" (top 13) ["thing"]
  p_is_way : GDef K mg "is_way" (top 14) ["thing"]
  p_plus : ∃ t0, GDefD K mg "plus" (top 15) ["one", "other", "times"] [.int 1 t0]
  p_stepped : GDef K mg "stepped" (top 16) ["cell", "ways"]
  p_distance : GDef K mg "distance" (top 17) ["one", "other"]
  p_near_numbers : GDef K mg "near_numbers" (top 19) ["part", "whole"]
  p_nearest : GDef K mg "nearest" (top 20) ["one", "other", "at"]
  p_check_size : GDef K mg "check_size" (top 22) ["size"]
  p_side_cell : GDef K mg "side_cell" (top 23) ["size", "side", "along"]
  p_ring : GDef K mg "ring" (top 24) ["middle", "size"]
  p_last_place : GDef K mg "last_place" (top 25) ["size"]
  p_size_at : GDef K mg "size_at" (top 26) ["place"]
  p_cell_at : GDef K mg "cell_at" (top 27) ["place"]
  p_stretched : GDef K mg "stretched" (top 29) ["places"]
  l_cell_at : GDef K mg "_law_cell_at" (top 32) ["_law_script", "_law_k"]
  l_whole : GDef K mg "_law_whole" (top 33) ["_law_found"]
  l_names : GDef K mg "_law_names" (top 34) ["_law_e"]
  l_call : GDef K mg "_law_call" (top 35) ["_law_kind", "_law_thing", "_law_more"]
  l_told : GDef K mg "_law_told" (top 36) ["_law_kind", "_law_thing", "_law_more"]
  l_by_base : GDef K mg "_law_by_base" (top 37) ["_law_kind", "_law_thing", "_law_more"]
  l_no_way : GDef K mg "_law_no_way" (top 38) ["_law_cell"]
  l_no_cell : GDef K mg "_law_no_cell" (top 39) ["_law_cell"]
  l_no_number : GDef K mg "_law_no_number" (top 40) ["_law_cell", "_law_many"]
  l_kinds : GDef K mg "_law_kinds" (top 41) ["_law_bad", "_law_good"]
  l_list : GDef K mg "_law_list" (top 42) ["_law_script", "_law_way"]
  l_in_list : GDef K mg "_law_in_list" (top 43) ["_law_script", "_law_way", "_law_more"]
  l_two : GDef K mg "_law_two" (top 44) ["_law_script"]
  law : GDef K mg "law" (top 45) ["_law_script"]
  nm_Floor : L.nm 0 = [("standing" : Str)]
  m_Floor : mg "Floor" = some (.ref (L.cls 0))
  k_Floor : KCls K L 0
  i_Floor : ClsI K (L.cls 0)
  t_Floor_Floor : PySem.W.kitOne K (.ref (L.cls 0)) (.ref (L.cls 0)) = some true
  d_Floor_init : IDef K mg L "Floor" "Floor.__init__" 0 (inClass (top 30) 0) ["self", "walls"] []
  d_Floor_walls : MDef K L "walls" "Floor.walls" (inClass (top 30) 1) ["self"] [0]
  d_Floor_free_cells : MDef K L "free_cells" "Floor.free_cells" (inClass (top 30) 2) ["self", "one", "other", "at"] [0]
  d_Floor_barred : MDef K L "barred" "Floor.barred" (inClass (top 30) 3) ["self", "one", "other"] [0]
  d_Floor_sees : MDef K L "sees" "Floor.sees" (inClass (top 30) 4) ["self", "one", "other"] [0]
  d_Floor_free_row : MDef K L "free_row" "Floor.free_row" (inClass (top 30) 5) ["self", "one", "other"] [0]
  d_Floor_stretches : MDef K L "stretches" "Floor.stretches" (inClass (top 30) 6) ["self", "middle", "size"] [0]
  d_Floor_moved : MDef K L "moved" "Floor.moved" (inClass (top 30) 7) ["self", "motion"] [0]
  m_NoCell : mg "NoCell" = some (.ref (L.cls 1))
  m_NoWay : mg "NoWay" = some (.ref (L.cls 2))
  m_NoPlace : mg "NoPlace" = some (.ref (L.cls 3))
  m_NoSize : mg "NoSize" = some (.ref (L.cls 4))
  m_NoPoint : mg "NoPoint" = some (.ref (L.cls 5))
  m_FloorError : mg "FloorError" = some (.ref (L.cls 6))
  p_NoWay : XpK K (L.cls 2)
  p_NoCell : XpK K (L.cls 1)
  p_FloorError : XpK K (L.cls 6)
  x_NoCell : PySem.W.ExcK K (L.cls 1)
  r_NoCell_NoWay : PySem.W.mroIn K (L.cls 1) (.ref (L.cls 2)) = some false
  r_NoCell_NoCell : PySem.W.mroIn K (L.cls 1) (.ref (L.cls 1)) = some true
  r_NoCell_FloorError : PySem.W.mroIn K (L.cls 1) (.ref (L.cls 6)) = some true
  t_NoCell_NoCell : PySem.W.kitOne K (.ref (L.cls 1)) (.ref (L.cls 1)) = some true
  t_NoCell_NoWay : PySem.W.kitOne K (.ref (L.cls 1)) (.ref (L.cls 2)) = some false
  t_NoCell_NoPlace : PySem.W.kitOne K (.ref (L.cls 1)) (.ref (L.cls 3)) = some false
  t_NoCell_NoSize : PySem.W.kitOne K (.ref (L.cls 1)) (.ref (L.cls 4)) = some false
  t_NoCell_NoPoint : PySem.W.kitOne K (.ref (L.cls 1)) (.ref (L.cls 5)) = some false
  v_NoCell : PySem.W.kitOne K (.ref (L.cls 1)) (.type "ValueError") = some true
  h_NoCell : PySem.W.hasDictIn K (L.cls 1) = true
  n_NoCell : PySem.W.findIn K (.ref (L.cls 1)) "at" = some none
  d_NoCell_init : ∃ f fd mc, DefT K "__init__" "NoCell.__init__" (inClass (top 3) 0) ["self", "at"] f fd ∧ XCls K (L.cls 1) (L.cls 6) f ∧ XBase K (L.cls 6) mc ∧ PySem.W.isFn K (.ref f) = true
  x_NoWay : PySem.W.ExcK K (L.cls 2)
  r_NoWay_NoWay : PySem.W.mroIn K (L.cls 2) (.ref (L.cls 2)) = some true
  r_NoWay_NoCell : PySem.W.mroIn K (L.cls 2) (.ref (L.cls 1)) = some false
  r_NoWay_FloorError : PySem.W.mroIn K (L.cls 2) (.ref (L.cls 6)) = some true
  t_NoWay_NoCell : PySem.W.kitOne K (.ref (L.cls 2)) (.ref (L.cls 1)) = some false
  t_NoWay_NoWay : PySem.W.kitOne K (.ref (L.cls 2)) (.ref (L.cls 2)) = some true
  t_NoWay_NoPlace : PySem.W.kitOne K (.ref (L.cls 2)) (.ref (L.cls 3)) = some false
  t_NoWay_NoSize : PySem.W.kitOne K (.ref (L.cls 2)) (.ref (L.cls 4)) = some false
  t_NoWay_NoPoint : PySem.W.kitOne K (.ref (L.cls 2)) (.ref (L.cls 5)) = some false
  v_NoWay : PySem.W.kitOne K (.ref (L.cls 2)) (.type "ValueError") = some true
  h_NoWay : PySem.W.hasDictIn K (L.cls 2) = true
  n_NoWay : PySem.W.findIn K (.ref (L.cls 2)) "at" = some none
  d_NoWay_init : ∃ f fd mc, DefT K "__init__" "NoWay.__init__" (inClass (top 4) 0) ["self", "at"] f fd ∧ XCls K (L.cls 2) (L.cls 6) f ∧ XBase K (L.cls 6) mc ∧ PySem.W.isFn K (.ref f) = true
  x_NoPlace : PySem.W.ExcK K (L.cls 3)
  r_NoPlace_NoWay : PySem.W.mroIn K (L.cls 3) (.ref (L.cls 2)) = some false
  r_NoPlace_NoCell : PySem.W.mroIn K (L.cls 3) (.ref (L.cls 1)) = some false
  r_NoPlace_FloorError : PySem.W.mroIn K (L.cls 3) (.ref (L.cls 6)) = some true
  t_NoPlace_NoCell : PySem.W.kitOne K (.ref (L.cls 3)) (.ref (L.cls 1)) = some false
  t_NoPlace_NoWay : PySem.W.kitOne K (.ref (L.cls 3)) (.ref (L.cls 2)) = some false
  t_NoPlace_NoPlace : PySem.W.kitOne K (.ref (L.cls 3)) (.ref (L.cls 3)) = some true
  t_NoPlace_NoSize : PySem.W.kitOne K (.ref (L.cls 3)) (.ref (L.cls 4)) = some false
  t_NoPlace_NoPoint : PySem.W.kitOne K (.ref (L.cls 3)) (.ref (L.cls 5)) = some false
  v_NoPlace : PySem.W.kitOne K (.ref (L.cls 3)) (.type "ValueError") = some true
  e_NoPlace : PySem.W.excIn K (L.cls 3) PySem.W.bmV "ValueError.__new__" = true
  x_NoSize : PySem.W.ExcK K (L.cls 4)
  r_NoSize_NoWay : PySem.W.mroIn K (L.cls 4) (.ref (L.cls 2)) = some false
  r_NoSize_NoCell : PySem.W.mroIn K (L.cls 4) (.ref (L.cls 1)) = some false
  r_NoSize_FloorError : PySem.W.mroIn K (L.cls 4) (.ref (L.cls 6)) = some true
  t_NoSize_NoCell : PySem.W.kitOne K (.ref (L.cls 4)) (.ref (L.cls 1)) = some false
  t_NoSize_NoWay : PySem.W.kitOne K (.ref (L.cls 4)) (.ref (L.cls 2)) = some false
  t_NoSize_NoPlace : PySem.W.kitOne K (.ref (L.cls 4)) (.ref (L.cls 3)) = some false
  t_NoSize_NoSize : PySem.W.kitOne K (.ref (L.cls 4)) (.ref (L.cls 4)) = some true
  t_NoSize_NoPoint : PySem.W.kitOne K (.ref (L.cls 4)) (.ref (L.cls 5)) = some false
  v_NoSize : PySem.W.kitOne K (.ref (L.cls 4)) (.type "ValueError") = some true
  e_NoSize : PySem.W.excIn K (L.cls 4) PySem.W.bmV "ValueError.__new__" = true
  x_NoPoint : PySem.W.ExcK K (L.cls 5)
  r_NoPoint_NoWay : PySem.W.mroIn K (L.cls 5) (.ref (L.cls 2)) = some false
  r_NoPoint_NoCell : PySem.W.mroIn K (L.cls 5) (.ref (L.cls 1)) = some false
  r_NoPoint_FloorError : PySem.W.mroIn K (L.cls 5) (.ref (L.cls 6)) = some true
  t_NoPoint_NoCell : PySem.W.kitOne K (.ref (L.cls 5)) (.ref (L.cls 1)) = some false
  t_NoPoint_NoWay : PySem.W.kitOne K (.ref (L.cls 5)) (.ref (L.cls 2)) = some false
  t_NoPoint_NoPlace : PySem.W.kitOne K (.ref (L.cls 5)) (.ref (L.cls 3)) = some false
  t_NoPoint_NoSize : PySem.W.kitOne K (.ref (L.cls 5)) (.ref (L.cls 4)) = some false
  t_NoPoint_NoPoint : PySem.W.kitOne K (.ref (L.cls 5)) (.ref (L.cls 5)) = some true
  v_NoPoint : PySem.W.kitOne K (.ref (L.cls 5)) (.type "ValueError") = some true
  e_NoPoint : PySem.W.excIn K (L.cls 5) PySem.W.bmV "ValueError.__new__" = true
section
variable {P : Program} {w : World} {K : PySem.W.Frag} {mg : Str → Option Value} {base : Heap} {L : Kl}
theorem Top.ev_MIDDLE (T : Top K mg L) {X : Cx} {ρ : List Sl} {pos : Pos} (hK : X.K = K := by rfl) (hm : X.mg = mg := by rfl) (hg : Gl X "MIDDLE" := by rfl) : EV X L ρ (.Name "MIDDLE" pos) (.tup [(.int 0), (.int 0)]) := by
  subst hK hm
  obtain ⟨a, h1, h2⟩ := T.c_MIDDLE
  exact ev_glob (v := .ref a) h1 rfl h2 hg
theorem Top.ev_WAYS (T : Top K mg L) {X : Cx} {ρ : List Sl} {pos : Pos} (hK : X.K = K := by rfl) (hm : X.mg = mg := by rfl) (hg : Gl X "WAYS" := by rfl) : EV X L ρ (.Name "WAYS" pos) (.tup [(.tup [(.int 1), (.int 0)]), (.tup [(.int 0), (.int 1)]), (.tup [(.int (-1)), (.int 1)]), (.tup [(.int (-1)), (.int 0)]), (.tup [(.int 0), (.int (-1))]), (.tup [(.int 1), (.int (-1))])]) := by
  subst hK hm
  obtain ⟨a, h1, h2⟩ := T.c_WAYS
  exact ev_glob (v := .ref a) h1 rfl h2 hg
/-! is_whole -/
def c_is_whole (ds : List D) (r : D) : Prop := ∃ i, ds = [.int i] ∧ r = .bl true
theorem sc_is_whole : FnScope ["thing"] ["thing"] (defScope (top 11)) := ⟨rfl, rfl, rfl, by decide +kernel, rfl, by decide +kernel, by decide +kernel⟩
theorem f_is_whole (T : Top K mg L) : Fn P w K mg base L "is_whole" 1 c_is_whole := by
  refine fn_def T.p_is_whole sc_is_whole (by rintro ds r ⟨i, rfl, _⟩; rfl) fun f cdv A outer s H E hr ds r hc => ?_
  obtain ⟨i, rfl, rfl⟩ := hc
  refine sv_ret (ev_and (ev_isiT (ev_var 0) (by constructor) (kii _) T.b_isinstance T.b_int) (fun _ => (ev_one (ev_not (ev_isiT (ev_var 0) (by constructor) (kib _) T.b_isinstance T.b_bool))))) ?_
  rfl
/-! is_count -/
def c_is_count (ds : List D) (r : D) : Prop := ∃ i : Int, ds = [.int i] ∧ r = .bl (decide (0 ≤ i))
theorem sc_is_count : FnScope ["thing"] ["thing"] (defScope (top 12)) := ⟨rfl, rfl, rfl, by decide +kernel, rfl, by decide +kernel, by decide +kernel⟩
theorem f_is_count (T : Top K mg L) : Fn P w K mg base L "is_count" 2 c_is_count := by
  refine fn_def T.p_is_count sc_is_count (by rintro ds r ⟨_, rfl, _⟩; rfl) fun f cdv A outer s H E hr ds r hc => ?_
  obtain ⟨i, rfl, rfl⟩ := hc
  refine sv_ret (ev_and (ev_call (f_is_whole T) hr (evs_cons (ev_var 0) evs_nil) ⟨_, rfl, rfl⟩) (fun _ => (ev_one (ev_ge (ev_var 0) ev_int)))) ?_
  rfl
/-! plus -/
def c_plus (ds : List D) (r : D) : Prop := ∃ a b c d t, ds = [cell a b, cell c d, .int t] ∧ IntMulOk t c ∧ IntMulOk t d ∧ r = cell (a + t * c) (b + t * d)
theorem sc_plus : FnScope ["one", "other", "times"] ["one", "other", "times"] (defScope (top 15)) := ⟨rfl, rfl, rfl, by decide +kernel, rfl, by decide +kernel, by decide +kernel⟩
theorem f_plus (T : Top K mg L) : Fn P w K mg base L "plus" 1 c_plus ∧ Fn P w K mg base L "plus" 1 (fun ds r => c_plus (ds ++ [.int 1]) r) := by
  obtain ⟨t0, hp⟩ := T.p_plus
  refine fn_defD (dvs := [.int 1]) (dds := [.int 1]) hp (.cons ⟨_, rfl⟩ .nil) (fun G => .cons (.int 1) .nil) sc_plus (by rintro ds r ⟨_, _, _, _, _, rfl, _⟩; rfl) fun f cdv A outer s H E hr ds r hc => ?_
  obtain ⟨a, b, c, d, t, rfl, h1, h2, rfl⟩ := hc
  refine sv_ret (ev_tup (evs_cons (ev_add (ev_t0 (ev_var 0) ev_int) (ev_mul (ev_var 2) (ev_t0 (ev_var 1) ev_int) h1)) (evs_cons (ev_add (ev_t1 (ev_var 0) ev_int) (ev_mul (ev_var 2) (ev_t1 (ev_var 1) ev_int) h2)) evs_nil))) ?_
  rfl
/-! distance -/
def c_distance (ds : List D) (r : D) : Prop := ∃ a b c d : Int, ds = [cell a b, cell c d] ∧ r = .int (dist (a - c) (b - d))
theorem sc_distance : FnScope ["one", "other", "gap"] ["one", "other"] (defScope (top 17)) := ⟨rfl, rfl, rfl, by decide +kernel, rfl, by decide +kernel, by decide +kernel⟩
theorem f_distance (T : Top K mg L) : Fn P w K mg base L "distance" 2 c_distance := by
  refine fn_def T.p_distance sc_distance (by rintro ds r ⟨_, _, _, _, rfl, _⟩; rfl) fun f cdv A outer s H E hr ds r hc => ?_
  obtain ⟨a, b, c, d, rfl, rfl⟩ := hc
  have hN := sc_distance.nd
  refine sv_set 2 (ev_call (f_plus T).1 hr (evs_cons (ev_var 0) (evs_cons (ev_var 1) (evs_cons (ev_neg ev_int) evs_nil))) ⟨_, _, _, _, _, rfl, mul_m1 _, mul_m1 _, rfl⟩) ?_
  refine sv_ret (ev_max3 (ev_abs (ev_t0 (ev_var 2) ev_int) T.b_abs) (ev_abs (ev_t1 (ev_var 2) ev_int) T.b_abs) (ev_abs (ev_add (ev_t0 (ev_var 2) ev_int) (ev_t1 (ev_var 2) ev_int)) T.b_abs) T.b_max) ?_
  have e1 : a + -1 * c = a - c := by omega
  have e2 : b + -1 * d = b - d := by omega
  show D.int _ = D.int _
  rw [e1, e2]
  rfl
/-! near_numbers -/
def c_near_numbers (ds : List D) (r : D) : Prop := ∃ p w : Int, ds = [.int p, .int w] ∧ 0 < w ∧ w < 2 ^ 500 ∧ r = .lst ((nn p w).map .int)
theorem sc_near_numbers : FnScope ["part", "whole", "least", "most"] ["part", "whole"] (defScope (top 19)) := ⟨rfl, rfl, rfl, by decide +kernel, rfl, by decide +kernel, by decide +kernel⟩
theorem f_near_numbers (T : Top K mg L) : Fn P w K mg base L "near_numbers" 1 c_near_numbers := by
  refine fn_def T.p_near_numbers sc_near_numbers (by rintro ds r ⟨_, _, rfl, _⟩; rfl) fun f cdv A outer s H E hr ds r hc => ?_
  obtain ⟨p, w, rfl, h0, h1, rfl⟩ := hc
  have hN := sc_near_numbers.nd
  have hb : 2 * w < 2 ^ 1024 := by omega
  have e := nn_least (p := p) h0
  have hl := nn_len (p := p) h0
  rw [e, List.length_map, List.length_range] at hl
  refine sv_set 2 (ev_neg (ev_fdivB (ev_sub (ev_var 1) (ev_mul ev_int (ev_var 0) (mul_l (by decide) (by decide)))) (ev_mul ev_int (ev_var 1) (mul_l (by decide) (by decide))) (by omega) hb)) ?_
  refine sv_set 3 (ev_fdivB (ev_add (ev_mul ev_int (ev_var 0) (mul_l (by decide) (by decide))) (ev_var 1)) (ev_mul ev_int (ev_var 1) (mul_l (by decide) (by decide))) (by omega) hb) ?_
  refine sv_ret (EL.ev (el_listRange (ev_var 2) (ev_add (ev_var 3) ev_int) (by omega) T.b_list T.b_range)) ?_
  rw [e]
/-! nearest -/
/-- the nearest cells of a point between two cells -/
def nearL (a b p q k : Int) : List (Int × Int) := if dist (a - p) (b - q) = 0 then [(a, b)] else (near (dist (a - p) (b - q)) (k * (p - a)) (k * (q - b))).map fun c => (a + c.1, b + c.2)
def Mid (i : Int) : Prop := -(2 ^ 200) < i ∧ i < 2 ^ 200
theorem Mid.dist {i j : Int} (h1 : Mid i) (h2 : Mid j) : dist i j < 2 ^ 201 := by
  unfold Mid at h1 h2
  unfold M.dist mx ab
  split <;> split <;> split <;> omega
theorem Mid.neg {i : Int} (h : Mid i) : Mid (-i) := by unfold Mid at h ⊢; omega
theorem Mid.mul {i k : Int} (h : Mid i) (h0 : 0 ≤ k) (h1 : k < 2 ^ 201) : -(2 ^ 402) < k * i ∧ k * i < 2 ^ 402 := by
  unfold Mid at h
  have a1 : k * i ≤ k * 2 ^ 200 := Int.mul_le_mul_of_nonneg_left (by omega) h0
  have a2 : k * (-(2 ^ 200)) ≤ k * i := Int.mul_le_mul_of_nonneg_left (by omega) h0
  omega
theorem nn_bound {p w x : Int} (hw : 0 < w) (hw2 : w < 2 ^ 201) (h1 : -(2 ^ 402) < p) (h2 : p < 2 ^ 402) (hx : x ∈ nn p w) : -(2 ^ 403) < x ∧ x < 2 ^ 403 := by
  have h := nn_mem hw hx
  by_cases hs : 0 ≤ x
  · have : 1 * x ≤ w * x := Int.mul_le_mul_of_nonneg_right (by omega) hs
    omega
  · have : w * x ≤ 1 * x := Int.mul_le_mul_of_nonpos_right (by omega) (by omega)
    omega
theorem len_flat {α β : Type} {g : α → List β} {n : Nat} : ∀ {l : List α}, (∀ x, (g x).length ≤ n) → (l.flatMap g).length ≤ n * l.length
  | [], _ => by simp
  | x :: r, h => by
    rw [List.flatMap_cons, List.length_append, List.length_cons, Nat.mul_add]
    have := len_flat (l := r) h
    have := h x
    omega
def c_nearest (ds : List D) (r : D) : Prop := ∃ a b p q k : Int, ds = [cell a b, cell p q, .int k] ∧ 0 ≤ k ∧ k ≤ dist (a - p) (b - q) ∧ Mid (a - p) ∧ Mid (b - q) ∧ r = .lst ((nearL a b p q k).map cellP)
theorem sc_nearest : FnScope ["one", "other", "at", "far", "point", "cells", "x", "y"] ["one", "other", "at"] (defScope (top 20)) := ⟨rfl, rfl, rfl, by decide +kernel, rfl, by decide +kernel, by decide +kernel⟩
theorem f_nearest (T : Top K mg L) : Fn P w K mg base L "nearest" 3 c_nearest := by
  refine fn_def T.p_nearest sc_nearest (by rintro ds r ⟨_, _, _, _, _, rfl, _⟩; rfl) fun f cdv A outer s H E hr ds r hc => ?_
  obtain ⟨a, b, p, q, k, rfl, h0, h1, m1, m2, rfl⟩ := hc
  have hN := sc_nearest.nd
  refine sv_set 3 (ev_call (f_distance T) hr (evs_cons (ev_var 0) (evs_cons (ev_var 1) evs_nil)) ⟨_, _, _, _, rfl, rfl⟩) ?_
  have hfar := m1.dist m2
  have hd := dist_nonneg (a - p) (b - q)
  generalize hF : dist (a - p) (b - q) = far at *
  refine sv_if (WV.tv (wv_or (tv_not (tv_val (ev_call (f_is_count T) hr (evs_cons (ev_var 2) evs_nil) ⟨_, rfl, rfl⟩))) (fun _ => (wv_or1 (tv_gt (ev_var 2) (ev_var 3)))))) (fun c => ?_) (fun c => ?_)
  · simp at c
    omega
  refine sv_nil ?_
  refine sv_if (tv_eq hr (ev_var 3) ev_int) (fun c => ?_) (fun c => ?_)
  · rw [eqD_int] at c
    refine sv_ret (ev_lst (evs_cons (ev_var 0) evs_nil)) ?_
    have c' : far = 0 := of_decide_eq_true c
    unfold nearL
    rw [hF, if_pos c']
    rfl
  rw [eqD_int] at c
  have c' : ¬ far = 0 := of_decide_eq_false c
  refine sv_nil ?_
  have e1 : p + -1 * a = p - a := by omega
  have e2 : q + -1 * b = q - b := by omega
  have n1 : Mid (p - a) := by have := m1.neg; rw [show -(a - p) = p - a by omega] at this; exact this
  have n2 : Mid (q - b) := by have := m2.neg; rw [show -(b - q) = q - b by omega] at this; exact this
  have okm : ∀ i, Mid i → IntMulOk k i := fun i hi => by unfold Mid at hi; exact mulB (by omega) (by omega) (by omega) (by omega)
  refine sv_set 4 (ev_call (f_plus T).1 (hr.mono (by decide)) (evs_cons T.ev_MIDDLE (evs_cons (ev_call (f_plus T).1 (hr.mono (by decide)) (evs_cons (ev_var 1) (evs_cons (ev_var 0) (evs_cons (ev_neg ev_int) evs_nil))) ⟨_, _, _, _, _, rfl, mul_m1 _, mul_m1 _, rfl⟩) (evs_cons (ev_var 2) evs_nil))) ⟨_, _, _, _, _, rfl, by rw [e1]; exact okm _ n1, by rw [e2]; exact okm _ n2, rfl⟩) ?_
  have b1 := n1.mul h0 (by omega)
  have b2 := n2.mul h0 (by omega)
  have hnear : nearL a b p q k = (near far (k * (p - a)) (k * (q - b))).map fun c => (a + c.1, b + c.2) := by
    unfold nearL
    rw [hF, if_neg c']
  rw [hnear, e1, e2, Int.zero_add, Int.zero_add]
  generalize k * (p - a) = u at *
  generalize k * (q - b) = v at *
  have hw : 0 < far := by omega
  let sh : Int × Int → Int × Int := fun c => (a + c.1, b + c.2)
  let cnd : Int → Int → Bool := fun x y => decide (2 * dist (far * x - u) (far * y - v) ≤ far)
  let g : Int → List (Int × Int) := fun x => ((nn v far).filter (cnd x)).map fun y => (x, y)
  have g2 : ∀ x, (g x).length ≤ 2 := fun x => by
    show (((nn v far).filter (cnd x)).map fun y => (x, y)).length ≤ 2
    rw [List.length_map]
    exact Nat.le_trans (List.length_filter_le _ _) (nn_len hw)
  refine sv_new 5 evs_nil (by decide) ?_
  refine sv_for_seq (fun i ρ => ∃ r6 r7, ρ = [.v (cell a b), .v (cell p q), .v (.int k), .v (.int far), .v (cell u v), .own (((((nn u far).take i).flatMap g).map sh).map cellP), r6, r7]) (ev_call (f_near_numbers T) (hr.mono (by decide)) (evs_cons (ev_t0 (ev_var 4) ev_int) (evs_cons (ev_var 3) evs_nil)) ⟨_, _, rfl, hw, by omega, rfl⟩) (gv_name 6) (fun _ _ => trivial) ⟨_, _, rfl⟩ ?_ ?_
  · rintro i d ρ' hdi ⟨r6, r7, rfl⟩
    rw [List.getElem?_map] at hdi
    cases hx : (nn u far)[i]? with
    | none => rw [hx] at hdi; cases hdi
    | some x =>
      rw [hx] at hdi
      cases hdi
      have hxm := List.mem_of_getElem? hx
      have hxb := nn_bound hw hfar b1.1 b1.2 hxm
      have len1 : (((nn u far).take i).flatMap g).length ≤ 4 := by
        have := len_flat (l := (nn u far).take i) g2
        have h2 : ((nn u far).take i).length ≤ 2 := Nat.le_trans (List.length_take_le' _ _) (nn_len hw)
        omega
      refine sv_for_seq (fun j ρ => ∃ r7, ρ = [.v (cell a b), .v (cell p q), .v (.int k), .v (.int far), .v (cell u v), .own ((((((nn u far).take i).flatMap g) ++ (((nn v far).take j).filter (cnd x)).map fun y => (x, y)).map sh).map cellP), .v (.int x), r7]) (ev_call (f_near_numbers T) (hr.mono (by decide)) (evs_cons (ev_t1 (ev_var 4) ev_int) (evs_cons (ev_var 3) evs_nil)) ⟨_, _, rfl, hw, by omega, rfl⟩) (gv_name 7) (fun _ _ => trivial) ⟨_, by simp; rfl⟩ ?_ ?_
      · rintro j d ρ' hdj ⟨r7', rfl⟩
        rw [List.getElem?_map] at hdj
        cases hy : (nn v far)[j]? with
        | none => rw [hy] at hdj; cases hdj
        | some y =>
          rw [hy] at hdj
          cases hdj
          have hyb := nn_bound hw hfar b2.1 b2.2 (List.mem_of_getElem? hy)
          have tk : ((nn v far).take (j + 1)).filter (cnd x) = ((nn v far).take j).filter (cnd x) ++ (if cnd x y then [y] else []) := by
            rw [take_snoc hy, List.filter_append, List.filter_cons]
            split <;> simp_all
          refine sv_if (tv_le (ev_mul ev_int (ev_call (f_distance T) hr (evs_cons (ev_tup (evs_cons (ev_mul (ev_var 3) (ev_var 6) (mulB (by omega) (by omega) (by omega) (by omega))) (evs_cons (ev_mul (ev_var 3) (ev_var 7) (mulB (by omega) (by omega) (by omega) (by omega))) evs_nil))) (evs_cons (ev_var 4) evs_nil)) ⟨_, _, _, _, rfl, rfl⟩) (mul_l (by decide) (by decide))) (ev_var 3)) (fun c => ?_) (fun c => ?_)
          · have c : cnd x y = true := c
            refine sv_append 5 rfl (ev_call (f_plus T).2 (hr.mono (by decide)) (evs_cons (ev_var 0) (evs_cons (ev_tup (evs_cons (ev_var 6) (evs_cons (ev_var 7) evs_nil))) evs_nil)) ⟨_, _, _, _, _, rfl, mul_1 _, mul_1 _, rfl⟩) ?_ ?_
            · refine small63 ?_
              have h3 : (((nn v far).take j).filter (cnd x)).length ≤ 2 := Nat.le_trans (List.length_filter_le _ _) (Nat.le_trans (List.length_take_le' _ _) (nn_len hw))
              rw [List.length_map, List.length_map, List.length_append, List.length_map]
              omega
            refine sv_nil (sv_nil ⟨.v (.int y), ?_⟩)
            rw [tk, c, if_pos rfl]
            simp only [List.map_append, List.map_cons, List.map_nil, List.append_assoc, sh, cellP, Int.one_mul]
            rfl
          · have c : cnd x y = false := c
            refine sv_nil (sv_nil ⟨.v (.int y), ?_⟩)
            rw [tk, c, if_neg (by decide), List.append_nil]
            rfl
      · rintro ρ' ⟨r7', rfl⟩
        refine sv_nil ⟨.v (.int x), r7', ?_⟩
        rw [List.length_map, List.take_length, take_snoc hx, List.flatMap_append]
        simp only [List.flatMap_cons, List.flatMap_nil, List.append_nil]
        rfl
  · rintro ρ' ⟨r6, r7, rfl⟩
    refine sv_freeze 5 rfl ?_
    refine sv_ret (ev_var 5) ?_
    rw [List.length_map, List.take_length]
    rfl
/-! +near -/
/-! side_cell -/
def sideC (s d al : Int) : D := cell (sx s d al) (sy s d al)
def c_side_cell (ds : List D) (r : D) : Prop := ∃ s d al : Int, ds = [.int s, .int d, .int al] ∧ r = sideC s d al
theorem sc_side_cell : FnScope ["size", "side", "along", "corner"] ["size", "side", "along"] (defScope (top 23)) := ⟨rfl, rfl, rfl, by decide +kernel, rfl, by decide +kernel, by decide +kernel⟩
theorem f_side_cell (T : Top K mg L) : Fn P w K mg base L "side_cell" 2 c_side_cell := by
  refine fn_def T.p_side_cell sc_side_cell (by rintro ds r ⟨_, _, _, rfl, _⟩; rfl) fun f cdv A outer s H E hr ds r hc => ?_
  obtain ⟨s, d, al, rfl, rfl⟩ := hc
  have hN := sc_side_cell.nd
  have m5 : 0 ≤ (d + 5) % 6 ∧ (d + 5) % 6 < 6 := by omega
  have m1 : 0 ≤ (d + 1) % 6 ∧ (d + 1) % 6 < 6 := by omega
  obtain ⟨a1, a2, a3, a4⟩ := w_small ((d + 5) % 6)
  obtain ⟨b1, b2, b3, b4⟩ := w_small ((d + 1) % 6)
  refine sv_set 3 (ev_call (f_plus T).1 hr (evs_cons T.ev_MIDDLE (evs_cons (ev_ix T.ev_WAYS (ev_mod (ev_add (ev_var 1) ev_int) ev_int (by decide)) rfl (ways_at m5)) (evs_cons (ev_var 0) evs_nil))) ⟨_, _, _, _, _, rfl, mul_r a1 a2, mul_r a3 a4, rfl⟩) ?_
  refine sv_ret (ev_call (f_plus T).1 hr (evs_cons (ev_var 3) (evs_cons (ev_ix T.ev_WAYS (ev_mod (ev_add (ev_var 1) ev_int) ev_int (by decide)) rfl (ways_at m1)) (evs_cons (ev_var 2) evs_nil))) ⟨_, _, _, _, _, rfl, mul_r b1 b2, mul_r b3 b4, rfl⟩) ?_
  rw [Int.zero_add, Int.zero_add]
  rfl
/-! last_place -/
def c_last_place (ds : List D) (r : D) : Prop := ∃ s : Int, ds = [.int s] ∧ 0 ≤ s ∧ s < 2 ^ 600 ∧ r = .int (lastP s)
theorem sc_last_place : FnScope ["size"] ["size"] (defScope (top 25)) := ⟨rfl, rfl, rfl, by decide +kernel, rfl, by decide +kernel, by decide +kernel⟩
theorem f_last_place (T : Top K mg L) : Fn P w K mg base L "last_place" 1 c_last_place := by
  refine fn_def T.p_last_place sc_last_place (by rintro ds r ⟨_, rfl, _⟩; rfl) fun f cdv A outer s H E hr ds r hc => ?_
  obtain ⟨s, rfl, h0, h1, rfl⟩ := hc
  refine sv_ret (ev_mul (ev_mul ev_int (ev_var 0) (mul_l (by decide) (by decide))) (ev_add (ev_var 0) ev_int) (mulB (by omega) (by omega) (by omega) (by omega))) ?_
  rfl
/-! size_at -/
def c_size_at (ds : List D) (r : D) : Prop := ∃ p s : Int, ds = [.int p] ∧ SizeOf p s ∧ p < 2 ^ 500 ∧ r = .int s
theorem sc_size_at : FnScope ["place", "least", "most", "half"] ["place"] (defScope (top 26)) := ⟨rfl, rfl, rfl, by decide +kernel, rfl, by decide +kernel, by decide +kernel⟩
theorem f_size_at (T : Top K mg L) : Fn P w K mg base L "size_at" 2 c_size_at := by
  refine fn_def T.p_size_at sc_size_at (by rintro ds r ⟨_, _, rfl, _⟩; rfl) fun f cdv A outer s H E hr ds r hc => ?_
  obtain ⟨p, s, rfl, hs, hp, rfl⟩ := hc
  have hN := sc_size_at.nd
  have hp0 := hs.pos
  have hs0 := hs.nn
  have hsp := hs.le_place
  refine sv_set 1 ev_int ?_
  refine sv_set 2 (ev_var 0) ?_
  refine sv_while (m0 := p.toNat) (fun m ρ => ∃ l u r3, ρ = [.v (.int p), .v (.int l), .v (.int u), r3] ∧ 0 ≤ l ∧ l ≤ s ∧ s ≤ u ∧ u ≤ p ∧ m = (u - l).toNat) ⟨0, p, .no, rfl, by omega, by omega, hsp, by omega, by omega⟩ ?_
  rintro m ρ' ⟨l, u, r3, rfl, h0, h1, h2, h3, rfl⟩
  refine ⟨_, tv_lt (ev_var 1) (ev_var 2), fun c => ?_, fun c => ?_⟩
  · have c' : l < u := of_decide_eq_true c
    refine sv_set 3 (ev_fdiv (ev_add (ev_var 1) (ev_var 2)) ev_int ⟨by decide, by decide⟩) ?_
    have hh : l ≤ (l + u) / 2 ∧ (l + u) / 2 < u := by omega
    generalize (l + u) / 2 = h at *
    refine sv_if (tv_lt (ev_call (f_last_place T) hr (evs_cons (ev_var 3) evs_nil) ⟨_, rfl, by omega, by omega, rfl⟩) (ev_var 0)) (fun c => ?_) (fun c => ?_)
    · have c2 : lastP h < p := of_decide_eq_true c
      have := hs.below (by omega) c2
      refine sv_set 1 (ev_add (ev_var 3) ev_int) ?_
      exact sv_nil (sv_nil ⟨_, by omega, h + 1, u, .v (.int h), rfl, by omega, by omega, by omega, by omega, rfl⟩)
    · have c2 : ¬ lastP h < p := of_decide_eq_false c
      have := hs.above (t := h) (by omega) (by omega)
      refine sv_set 2 (ev_var 3) ?_
      exact sv_nil (sv_nil ⟨_, by omega, l, h, .v (.int h), rfl, by omega, by omega, by omega, by omega, rfl⟩)
  · have c' : ¬ l < u := of_decide_eq_false c
    refine sv_ret (ev_var 1) ?_
    show D.int l = D.int s
    rw [show l = s by omega]
/-! cell_at -/
/-- the cell at a place -/
def PlaceAt (p : Int) (d : D) : Prop := p < 2 ^ 500 ∧ ((p = 0 ∧ d = cell 0 0) ∨ ∃ s side al, At p s side al ∧ d = sideC s side al)
def c_cell_at (ds : List D) (r : D) : Prop := ∃ p : Int, ds = [.int p] ∧ PlaceAt p r
theorem sc_cell_at : FnScope ["place", "size", "steps"] ["place"] (defScope (top 27)) := ⟨rfl, rfl, rfl, by decide +kernel, rfl, by decide +kernel, by decide +kernel⟩
theorem f_cell_at (T : Top K mg L) : Fn P w K mg base L "cell_at" 3 c_cell_at := by
  refine fn_def T.p_cell_at sc_cell_at (by rintro ds r ⟨_, rfl, _⟩; rfl) fun f cdv A outer s H E hr ds r hc => ?_
  obtain ⟨p, rfl, hb, hc⟩ := hc
  have hN := sc_cell_at.nd
  have hp : 0 ≤ p := by
    rcases hc with ⟨h, _⟩ | ⟨_, _, _, h, _⟩
    · omega
    · exact h.size.pos
  refine sv_if (tv_not (tv_val (ev_call (f_is_count T) hr (evs_cons (ev_var 0) evs_nil) ⟨_, rfl, rfl⟩))) (fun c => ?_) (fun c => ?_)
  · simp at c
    omega
  refine sv_nil ?_
  rcases hc with ⟨rfl, rfl⟩ | ⟨s, side, al, h, rfl⟩
  · refine sv_set 1 (ev_call (f_size_at T) hr (evs_cons (ev_var 0) evs_nil) ⟨0, 0, rfl, ⟨by omega, by omega, by rw [lastP_zero]; omega, .inl rfl⟩, hb, rfl⟩) ?_
    refine sv_if (tv_eq hr (ev_var 1) ev_int) (fun c => ?_) (fun c => ?_)
    · exact sv_ret T.ev_MIDDLE rfl
    · rw [eqD_int] at c
      simp at c
  · have hs := h.size
    have h1 := h.s1
    have hsp := hs.le_place
    refine sv_set 1 (ev_call (f_size_at T) hr (evs_cons (ev_var 0) evs_nil) ⟨p, s, rfl, hs, hb, rfl⟩) ?_
    refine sv_if (tv_eq hr (ev_var 1) ev_int) (fun c => ?_) (fun c => ?_)
    · rw [eqD_int] at c
      simp at c
      omega
    refine sv_nil ?_
    refine sv_set 2 (ev_sub (ev_var 0) (ev_call (f_last_place T) (hr.mono (by decide)) (evs_cons (ev_sub (ev_var 1) ev_int) evs_nil) ⟨_, rfl, by omega, by omega, rfl⟩)) ?_
    refine sv_ret (ev_call (f_side_cell T) hr (evs_cons (ev_var 1) (evs_cons (ev_fdivB (ev_var 2) (ev_var 1) (by omega) (by omega)) (evs_cons (ev_mod (ev_var 2) (ev_var 1) (by omega)) evs_nil))) ⟨_, _, _, rfl, rfl⟩) ?_
    obtain ⟨e1, e2⟩ := h.told
    unfold sideC
    rw [e1, e2]
/-! check_size -/
def c_check_size (ds : List D) (r : D) : Prop := ∃ s : Int, ds = [.int s] ∧ 0 ≤ s ∧ r = .non
theorem sc_check_size : FnScope ["size"] ["size"] (defScope (top 22)) := ⟨rfl, rfl, rfl, by decide +kernel, rfl, by decide +kernel, by decide +kernel⟩
theorem f_check_size (T : Top K mg L) : Fn P w K mg base L "check_size" 3 c_check_size := by
  refine fn_def T.p_check_size sc_check_size (by rintro ds r ⟨_, rfl, _⟩; rfl) fun f cdv A outer s H E hr ds r hc => ?_
  obtain ⟨s, rfl, h0, rfl⟩ := hc
  refine sv_if (tv_not (tv_val (ev_call (f_is_count T) hr (evs_cons (ev_var 0) evs_nil) ⟨_, rfl, rfl⟩))) (fun c => ?_) (fun c => ?_)
  · simp at c
    omega
  · exact sv_nil (sv_nil rfl)
/-! ring -/
/-- the first n cells of the ring of size s about (a, b) -/
def ringL (a b s : Int) (n : Nat) : List (Int × Int) := (List.range n).map fun j : Nat => (a + rx s (j + 1), b + ry s (j + 1))
def ringD (a b s : Int) : List (Int × Int) := if s = 0 then [(a, b)] else ringL a b s (6 * s.toNat)
def c_ring (ds : List D) (r : List D) : Prop := ∃ a b s : Int, ds = [cell a b, .int s] ∧ 0 ≤ s ∧ s ≤ 100 ∧ r = (ringD a b s).map cellP
def sideE (a b s d : Int) : D → D
  | .int al => cell (a + 1 * sx s d al) (b + 1 * sy s d al)
  | _ => .non
theorem ringL_more {a b s : Int} (hs : 1 ≤ s) {i : Nat} (hi : i < 6) : (ringL a b s ((i + 1) * s.toNat)).map cellP = (ringL a b s (i * s.toNat)).map cellP ++ ((intsFrom 1 s.toNat).map D.int).map (sideE a b s i) := by
  unfold ringL
  rw [Nat.add_mul, Nat.one_mul, List.range_add, List.map_append, List.map_append]
  congr 1
  rw [List.map_map, List.map_map, List.map_map, List.map_map]
  refine List.map_congr_left fun j hj => ?_
  rw [List.mem_range] at hj
  simp only [Function.comp, sideE, cellP]
  have e : ((i * s.toNat + j : Nat) : Int) + 1 = (i : Int) * s + (1 + (j : Int)) := by
    push_cast
    rw [show ((s.toNat : Nat) : Int) = s by omega]
    omega
  obtain ⟨e1, e2⟩ := rx_told (s := s) (d := i) (al := 1 + (j : Int)) hs (by omega) (by omega) (by omega) (by omega)
  rw [e, e1, e2, Int.one_mul, Int.one_mul]
theorem sc_ring : FnScope ["middle", "size", "cells", "side"] ["middle", "size"] (defScope (top 24)) := ⟨rfl, rfl, rfl, by decide +kernel, rfl, by decide +kernel, by decide +kernel⟩
theorem f_ring (T : Top K mg L) : FnL P w K mg base L "ring" 4 c_ring := by
  refine fnL_def T.p_ring sc_ring (by rintro ds r ⟨_, _, _, rfl, _⟩; rfl) fun f cdv A outer s H E hr ds r hc => ?_
  obtain ⟨a, b, z, rfl, h0, h1, rfl⟩ := hc
  have hN := sc_ring.nd
  refine sv_expr (ev_call (f_check_size T) hr (evs_cons (ev_var 1) evs_nil) ⟨_, rfl, h0, rfl⟩) ?_
  refine sv_if (tv_eq hr (ev_var 1) ev_int) (fun c => ?_) (fun c => ?_)
  · rw [eqD_int] at c
    have c' : z = 0 := of_decide_eq_true c
    refine sv_retE (el_lst (evs_cons (ev_var 0) evs_nil)) ?_
    unfold ringD
    rw [if_pos c']
    rfl
  rw [eqD_int] at c
  have c' : ¬ z = 0 := of_decide_eq_false c
  refine sv_nil ?_
  refine sv_new 2 evs_nil (by decide) ?_
  refine sv_for_range (fun i ρ => ∃ r3, ρ = [.v (cell a b), .v (.int z), .own ((ringL a b z (i * z.toNat)).map cellP), r3]) ev_int (by decide) T.b_range rfl (gv_name 3) (fun _ => trivial) ⟨.no, by simp [ringL]; rfl⟩ ?_ ?_
  · rintro i ρ' hi ⟨r3, rfl⟩
    have hi6 : i < 6 := by simpa using hi
    have hlen : (ringL a b z (i * z.toNat)).length ≤ 600 := by
      unfold ringL
      rw [List.length_map, List.length_range]
      have : i * z.toNat ≤ 6 * 100 := Nat.mul_le_mul (by omega) (by omega)
      omega
    refine sv_extend 2 rfl (el_mapN (cl := [("size", s.heap.objs.size + 2), ("side", s.heap.objs.size + 3), ("middle", s.heap.objs.size + 1)]) (sideE a b z i) (cap1 0 (cap1 3 (cap1 1 .nil))) (src_range2 ev_int (ev_add (ev_var 1) ev_int) (by decide) (by omega) T.b_range) ?_ (fun C s2 H2 fp d hd => ?_) (hcl := subs_of ⟨rfl, rfl, rfl, trivial⟩)) ?_ ?_
    · rw [intsFrom_len]
      exact small63 (by omega)
    · obtain ⟨al, _, rfl⟩ := List.mem_map.mp hd
      exact ev_call (f_plus T).2 (hr.mono (by decide)) (evs_cons (ev_var 1) (evs_cons (ev_call (f_side_cell T) (hr.mono (by decide)) (evs_cons (ev_var 3) (evs_cons (ev_var 2) (evs_cons (ev_var 0) evs_nil))) ⟨_, _, _, rfl, rfl⟩) evs_nil)) ⟨_, _, _, _, _, rfl, mul_1 _, mul_1 _, rfl⟩
    · rw [List.length_map, List.length_map, intsFrom_len]
      exact Nat.le_of_lt (small63 (by omega))
    · refine sv_nil ⟨.v (.int i), ?_⟩
      rw [ringL_more (by omega) hi6, show (z + 1 - 1).toNat = z.toNat by omega]
      rfl
  · rintro ρ' ⟨r3, rfl⟩
    refine sv_retOwn 2 rfl ?_
    unfold ringD
    rw [if_neg c']
    rfl
/-! is_cell -/
def c_is_cell (ds : List D) (r : D) : Prop := ∃ a b : Int, ds = [cell a b] ∧ r = .bl true
theorem sc_is_cell : FnScope ["thing"] ["thing"] (defScope (top 13)) := ⟨rfl, rfl, rfl, by decide +kernel, rfl, by decide +kernel, by decide +kernel⟩
theorem f_is_cell (T : Top K mg L) : Fn P w K mg base L "is_cell" 2 c_is_cell := by
  refine fn_def T.p_is_cell sc_is_cell (by rintro ds r ⟨_, _, rfl, _⟩; rfl) fun f cdv A outer s H E hr ds r hc => ?_
  obtain ⟨a, b, rfl, rfl⟩ := hc
  refine sv_ret (ev_and (ev_isiT (ev_var 0) (by constructor) (ktt _) T.b_isinstance T.b_tuple) (fun _ => (ev_and (ev_eq hr (ev_len (ev_var 0) rfl T.b_len) ev_int) (fun _ => (ev_and (ev_call (f_is_whole T) hr (evs_cons (ev_t0 (ev_var 0) ev_int) evs_nil) ⟨_, rfl, rfl⟩) (fun _ => (ev_one (ev_call (f_is_whole T) hr (evs_cons (ev_t1 (ev_var 0) ev_int) evs_nil) ⟨_, rfl, rfl⟩)))))))) ?_
  rfl
/-! stretched -/
/-- the stretches, one place more -/
def strS (acc : List (Int × Int)) (p : Int) : List (Int × Int) := match acc.getLast? with
  | some c => if c.2 = p - 1 then acc.dropLast ++ [(c.1, p)] else acc ++ [(p, p)]
  | none => [(p, p)]
def strL (ps : List Int) : List (Int × Int) := ps.foldl strS []
theorem strS_snoc (xs : List (Int × Int)) (c : Int × Int) (p : Int) : strS (xs ++ [c]) p = if c.2 = p - 1 then xs ++ [(c.1, p)] else xs ++ [c] ++ [(p, p)] := by
  unfold strS
  rw [List.getLast?_concat]
  dsimp only
  rw [List.dropLast_concat]
theorem strS_len (xs : List (Int × Int)) (p : Int) : (strS xs p).length ≤ xs.length + 1 := by
  rcases List.eq_nil_or_concat xs with rfl | ⟨ys, c, rfl⟩
  · simp [strS]
  · rw [List.concat_eq_append, strS_snoc]
    split <;> simp
theorem strL_len (ps : List Int) : (strL ps).length ≤ ps.length := by
  have key : ∀ (ps : List Int) (acc : List (Int × Int)), (ps.foldl strS acc).length ≤ acc.length + ps.length := by
    intro ps
    induction ps with
    | nil => intro acc; simp
    | cons p ps ih =>
      intro acc
      have := ih (strS acc p)
      have := strS_len acc p
      rw [List.foldl_cons, List.length_cons]
      omega
  have := key ps []
  simpa [strL] using this
theorem atI_snoc {α : Type} (xs : List α) (x : α) : atI (xs ++ [x]) (-1) = some x := by
  unfold atI ixN
  have e : (xs ++ [x]).length = xs.length + 1 := by simp
  rw [if_neg (by decide), if_pos (by rw [e]; omega), e]
  show (xs ++ [x])[(-1 + ((xs.length + 1 : Nat) : Int)).toNat]? = some x
  rw [show (-1 + ((xs.length + 1 : Nat) : Int)).toNat = xs.length by omega]
  simp
theorem ixN_snoc (n : Nat) : ixN (n + 1) (-1) = some n := by
  unfold ixN
  rw [if_neg (by decide), if_pos (by omega)]
  congr 1
  omega
def c_stretched (ds : List D) (rs : List D) : Prop := ∃ ps : List Int, ds = [.lst (ps.map .int)] ∧ ps.length ≤ 1000 ∧ rs = (strL ps).map cellP
theorem sc_stretched : FnScope ["places", "found", "place"] ["places"] (defScope (top 29)) := ⟨rfl, rfl, rfl, by decide +kernel, rfl, by decide +kernel, by decide +kernel⟩
theorem f_stretched (T : Top K mg L) : FnL P w K mg base L "stretched" 1 c_stretched := by
  refine fnL_def T.p_stretched sc_stretched (by rintro ds r ⟨_, rfl, _⟩; rfl) fun f cdv A outer s H E hr ds rs hc => ?_
  obtain ⟨ps, rfl, hl, rfl⟩ := hc
  have hN := sc_stretched.nd
  refine sv_new 1 evs_nil (by decide) ?_
  refine sv_for_seq (fun i ρ => ∃ r2, ρ = [.v (.lst (ps.map .int)), .own ((strL (ps.take i)).map cellP), r2]) (ev_var 0) (gv_name 2) (fun _ _ => trivial) ⟨.no, rfl⟩ ?_ ?_
  · rintro i d ρ' hd ⟨r2, rfl⟩
    rw [List.getElem?_map] at hd
    cases hx : ps[i]? with
    | none => rw [hx] at hd; cases hd
    | some p =>
      rw [hx] at hd
      cases hd
      have next : strL (ps.take (i + 1)) = strS (strL (ps.take i)) p := by
        unfold strL
        rw [take_snoc hx, List.foldl_append]
        rfl
      have hlen : (strL (ps.take i)).length ≤ 1000 := Nat.le_trans (strL_len _) (Nat.le_trans (List.length_take_le' _ _) hl)
      rw [next]
      generalize strL (ps.take i) = acc at hlen ⊢
      rcases List.eq_nil_or_concat acc with rfl | ⟨xs, c, e⟩
      · refine sv_if (WV.tv (wv_and (u := false) (tv_share 1 (tv_lst (ev_var 1))) (fun z => by simp at z))) (fun z => by simp at z) (fun _ => ?_)
        refine sv_append 1 rfl (ev_tup (evs_cons (ev_var 2) (evs_cons (ev_var 2) evs_nil))) (small63 (by simp)) ?_
        exact sv_nil (sv_nil ⟨.v (.int p), rfl⟩)
      · rw [List.concat_eq_append] at e
        subst e
        have ix : atI ((xs ++ [c]).map cellP) (-1) = some (cellP c) := by rw [List.map_append]; exact atI_snoc _ _
        have he : (!((xs ++ [c]).map cellP).isEmpty) = true := by simp
        refine sv_if (WV.tv (wv_and (tv_share 1 (tv_lst (ev_var 1))) (fun z => wv_and1 (tv_share 1 (tv_eq hr (ev_t1 (ev_ix (ev_var 1) (ev_neg ev_int) rfl ix) ev_int) (ev_sub (ev_var 2) ev_int)))))) (fun z => ?_) (fun z => ?_)
        · rw [he, Bool.true_and, eqD_int] at z
          have z' : c.2 = p - 1 := of_decide_eq_true z
          refine sv_setL 1 rfl (ev_share 1 (ev_tup (evs_cons (ev_t0 (ev_ix (ev_var 1) (ev_neg ev_int) rfl ix) ev_int) (evs_cons (ev_var 2) evs_nil)))) (ev_neg ev_int) (j := xs.length) (by rw [List.length_map, List.length_append]; exact ixN_snoc _) ?_
          refine sv_nil (sv_nil ⟨.v (.int p), ?_⟩)
          rw [strS_snoc, if_pos z']
          simp only [List.map_append, List.map_cons, List.map_nil]
          rw [List.set_append_right _ _ (by rw [List.length_map]; exact Nat.le_refl _)]
          simp
        · rw [he, Bool.true_and, eqD_int] at z
          have z' : ¬ c.2 = p - 1 := of_decide_eq_false z
          refine sv_append 1 rfl (ev_tup (evs_cons (ev_var 2) (evs_cons (ev_var 2) evs_nil))) (small63 (by rw [List.length_map]; omega)) ?_
          refine sv_nil (sv_nil ⟨.v (.int p), ?_⟩)
          rw [strS_snoc, if_neg z']
          simp only [List.map_append, List.map_cons, List.map_nil]
          rfl
  · rintro ρ' ⟨r2, rfl⟩
    refine sv_retOwn 1 rfl ?_
    rw [List.length_map, List.take_length]
/-! +floor -/
theorem fld0 {l : List Str} {f : Str} (h : l = [f]) : l[0]? = some f := by rw [h]; rfl
def ddp (cs : List (Int × Int)) : List (Int × Int) := cs.foldl ins []
theorem ddp_len (cs : List (Int × Int)) : (ddp cs).length ≤ cs.length := by
  have key : ∀ (cs acc : List (Int × Int)), (cs.foldl ins acc).length ≤ acc.length + cs.length := by
    intro cs
    induction cs with
    | nil => intro acc; simp
    | cons p cs ih =>
      intro acc
      have := ih (ins acc p)
      have := ins_len acc p
      rw [List.foldl_cons, List.length_cons]
      omega
  have := key cs []
  simpa [ddp] using this
theorem sc_F0 : FnScope ["self", "walls", "standing", "at", "thing"] ["self", "walls"] (defScope (inClass (top 30) 0)) := ⟨rfl, rfl, rfl, by decide +kernel, rfl, by decide +kernel, by decide +kernel⟩
theorem f_Floor (T : Top K mg L) : Mkr P w K mg base L "Floor" 0 3 (fun ds rs => ∃ cs : List (Int × Int), ds = [.lst (cs.map cellP)] ∧ cs.length ≤ 1000 ∧ rs = [.dct (ddp cs)]) := by
  refine (mkr_def (dvs := []) (dds := []) (C := fun ds rs => ∃ cs : List (Int × Int), ds = [.lst (cs.map cellP)] ∧ cs.length ≤ 1000 ∧ rs = [.dct (ddp cs)]) T.d_Floor_init .nil (fun G => .nil) sc_F0 (by rintro ds r ⟨_, rfl, _⟩; rfl) (by rintro ds r ⟨_, _, _, rfl⟩; rw [T.nm_Floor]; rfl) fun f cdv A outer s H E hr q ds rs hc => ?_).1
  obtain ⟨cs, rfl, hl, rfl⟩ := hc
  have hN := sc_F0.nd
  refine sv_newD 2 ?_
  refine sv_for_enum (fun i ρ => ∃ r3 r4, ρ = [.ob q 0 [], .v (.lst (cs.map cellP)), .dic (ddp (cs.take i)), r3, r4]) (ev_var 1) T.b_enumerate rfl (gv_pair 3 4) (fun i d _ => ⟨_, _, rfl⟩) ⟨.no, .no, rfl⟩ ?_ ?_
  · rintro i d ρ' hd ⟨r3, r4, rfl⟩
    rw [List.getElem?_map] at hd
    cases hx : cs[i]? with
    | none => rw [hx] at hd; cases hd
    | some c =>
      rw [hx] at hd
      cases hd
      refine sv_if (tv_not (tv_val (ev_call (f_is_cell T) hr (evs_cons (ev_var 4) evs_nil) ⟨_, _, rfl, rfl⟩))) (fun z => by simp at z) (fun _ => ?_)
      refine sv_nil ?_
      have h1 := ddp_len (cs.take i)
      have h2 : (cs.take i).length ≤ 1000 := Nat.le_trans (List.length_take_le' _ _) hl
      refine sv_put 2 hr rfl ev_bl (ev_var 4) (small63 (by omega)) ?_
      refine sv_nil ⟨.v (.int i), .v (cellP c), ?_⟩
      have next : ddp (cs.take (i + 1)) = ins (ddp (cs.take i)) c := by
        unfold ddp
        rw [take_snoc hx, List.foldl_append]
        rfl
      rw [next]
      rfl
  · rintro ρ' ⟨r3, r4, rfl⟩
    rw [List.length_map, List.take_length]
    refine sv_freezeD 2 rfl ?_
    exact sv_fld 0 T.k_Floor rfl (ev_var 2) (fld0 T.nm_Floor) (sv_nil rfl)
/-- a floor with these walls -/
abbrev flo (cs : List (Int × Int)) : D := .obj 0 [.dct cs]
def freeB (cs : List (Int × Int)) (c : Int × Int) : Bool := !decide (c ∈ cs)
def freeL (cs : List (Int × Int)) (a b p q k : Int) : List (Int × Int) := (nearL a b p q k).filter (freeB cs)
def pzC (cs : List (Int × Int)) : D → Bool
  | .tup [.int x, .int y] => freeB cs (x, y)
  | _ => false
theorem filt_cells (cs : List (Int × Int)) : ∀ l : List (Int × Int), (((l.map cellP).filter (pzC cs)).map fun d => d) = (l.filter (freeB cs)).map cellP
  | [] => rfl
  | c :: l => by
    have ih := filt_cells cs l
    rw [List.map_cons, List.filter_cons, List.filter_cons]
    show List.map _ (if freeB cs c = true then _ else _) = _
    by_cases h : freeB cs c = true
    · rw [if_pos h, if_pos h, List.map_cons, List.map_cons, ih]
    · rw [if_neg h, if_neg h, ih]
theorem nearL_len (a b p q k : Int) : (nearL a b p q k).length ≤ 4 := by
  unfold nearL
  split
  · simp
  · rename_i h
    have h0 := dist_nonneg (a - p) (b - q)
    rw [List.length_map]
    unfold near
    refine Nat.le_trans (len_flat (n := 2) fun x => ?_) ?_
    · rw [List.length_map]
      exact Nat.le_trans (List.length_filter_le _ _) (nn_len (by omega))
    · have := nn_len (p := k * (p - a)) (w := dist (a - p) (b - q)) (by omega)
      omega
theorem sc_F2 : FnScope ["self", "one", "other", "at"] ["self", "one", "other", "at"] (defScope (inClass (top 30) 2)) := ⟨rfl, rfl, rfl, by decide +kernel, rfl, by decide +kernel, by decide +kernel⟩
theorem m_free (T : Top K mg L) : Mt P w K mg base L 0 "free_cells" 4 (fun ds r => ∃ cs a b p q k, ds = [flo cs, cell a b, cell p q, .int k] ∧ 0 ≤ k ∧ k ≤ dist (a - p) (b - q) ∧ Mid (a - p) ∧ Mid (b - q) ∧ r = .lst ((freeL cs a b p q k).map cellP)) := by
  refine mt_def T.d_Floor_free_cells sc_F2 (by rintro ds r ⟨_, _, _, _, _, _, rfl, _⟩; rfl) (fun f cdv A outer s H E hr ds r hc => ?_) 0 (by simp)
  obtain ⟨cs, a, b, p, q, k, rfl, h0, h1, m1, m2, rfl⟩ := hc
  have hn := nearL_len a b p q k
  refine sv_ret (EL.ev (el_compNS (cl := [("self", s.heap.objs.size + 1)]) (fun d => d) (pzC cs) rfl (cap1 0 .nil) (src_seq (ev_call (f_nearest T) (hr.mono (by decide)) (evs_cons (ev_var 1) (evs_cons (ev_var 2) (evs_cons (ev_var 3) evs_nil))) ⟨_, _, _, _, _, rfl, h0, h1, m1, m2, rfl⟩) rfl) (small63 (by rw [List.length_map]; omega)) (fun C s2 H2 fp d hd => ?_))) ?_
  · obtain ⟨c, hc, rfl⟩ := List.mem_map.mp hd
    exact ⟨tests_one (tv_notInD hr (ev_var 0) (ev_fld 0 T.k_Floor (ev_var 1) (fld0 T.nm_Floor) rfl)), fun _ => ev_var 0⟩
  · rw [filt_cells]
    rfl

/-- the points between two cells that have walls alone -/
def blk (cs : List (Int × Int)) (a b p q k : Int) : Bool := (freeL cs a b p q k).isEmpty
/-- the first of the points 1 + i, i < n, that has walls alone -/
def barN (cs : List (Int × Int)) (a b p q : Int) (n : Nat) : Option Nat := (List.range n).find? fun i => blk cs a b p q (1 + (i : Int))
def bar (cs : List (Int × Int)) (a b p q : Int) : Option Nat := barN cs a b p q (dist (a - p) (b - q) - 1).toNat
def barD : Option Nat → D
  | some i => .int (1 + (i : Int))
  | none => .non
theorem sc_F3 : FnScope ["self", "one", "other", "at"] ["self", "one", "other"] (defScope (inClass (top 30) 3)) := ⟨rfl, rfl, rfl, by decide +kernel, rfl, by decide +kernel, by decide +kernel⟩
theorem m_barred (T : Top K mg L) : Mt P w K mg base L 0 "barred" 5 (fun ds r => ∃ cs a b p q, ds = [flo cs, cell a b, cell p q] ∧ Mid (a - p) ∧ Mid (b - q) ∧ dist (a - p) (b - q) ≤ 1000 ∧ r = barD (bar cs a b p q)) := by
  refine mt_def T.d_Floor_barred sc_F3 (by rintro ds r ⟨_, _, _, _, _, rfl, _⟩; rfl) (fun f cdv A outer s H E hr ds r hc => ?_) 0 (by simp)
  obtain ⟨cs, a, b, p, q, rfl, m1, m2, hd, rfl⟩ := hc
  have hN := sc_F3.nd
  have h0 := dist_nonneg (a - p) (b - q)
  refine sv_for_range2 (fun i ρ => ∃ r3, ρ = [.v (flo cs), .v (cell a b), .v (cell p q), r3] ∧ ∀ j, j < i → blk cs a b p q (1 + (j : Int)) = false) ev_int (ev_call (f_distance T) (hr.mono (by decide)) (evs_cons (ev_var 1) (evs_cons (ev_var 2) evs_nil)) ⟨_, _, _, _, rfl, rfl⟩) (by decide) (by omega) T.b_range rfl (gv_name 3) (fun _ => trivial) ⟨.no, rfl, fun j hj => by omega⟩ ?_ ?_
  · rintro i ρ' hi ⟨r3, rfl, hb⟩
    refine sv_if (tv_not (tv_lst (ev_meth T.k_Floor (m_free T) hr (ev_var 0) (evs_cons (ev_var 1) (evs_cons (ev_var 2) (evs_cons (ev_var 3) evs_nil))) ⟨cs, a, b, p, q, 1 + (i : Int), rfl, by omega, by omega, m1, m2, rfl⟩ (by rw [T.nm_Floor]; decide +kernel)))) (fun z => ?_) (fun z => ?_)
    · refine sv_ret (ev_var 3) ?_
      have z' : blk cs a b p q (1 + (i : Int)) = true := by unfold blk; simpa using z
      have e : bar cs a b p q = some i := by
        unfold bar barN
        rw [List.find?_range_eq_some]
        exact ⟨z', by simpa using hi, fun j hj => by simpa using hb j hj⟩
      rw [e]
      rfl
    · refine sv_nil (sv_nil ⟨_, rfl, fun j hj => ?_⟩)
      by_cases e : j = i
      · subst e
        unfold blk
        simpa using z
      · exact hb j (by omega)
  · rintro ρ' ⟨r3, rfl, hb⟩
    refine sv_ret ev_non ?_
    have e : bar cs a b p q = none := by
      unfold bar barN
      rw [List.find?_eq_none]
      intro j hj
      rw [hb j (by simpa using hj)]
      simp
    rw [e]
    rfl
theorem sc_F4 : FnScope ["self", "one", "other"] ["self", "one", "other"] (defScope (inClass (top 30) 4)) := ⟨rfl, rfl, rfl, by decide +kernel, rfl, by decide +kernel, by decide +kernel⟩
def seen (cs : List (Int × Int)) (a b p q : Int) : Bool := (bar cs a b p q).isNone
theorem m_sees (T : Top K mg L) : Mt P w K mg base L 0 "sees" 6 (fun ds r => ∃ cs a b p q, ds = [flo cs, cell a b, cell p q] ∧ Mid (a - p) ∧ Mid (b - q) ∧ dist (a - p) (b - q) ≤ 1000 ∧ r = .bl (seen cs a b p q)) := by
  refine mt_def T.d_Floor_sees sc_F4 (by rintro ds r ⟨_, _, _, _, _, rfl, _⟩; rfl) (fun f cdv A outer s H E hr ds r hc => ?_) 0 (by simp)
  obtain ⟨cs, a, b, p, q, rfl, m1, m2, hd, rfl⟩ := hc
  refine sv_ret (ev_isN (ev_meth T.k_Floor (m_barred T) hr (ev_var 0) (evs_cons (ev_var 1) (evs_cons (ev_var 2) evs_nil)) ⟨cs, a, b, p, q, rfl, m1, m2, hd, rfl⟩ (by rw [T.nm_Floor]; decide +kernel)) ev_non) ?_
  unfold seen
  cases bar cs a b p q <;> rfl
/-! +stretches -/
def ballL (a b : Int) (n : Nat) : List (Int × Int) := (List.range n).flatMap fun o : Nat => ringD a b (o : Int)
theorem ballL_succ (a b : Int) (n : Nat) : ballL a b (n + 1) = ballL a b n ++ ringD a b (n : Int) := by
  unfold ballL
  rw [List.range_succ, List.flatMap_append]
  simp
theorem ringD_len {a b s : Int} (h0 : 0 ≤ s) (h : s ≤ 4) : (ringD a b s).length ≤ 24 := by
  unfold ringD
  split
  · simp
  · unfold ringL
    rw [List.length_map, List.length_range]
    omega
theorem ballL_len (a b : Int) : ∀ n : Nat, n ≤ 5 → (ballL a b n).length ≤ 24 * n
  | 0, _ => by simp [ballL]
  | n + 1, h => by
    rw [ballL_succ, List.length_append]
    have := ballL_len a b n (by omega)
    have := ringD_len (a := a) (b := b) (s := n) (by omega) (by omega)
    omega
theorem dist_small {i j k : Int} (h : dist i j ≤ k) : -k ≤ i ∧ i ≤ k ∧ -k ≤ j ∧ j ≤ k := by
  unfold M.dist mx ab at h
  split at h <;> split at h <;> split at h <;> omega
theorem ringD_near {a b s : Int} (h0 : 0 ≤ s) (h : s ≤ 4) {c : Int × Int} (hc : c ∈ ringD a b s) : dist (a - c.1) (b - c.2) ≤ 4 := by
  unfold ringD at hc
  split at hc
  · rw [List.mem_singleton] at hc
    subst hc
    simp only [Int.sub_self]
    decide
  · rename_i h1
    unfold ringL at hc
    obtain ⟨j, hj, rfl⟩ := List.mem_map.mp hc
    rw [List.mem_range] at hj
    dsimp only
    rw [show a - (a + rx s (↑j + 1)) = -(rx s (↑j + 1)) by omega, show b - (b + ry s (↑j + 1)) = -(ry s (↑j + 1)) by omega, dist_neg, st_dist (by omega) (by omega) (by omega)]
    exact h
theorem ballL_near {a b : Int} {n : Nat} (hn : n ≤ 5) {c : Int × Int} (hc : c ∈ ballL a b n) : dist (a - c.1) (b - c.2) ≤ 4 := by
  unfold ballL at hc
  obtain ⟨o, ho, hc⟩ := List.mem_flatMap.mp hc
  rw [List.mem_range] at ho
  exact ringD_near (by omega) (by omega) hc
theorem near_mid {a b p q : Int} (h : dist (a - p) (b - q) ≤ 1000) : Mid (a - p) ∧ Mid (b - q) := by
  have := dist_small h
  unfold Mid
  omega
/-- the places in the list l of the cells that are seen -/
def plL (cs : List (Int × Int)) (a b : Int) (l : List (Int × Int)) : List Int := (l.zipIdx.filter fun q => seen cs a b q.1.1 q.1.2).map fun q => ((q.2 : Nat) : Int)
def seenP (cs : List (Int × Int)) (a b : Int) : D × D → Bool
  | (_, .tup [.int x, .int y]) => seen cs a b x y
  | _ => false
theorem pl_eq (cs : List (Int × Int)) (a b : Int) (l : List (Int × Int)) : ((enumP (l.map cellP)).filter (seenP cs a b)).map (fun q => q.1) = (plL cs a b l).map .int := by
  have key : ∀ (l : List (Int × Int)) (k : Nat), ((((l.map cellP).zipIdx k).map fun q => ((D.int (q.2 : Nat), q.1) : D × D)).filter (seenP cs a b)).map (fun q => q.1) = (((l.zipIdx k).filter fun q => seen cs a b q.1.1 q.1.2).map fun q => ((q.2 : Nat) : Int)).map D.int := by
    intro l
    induction l with
    | nil => intro k; rfl
    | cons c l ih =>
      intro k
      have := ih (k + 1)
      rw [List.map_cons, List.zipIdx_cons, List.zipIdx_cons, List.map_cons, List.filter_cons, List.filter_cons]
      show List.map _ (if seen cs a b c.1 c.2 = true then _ else _) = List.map _ (List.map _ (if seen cs a b c.1 c.2 = true then _ else _))
      by_cases h : seen cs a b c.1 c.2 = true
      · rw [if_pos h, if_pos h, List.map_cons, List.map_cons, List.map_cons, this]
      · rw [if_neg h, if_neg h, this]
  exact key l 0
theorem plL_len (cs : List (Int × Int)) (a b : Int) (l : List (Int × Int)) : (plL cs a b l).length ≤ l.length := by
  unfold plL
  rw [List.length_map]
  exact Nat.le_trans (List.length_filter_le _ _) (by simp)
def strB (cs : List (Int × Int)) (a b z : Int) : List (Int × Int) := strL (plL cs a b (ballL a b (z + 1).toNat))
theorem sc_F6 : FnScope ["self", "middle", "size", "cells", "out"] ["self", "middle", "size"] (defScope (inClass (top 30) 6)) := ⟨rfl, rfl, rfl, by decide +kernel, rfl, by decide +kernel, by decide +kernel⟩
theorem m_stretches (T : Top K mg L) : MtL P w K mg base L 0 "stretches" 7 (fun ds rs => ∃ cs a b z, ds = [flo cs, cell a b, .int z] ∧ 0 ≤ z ∧ z ≤ 4 ∧ rs = (strB cs a b z).map cellP) := by
  refine mtL_def T.d_Floor_stretches sc_F6 (by rintro ds r ⟨_, _, _, _, rfl, _⟩; rfl) (fun f cdv A outer s H E hr ds rs hc => ?_) 0 (by simp)
  obtain ⟨cs, a, b, z, rfl, h0, h4, rfl⟩ := hc
  have hN := sc_F6.nd
  refine sv_expr (ev_call (f_check_size T) (hr.mono (by decide)) (evs_cons (ev_var 2) evs_nil) ⟨_, rfl, h0, rfl⟩) ?_
  refine sv_new 3 evs_nil (by decide) ?_
  refine sv_for_range (fun i ρ => ∃ r4, ρ = [.v (flo cs), .v (cell a b), .v (.int z), .own ((ballL a b i).map cellP), r4]) (ev_add (ev_var 2) ev_int) (by omega) T.b_range rfl (gv_name 4) (fun _ => trivial) ⟨.no, rfl⟩ ?_ ?_
  · rintro i ρ' hi ⟨r4, rfl⟩
    have l1 := ballL_len a b i (by omega)
    have l2 := ringD_len (a := a) (b := b) (s := (i : Int)) (by omega) (by omega)
    refine sv_extend 3 rfl (el_call (f_ring T) (hr.mono (by decide)) (evs_cons (ev_var 1) (evs_cons (ev_var 4) evs_nil)) ⟨a, b, i, rfl, by omega, by omega, rfl⟩) (Nat.le_of_lt (small63 (by rw [List.length_map, List.length_map]; omega))) ?_
    refine sv_nil ⟨.v (.int i), ?_⟩
    rw [ballL_succ, List.map_append]
    rfl
  · rintro ρ' ⟨r4, rfl⟩
    have l1 := ballL_len a b (z + 1).toNat (by omega)
    have l2 := plL_len cs a b (ballL a b (z + 1).toNat)
    refine sv_freeze 3 rfl ?_
    refine sv_retE (el_call (f_stretched T) (hr.mono (by decide)) (evs_cons (EL.ev (el_compPS (cl := [("self", s.heap.objs.size + 1), ("middle", s.heap.objs.size + 2)]) (fun q => q.1) (seenP cs a b) rfl (cap1 0 (cap1 1 .nil)) (src_enum (ev_var 3) T.b_enumerate) (small63 (by rw [enumP_len, List.length_map]; omega)) (fun C s2 H2 fp q hq => ?_) (hcl := subs_of ⟨rfl, rfl, trivial⟩))) evs_nil) ⟨plL cs a b (ballL a b (z + 1).toNat), by rw [pl_eq], by omega, rfl⟩) rfl
    unfold enumP at hq
    obtain ⟨⟨d, n⟩, hq', rfl⟩ := List.mem_map.mp hq
    obtain ⟨c, hc, rfl⟩ := List.mem_map.mp (List.fst_mem_of_mem_zipIdx hq')
    have hd := ballL_near (by omega) hc
    obtain ⟨m1, m2⟩ := near_mid (Int.le_trans hd (by decide))
    exact ⟨tests_one (tv_val (ev_meth T.k_Floor (m_sees T) (hr.mono (by decide)) (ev_var 2) (evs_cons (ev_var 3) (evs_cons (ev_var 1) evs_nil)) ⟨cs, a, b, c.1, c.2, rfl, m1, m2, Int.le_trans hd (by decide), rfl⟩ (by rw [T.nm_Floor]; decide +kernel))), fun _ => ev_var 0⟩
-- 30
/-! _law_cell_at -/
def c_l_cell_at (ds : List D) (r : D) : Prop := ∃ (ns : List Int) (k : Nat), ds = [.lst (ns.map .int), .int k] ∧ r = .int (ns.getD k 0)
theorem sc_l_cell_at : FnScope ["_law_script", "_law_k"] ["_law_script", "_law_k"] (defScope (top 32)) := ⟨rfl, rfl, rfl, by decide +kernel, rfl, by decide +kernel, by decide +kernel⟩
theorem fl_cell_at (T : Top K mg L) : Fn P w K mg base L "_law_cell_at" 1 c_l_cell_at := by
  refine fn_def T.l_cell_at sc_l_cell_at (by rintro ds r ⟨_, _, rfl, _⟩; rfl) fun f cdv A outer s H E hr ds r hc => ?_
  obtain ⟨ns, k, rfl, rfl⟩ := hc
  refine sv_if (tv_lt (ev_var 1) (ev_len (ev_var 0) rfl T.b_len)) (fun c => ?_) (fun c => ?_)
  · have hk : k < ns.length := by simpa using c
    refine sv_ret (ev_ix (ev_var 0) (ev_var 1) rfl (atI_nat (v := .int ns[k]) (by simp [hk]))) ?_
    simp [hk]
  · have hk : ¬ k < ns.length := by simpa using c
    refine sv_nil ?_
    refine sv_ret ev_int ?_
    simp [List.getD_eq_getElem?_getD, List.getElem?_eq_none (Nat.le_of_not_lt hk)]
/-! _law_whole -/
def c_l_whole (ds : List D) (r : D) : Prop := ∃ i, ds = [.int i] ∧ r = .bl true
theorem sc_l_whole : FnScope ["_law_found"] ["_law_found"] (defScope (top 33)) := ⟨rfl, rfl, rfl, by decide +kernel, rfl, by decide +kernel, by decide +kernel⟩
theorem fl_whole (T : Top K mg L) : Fn P w K mg base L "_law_whole" 1 c_l_whole := by
  refine fn_def T.l_whole sc_l_whole (by rintro ds r ⟨i, rfl, _⟩; rfl) fun f cdv A outer s H E hr ds r hc => ?_
  obtain ⟨i, rfl, rfl⟩ := hc
  refine sv_ret (ev_and (ev_isiT (ev_var 0) (by constructor) (kii _) T.b_isinstance T.b_int) (fun _ => (ev_one (ev_not (ev_isiT (ev_var 0) (by constructor) (kib _) T.b_isinstance T.b_bool))))) ?_
  rfl
end
end K02

set_option maxHeartbeats 4000000
set_option exponentiation.threshold 2000
namespace K02
open PySem L2 Z M
section
variable {P : Program} {w : World} {K : PySem.W.Frag} {mg : Str → Option Value} {base : Heap} {L : Kl}
/-! things of any plain kind -/
def kindB : D → Bool
  | .non => true
  | .bl _ => true
  | .int _ => true
  | .str _ => true
  | .tup _ => true
  | .lst _ => true
  | _ => false
def wholeB : D → Bool
  | .int _ => true
  | _ => false
def cntB : D → Bool
  | .int i => decide (0 ≤ i)
  | _ => false
def wayB : D → Bool
  | .int i => decide (0 ≤ i) && decide (i < 6)
  | _ => false
def cellB : D → Bool
  | .tup [x, y] => wholeB x && wholeB y
  | _ => false
def kindC : D → Bool
  | .tup xs => xs.all kindB
  | d => kindB d
theorem kni (K : PySem.W.Frag) : PySem.W.kitOne K (.type "NoneType") (.type "int") = some false := by kernel_rfl
theorem ksi (K : PySem.W.Frag) : PySem.W.kitOne K (.type "str") (.type "int") = some false := by kernel_rfl
theorem kti (K : PySem.W.Frag) : PySem.W.kitOne K (.type "tuple") (.type "int") = some false := by kernel_rfl
theorem kli (K : PySem.W.Frag) : PySem.W.kitOne K (.type "list") (.type "int") = some false := by kernel_rfl
theorem knt (K : PySem.W.Frag) : PySem.W.kitOne K (.type "NoneType") (.type "tuple") = some false := by kernel_rfl
theorem kst (K : PySem.W.Frag) : PySem.W.kitOne K (.type "str") (.type "tuple") = some false := by kernel_rfl
theorem kbt (K : PySem.W.Frag) : PySem.W.kitOne K (.type "bool") (.type "tuple") = some false := by kernel_rfl
theorem kit (K : PySem.W.Frag) : PySem.W.kitOne K (.type "int") (.type "tuple") = some false := by kernel_rfl
theorem klt (K : PySem.W.Frag) : PySem.W.kitOne K (.type "list") (.type "tuple") = some false := by kernel_rfl
def cg_is_whole (ds : List D) (r : D) : Prop := ∃ d, ds = [d] ∧ kindB d = true ∧ r = .bl (wholeB d)
theorem g_is_whole (T : Top K mg L) : Fn P w K mg base L "is_whole" 1 cg_is_whole := by
  refine fn_def T.p_is_whole sc_is_whole (by rintro ds r ⟨_, rfl, _⟩; rfl) fun f cdv A outer s H E hr ds r hc => ?_
  obtain ⟨d, rfl, hk, rfl⟩ := hc
  cases d with
  | int i => exact sv_ret (ev_and (ev_isiT (ev_var 0) (by constructor) (kii _) T.b_isinstance T.b_int) (fun _ => (ev_one (ev_not (ev_isiT (ev_var 0) (by constructor) (kib _) T.b_isinstance T.b_bool))))) rfl
  | bl i => exact sv_ret (ev_and (ev_isiT (ev_var 0) (by constructor) (kbi _) T.b_isinstance T.b_int) (fun _ => (ev_one (ev_not (ev_isiT (ev_var 0) (by constructor) (kbb _) T.b_isinstance T.b_bool))))) rfl
  | non => exact sv_ret (ev_and (u := true) (ev_isiT (ev_var 0) (by constructor) (kni _) T.b_isinstance T.b_int) (fun h => by cases h)) rfl
  | str x => exact sv_ret (ev_and (u := true) (ev_isiT (ev_var 0) (by constructor) (ksi _) T.b_isinstance T.b_int) (fun h => by cases h)) rfl
  | tup x => exact sv_ret (ev_and (u := true) (ev_isiT (ev_var 0) (by constructor) (kti _) T.b_isinstance T.b_int) (fun h => by cases h)) rfl
  | lst x => exact sv_ret (ev_and (u := true) (ev_isiT (ev_var 0) (by constructor) (kli _) T.b_isinstance T.b_int) (fun h => by cases h)) rfl
  | ty n => cases hk
  | cls n => cases hk
  | obj n x => cases hk
  | dct x => cases hk
  | exc n x => cases hk
theorem whole_int {d : D} (h : wholeB d = true) : ∃ i, d = .int i := by
  cases d with
  | int i => exact ⟨i, rfl⟩
  | _ => cases h
def cg_is_count (ds : List D) (r : D) : Prop := ∃ d, ds = [d] ∧ kindB d = true ∧ r = .bl (cntB d)
theorem g_is_count (T : Top K mg L) : Fn P w K mg base L "is_count" 2 cg_is_count := by
  refine fn_def T.p_is_count sc_is_count (by rintro ds r ⟨_, rfl, _⟩; rfl) fun f cdv A outer s H E hr ds r hc => ?_
  obtain ⟨d, rfl, hk, rfl⟩ := hc
  refine sv_ret (ev_and (u := cntB d) (ev_call (g_is_whole T) hr (evs_cons (ev_var 0) evs_nil) ⟨_, rfl, hk, rfl⟩) (fun h => ?_)) ?_
  · obtain ⟨i, rfl⟩ := whole_int h
    exact ev_one (ev_ge (ev_var 0) ev_int)
  · cases d <;> rfl
def cg_is_way (ds : List D) (r : D) : Prop := ∃ d, ds = [d] ∧ kindB d = true ∧ r = .bl (wayB d)
theorem sc_is_way : FnScope ["thing"] ["thing"] (defScope (top 14)) := ⟨rfl, rfl, rfl, by decide +kernel, rfl, by decide +kernel, by decide +kernel⟩
theorem g_is_way (T : Top K mg L) : Fn P w K mg base L "is_way" 2 cg_is_way := by
  refine fn_def T.p_is_way sc_is_way (by rintro ds r ⟨_, rfl, _⟩; rfl) fun f cdv A outer s H E hr ds r hc => ?_
  obtain ⟨d, rfl, hk, rfl⟩ := hc
  refine sv_ret (ev_and (u := wayB d) (ev_call (g_is_whole T) hr (evs_cons (ev_var 0) evs_nil) ⟨_, rfl, hk, rfl⟩) (fun h => ?_)) ?_
  · obtain ⟨i, rfl⟩ := whole_int h
    exact ev_one (ev_chain op_le op_lt op2B (fun _ => op2B) ev_int (ev_var 0) (fun _ => (ev_len (T.ev_WAYS) rfl T.b_len)))
  · cases d <;> rfl
def cg_is_cell (ds : List D) (r : D) : Prop := ∃ d, ds = [d] ∧ kindC d = true ∧ r = .bl (cellB d)
theorem g_is_cell (T : Top K mg L) : Fn P w K mg base L "is_cell" 2 cg_is_cell := by
  refine fn_def T.p_is_cell sc_is_cell (by rintro ds r ⟨_, rfl, _⟩; rfl) fun f cdv A outer s H E hr ds r hc => ?_
  obtain ⟨d, rfl, hk, rfl⟩ := hc
  cases d with
  | int i => exact sv_ret (ev_and (u := true) (ev_isiT (ev_var 0) (by constructor) (kit _) T.b_isinstance T.b_tuple) (fun h => by cases h)) rfl
  | bl i => exact sv_ret (ev_and (u := true) (ev_isiT (ev_var 0) (by constructor) (kbt _) T.b_isinstance T.b_tuple) (fun h => by cases h)) rfl
  | non => exact sv_ret (ev_and (u := true) (ev_isiT (ev_var 0) (by constructor) (knt _) T.b_isinstance T.b_tuple) (fun h => by cases h)) rfl
  | str x => exact sv_ret (ev_and (u := true) (ev_isiT (ev_var 0) (by constructor) (kst _) T.b_isinstance T.b_tuple) (fun h => by cases h)) rfl
  | lst x => exact sv_ret (ev_and (u := true) (ev_isiT (ev_var 0) (by constructor) (klt _) T.b_isinstance T.b_tuple) (fun h => by cases h)) rfl
  | tup xs =>
    by_cases hl : xs.length = 2
    · match xs, hl with
      | [x, y], _ =>
        have hk' : (kindB x && (kindB y && true)) = true := hk
        rw [Bool.and_true, Bool.and_eq_true] at hk'
        refine sv_ret (ev_and (ev_isiT (ev_var 0) (by constructor) (ktt _) T.b_isinstance T.b_tuple) (fun _ => (ev_and (ev_eq hr (ev_len (ev_var 0) rfl T.b_len) ev_int) (fun _ => (ev_and (ev_call (g_is_whole T) hr (evs_cons (ev_t0 (ev_var 0) ev_int) evs_nil) ⟨_, rfl, hk'.1, rfl⟩) (fun _ => (ev_one (ev_call (g_is_whole T) hr (evs_cons (ev_t1 (ev_var 0) ev_int) evs_nil) ⟨_, rfl, hk'.2, rfl⟩)))))))) ?_
        show D.bl (true && (true && (wholeB x && wholeB y))) = _
        rfl
    · refine sv_ret (ev_and (ev_isiT (ev_var 0) (by constructor) (ktt _) T.b_isinstance T.b_tuple) (fun _ => (ev_and (u := true) (ev_eq hr (ev_len (ev_var 0) rfl T.b_len) ev_int) (fun h => ?_)))) ?_
      · rw [eqD_int] at h
        have h' := of_decide_eq_true h
        exact absurd (show xs.length = 2 by omega) hl
      · rw [eqD_int, decide_eq_false (by omega : ¬ ((xs.length : Int) = 2))]
        match xs, hl with
        | [], _ => rfl
        | [_], _ => rfl
        | [_, _], h => exact absurd rfl h
        | _ :: _ :: _ :: _, _ => rfl
  | ty n => cases hk
  | cls n => cases hk
  | obj n x => cases hk
  | dct x => cases hk
  | exc n x => cases hk
end
end K02

set_option maxHeartbeats 4000000
set_option exponentiation.threshold 2000
namespace K02
open PySem L2 Z M
section
variable {P : Program} {w : World} {K : PySem.W.Frag} {mg : Str → Option Value} {base : Heap} {L : Kl}
theorem sc_xc : FnScope ["self", "at"] ["self", "at"] (defScope (inClass (top 3) 0)) := ⟨rfl, rfl, rfl, by decide +kernel, rfl, by decide +kernel, by decide +kernel⟩
theorem sc_xw : FnScope ["self", "at"] ["self", "at"] (defScope (inClass (top 4) 0)) := ⟨rfl, rfl, rfl, by decide +kernel, rfl, by decide +kernel, by decide +kernel⟩
theorem ib_xc : IniBody (inClass (top 3) 0) "NoCell.__init__" := ⟨⟨"the thing at place ", " is no cell", _, _, _, _, _, _, _, _, _, _, _, _, _, _, _, _, by decide, by decide, rfl, fun n f cdv => ⟨_, rfl⟩⟩⟩
theorem ib_xw : IniBody (inClass (top 4) 0) "NoWay.__init__" := ⟨⟨"the thing at place ", " is no whole number from 0 to 5", _, _, _, _, _, _, _, _, _, _, _, _, _, _, _, _, by decide, by decide, rfl, fun n f cdv => ⟨_, rfl⟩⟩⟩
theorem x_NoCell (T : Top K mg L) : XMk P w K mg base L "NoCell" 1 1 := by
  obtain ⟨f, fd, mc, F, c, B, hfn⟩ := T.d_NoCell_init
  exact ⟨⟨_, f, fd, c, fn_init F sc_xc c B T.m_FloorError ib_xc rfl, F.bd, hfn, T.m_NoCell⟩⟩
theorem x_NoWay (T : Top K mg L) : XMk P w K mg base L "NoWay" 2 1 := by
  obtain ⟨f, fd, mc, F, c, B, hfn⟩ := T.d_NoWay_init
  exact ⟨⟨_, f, fd, c, fn_init F sc_xw c B T.m_FloorError ib_xw rfl, F.bd, hfn, T.m_NoWay⟩⟩
theorem tvT {X : Cx} {ρ : List Sl} {c : Expr} {t : Bool} (h : TV X L ρ c t) (e : t = true) : TV X L ρ c true := e ▸ h
theorem tvF {X : Cx} {ρ : List Sl} {c : Expr} {t : Bool} (h : TV X L ρ c t) (e : t = false) : TV X L ρ c false := e ▸ h
theorem small_of {n : Nat} (h : n < 64) : smallI (n : Int) := ⟨⟨n, h⟩, rfl⟩
/-! stepped -/
theorem sc_stepped : FnScope ["cell", "ways", "at", "way"] ["cell", "ways"] (defScope (top 16)) := ⟨rfl, rfl, rfl, by decide +kernel, rfl, by decide +kernel, by decide +kernel⟩
def r_stepped (ds : List D) (c : Nat) (a : Option Int) : Prop := ∃ (x y : Int) (gs : List Int) (bad : D) (rest : List D), ds = [cell x y, .lst (gs.map .int ++ bad :: rest)] ∧ (∀ k ∈ gs, 0 ≤ k ∧ k < 6) ∧ kindB bad = true ∧ wayB bad = false ∧ gs.length < 64 ∧ c = 2 ∧ a = some (gs.length : Int)
theorem fr_stepped (T : Top K mg L) : FnR P w K mg base L "stepped" 3 r_stepped := by
  refine fnr_def T.p_stepped sc_stepped (by rintro ds c a ⟨_, _, _, _, _, rfl, _⟩; rfl) fun f cdv A outer s H E hr ds c a hc ac => ?_
  obtain ⟨x, y, gs, bad, rest, rfl, hw, hk, hb, hl, rfl, rfl⟩ := hc
  have hN := sc_stepped.nd
  refine svr_for_enum ac.own (fun i ρ => i ≤ gs.length ∧ ∃ u v r2 r3, ρ = [.v (cell u v), .v (.lst (gs.map .int ++ bad :: rest)), r2, r3]) (ev_var 1) T.b_enumerate rfl (gv_pair 2 3) (fun i d _ => ⟨_, _, rfl⟩) ⟨Nat.zero_le _, _, _, .no, .no, rfl⟩ ?_ ?_
  · rintro i d ρ' hd ⟨hi, u, v, r2, r3, rfl⟩
    by_cases hlt : i < gs.length
    · rw [List.getElem?_append_left (by rw [List.length_map]; exact hlt), List.getElem?_map, List.getElem?_eq_getElem hlt] at hd
      cases hd
      have hk' := hw gs[i] (List.getElem_mem hlt)
      have e : (!wayB (.int gs[i])) = false := by simp [wayB, hk']
      refine svr_of (sv_if (tvF (tv_not (tv_val (ev_call (g_is_way T) hr (evs_cons (ev_var 3) evs_nil) ⟨_, rfl, rfl, rfl⟩))) e) (fun c => by cases c) (fun c => ?_))
      refine sv_nil ?_
      refine sv_set 0 (ev_call (f_plus T).2 (hr.mono (by decide)) (evs_cons (ev_var 0) (evs_cons (ev_ix T.ev_WAYS (ev_var 3) rfl (ways_at hk')) evs_nil)) ⟨_, _, _, _, _, rfl, mul_1 _, mul_1 _, rfl⟩) ?_
      exact sv_nil ⟨hlt, _, _, _, _, rfl⟩
    · have ei : i = gs.length := by omega
      subst ei
      rw [List.getElem?_append_right (by rw [List.length_map]; exact Nat.le_refl _), List.length_map, Nat.sub_self] at hd
      cases hd
      refine svr_ifT (tvT (tv_not (tv_val (ev_call (g_is_way T) hr (evs_cons (ev_var 3) evs_nil) ⟨_, rfl, hk, rfl⟩))) (by rw [hb]; rfl)) ?_
      exact svr_raiseI (x_NoWay T) hr ac (ev_var 2) (small_of hl)
  · rintro ρ' ⟨hle, _⟩
    rw [List.length_append, List.length_map, List.length_cons] at hle
    omega
/-! Floor(..) -/
def r_Floor (ds : List D) (c : Nat) (a : Option Int) : Prop := ∃ (gs : List (Int × Int)) (bad : D) (rest : List D), ds = [.lst (gs.map cellP ++ bad :: rest)] ∧ kindC bad = true ∧ cellB bad = false ∧ gs.length < 64 ∧ c = 1 ∧ a = some (gs.length : Int)
theorem mr_Floor (T : Top K mg L) : MkR P w K mg base L "Floor" 0 3 r_Floor := by
  refine mkR_def T.d_Floor_init sc_F0 (by rintro ds c a ⟨_, _, _, rfl, _⟩; rfl) fun f cdv A outer s H E hr q ds c a hc ac => ?_
  obtain ⟨gs, bad, rest, rfl, hk, hb, hl, rfl, rfl⟩ := hc
  have hN := sc_F0.nd
  refine svr_cons [.ob q 0 [], .v (.lst (gs.map cellP ++ bad :: rest)), .dic [], .no, .no] (sv_newD 2 (sv_nil rfl)) ?_
  refine svr_for_enum ac.own (fun i ρ => i ≤ gs.length ∧ ∃ cs r3 r4, ρ = [.ob q 0 [], .v (.lst (gs.map cellP ++ bad :: rest)), .dic cs, r3, r4] ∧ cs.length ≤ i) (ev_var 1) T.b_enumerate rfl (gv_pair 3 4) (fun i d _ => ⟨_, _, rfl⟩) ⟨Nat.zero_le _, [], .no, .no, rfl, Nat.zero_le _⟩ ?_ ?_
  · rintro i d ρ' hd ⟨hi, cs, r3, r4, rfl, hcs⟩
    by_cases hlt : i < gs.length
    · rw [List.getElem?_append_left (by rw [List.length_map]; exact hlt), List.getElem?_map, List.getElem?_eq_getElem hlt] at hd
      cases hd
      refine svr_of (sv_if (tvF (tv_not (tv_val (ev_call (f_is_cell T) hr (evs_cons (ev_var 4) evs_nil) ⟨_, _, rfl, rfl⟩))) rfl) (fun z => by cases z) (fun _ => ?_))
      refine sv_nil ?_
      refine sv_put 2 hr rfl ev_bl (ev_var 4) (small63 (by omega)) ?_
      refine sv_nil ⟨hlt, _, _, _, rfl, ?_⟩
      have := ins_len cs gs[i]
      omega
    · have ei : i = gs.length := by omega
      subst ei
      rw [List.getElem?_append_right (by rw [List.length_map]; exact Nat.le_refl _), List.length_map, Nat.sub_self] at hd
      cases hd
      refine svr_ifT (tvT (tv_not (tv_val (ev_call (g_is_cell T) hr (evs_cons (ev_var 4) evs_nil) ⟨_, rfl, hk, rfl⟩))) (by rw [hb]; rfl)) ?_
      exact svr_raiseI (x_NoCell T) hr ac (ev_var 3) (small_of hl)
  · rintro ρ' ⟨hle, _⟩
    rw [List.length_append, List.length_map, List.length_cons] at hle
    omega
/-! sizes, places, points -/
def r_size (ds : List D) (c : Nat) (a : Option Int) : Prop := ∃ d, ds = [d] ∧ kindB d = true ∧ cntB d = false ∧ c = 4 ∧ a = none
theorem fr_check_size (T : Top K mg L) : FnR P w K mg base L "check_size" 3 r_size := by
  refine fnr_def T.p_check_size sc_check_size (by rintro ds c a ⟨_, rfl, _⟩; rfl) fun f cdv A outer s H E hr ds c a hc ac => ?_
  obtain ⟨d, rfl, hk, hb, rfl, rfl⟩ := hc
  refine svr_ifT (tvT (tv_not (tv_val (ev_call (g_is_count T) hr (evs_cons (ev_var 0) evs_nil) ⟨_, rfl, hk, rfl⟩))) (by rw [hb]; rfl)) ?_
  exact svr_raise0 ac T.e_NoSize T.m_NoSize (evs_cons ev_str evs_nil) (by decide)
def r_ring (ds : List D) (c : Nat) (a : Option Int) : Prop := ∃ m d, ds = [m, d] ∧ kindB d = true ∧ cntB d = false ∧ c = 4 ∧ a = none
theorem fr_ring (T : Top K mg L) : FnR P w K mg base L "ring" 4 r_ring := by
  refine fnr_def T.p_ring sc_ring (by rintro ds c a ⟨_, _, rfl, _⟩; rfl) fun f cdv A outer s H E hr ds c a hc ac => ?_
  obtain ⟨m, d, rfl, hk, hb, rfl, rfl⟩ := hc
  exact svr_expr (rv_call (fr_check_size T) hr ac (evs_cons (ev_var 1) evs_nil) ⟨_, rfl, hk, hb, rfl, rfl⟩)
def r_stretches (ds : List D) (c : Nat) (a : Option Int) : Prop := ∃ o m d, ds = [o, m, d] ∧ kindB d = true ∧ cntB d = false ∧ c = 4 ∧ a = none
theorem mr_stretches (T : Top K mg L) : MtR P w K mg base L 0 "stretches" 4 r_stretches := by
  refine mtr_def T.d_Floor_stretches sc_F6 (by rintro ds c a ⟨_, _, _, rfl, _⟩; rfl) (fun f cdv A outer s H E hr ds c a hc ac => ?_) 0 (by simp)
  obtain ⟨o, m, d, rfl, hk, hb, rfl, rfl⟩ := hc
  exact svr_expr (rv_call (fr_check_size T) hr ac (evs_cons (ev_var 2) evs_nil) ⟨_, rfl, hk, hb, rfl, rfl⟩)
def r_cell_at (ds : List D) (c : Nat) (a : Option Int) : Prop := ∃ d, ds = [d] ∧ kindB d = true ∧ cntB d = false ∧ c = 3 ∧ a = none
theorem fr_cell_at (T : Top K mg L) : FnR P w K mg base L "cell_at" 3 r_cell_at := by
  refine fnr_def T.p_cell_at sc_cell_at (by rintro ds c a ⟨_, rfl, _⟩; rfl) fun f cdv A outer s H E hr ds c a hc ac => ?_
  obtain ⟨d, rfl, hk, hb, rfl, rfl⟩ := hc
  refine svr_ifT (tvT (tv_not (tv_val (ev_call (g_is_count T) hr (evs_cons (ev_var 0) evs_nil) ⟨_, rfl, hk, rfl⟩))) (by rw [hb]; rfl)) ?_
  exact svr_raise0 ac T.e_NoPlace T.m_NoPlace (evs_cons ev_str evs_nil) (by decide)
/-- no point between two cells so far apart -/
def noPoint (far : Int) (d : D) : Prop := kindB d = true ∧ (cntB d = false ∨ ∃ i, d = .int i ∧ far < i)
def r_nearest (ds : List D) (c : Nat) (a : Option Int) : Prop := ∃ (x y p q : Int) (d : D), ds = [cell x y, cell p q, d] ∧ noPoint (dist (x - p) (y - q)) d ∧ c = 5 ∧ a = none
theorem fr_nearest (T : Top K mg L) : FnR P w K mg base L "nearest" 3 r_nearest := by
  refine fnr_def T.p_nearest sc_nearest (by rintro ds c a ⟨_, _, _, _, _, rfl, _⟩; rfl) fun f cdv A outer s H E hr ds c a hc ac => ?_
  obtain ⟨x, y, p, q, d, rfl, ⟨hk, hb⟩, rfl, rfl⟩ := hc
  have hN := sc_nearest.nd
  refine svr_cons [.v (cell x y), .v (cell p q), .v d, .v (.int (dist (x - p) (y - q))), .no, .no, .no, .no] (sv_set 3 (ev_call (f_distance T) hr (evs_cons (ev_var 0) (evs_cons (ev_var 1) evs_nil)) ⟨_, _, _, _, rfl, rfl⟩) (sv_nil rfl)) ?_
  refine svr_ifT ?_ (svr_raise0 ac T.e_NoPoint T.m_NoPoint (evs_cons ev_str evs_nil) (by decide))
  rcases hb with hb | ⟨i, rfl, hi⟩
  · exact tvT (WV.tv (wv_or (u := true) (tvT (tv_not (tv_val (ev_call (g_is_count T) hr (evs_cons (ev_var 2) evs_nil) ⟨_, rfl, hk, rfl⟩))) (by rw [hb]; rfl)) (fun z => by cases z))) rfl
  · exact tvT (WV.tv (wv_or (tv_not (tv_val (ev_call (g_is_count T) hr (evs_cons (ev_var 2) evs_nil) ⟨_, rfl, hk, rfl⟩))) (fun _ => (wv_or1 (tv_gt (ev_var 2) (ev_var 3)))))) (by rw [decide_eq_true hi, Bool.or_true])
end
end K02

set_option maxHeartbeats 4000000
set_option exponentiation.threshold 2000
namespace Z
open PySem PySem.Spec PyProof.Rows L2
section
variable {X : Cx} {L : Kl} {ρ : List Sl} {e a tg : Expr} {d : D} {pos p : Pos} {E : En} {rest : List Stmt}
theorem ev_toIntB {k : Bool} {x : Str} (ha : EV X L ρ a (.bl k)) (hm : X.mg x = none) (hx : x = "int" := by rfl) (hg : Gl X x := by rfl) (he : starEach [a] X.env = (false, eval a X.env) :: starEach [] X.env := by rfl) : EV X L ρ (.Call (.Name x p) [a] [] pos) (.int (if k then 1 else 0)) := by
  subst hx
  exact ev_callTy call_int1 (fun G H vs s r Q kk => by obtain ⟨v, rfl, h⟩ := r.one; cases h; exact .inr ⟨k, rfl, kk _ G H (.refl s) (.int _)⟩) hm (by decide +kernel) (evs_cons ha evs_nil he) hg (he := he)
/-- (x, y) = e -/
theorem sv_asgG {f : D → List Sl → List Sl} {ok : D → Prop} (he : EV X L ρ e d) (hg : GV X L tg f ok) (hok : ok d) (h : SV X L (f d ρ) rest E) (hs : swapsWithSole [tg] e pos.line X.env = pure false := by rfl) (hw : swappedStores [tg] e X.env = pure none := by rfl)
    (h1 : (assignEach [tg] X.env).map (·.2) = [assign tg X.env] := by rfl) : SV X L ρ (.Assign [tg] e pos :: rest) E := .mk fun σ G0 H0 G H st => by
  obtain ⟨g, pg, qg⟩ := hg
  exact wSs_cons (wS_of (ps_asg pe_w pg hs hw h1) (he.run σ G0 H0 G H st _ fun v G1 H1 e1 r1 => qg d ρ σ G0 H0 G1 H1 v hok (st.step e1) r1 _ fun σ' s' => h.run σ' G0 H0 G1 H1 s'))
theorem op2EqS {x y : Str} {K : PySem.W.Frag} : Op2 K L rEq (.str x) (.str y) (.bl (decide (x = y))) := fun G H v u s r1 r2 Q k => by
  cases r1; cases r2
  exact ⟨rfl, by rw [show decide (V.str x = V.str y) = decide (x = y) by rw [Bool.eq_iff_iff]; simp]; exact k _ G H (.refl s) (.bl _)⟩
theorem tv_eqS {b : Expr} {x y : Str} (ha : EV X L ρ a (.str x)) (hb : EV X L ρ b (.str y)) : TV X L ρ (.Compare a [.Eq] [b] pos) (decide (x = y)) := tv_cmp op_eq op2EqS ha hb (nomark _)
/-- a test whose answer is known -/
theorem sv_ifF {c : Expr} {t : Bool} {body : List Stmt} (hc : TV X L ρ c t) (e : t = false) (h : SV X L ρ rest E) : SV X L ρ (.If c body [] pos :: rest) E := sv_if hc (fun z => by rw [e] at z; cases z) fun _ => sv_nil h
theorem sv_ifR {c : Expr} {t : Bool} {body els : List Stmt} (hc : TV X L ρ c t) (e : t = true) (h : SV X L ρ body { E with nx := fun ρ' => SV X L ρ' rest E }) : SV X L ρ (.If c body els pos :: rest) E := sv_if hc (fun _ => h) fun z => by rw [e] at z; cases z
end
end Z
namespace K02
open PySem L2 Z M
section
variable {P : Program} {w : World} {K : PySem.W.Frag} {mg : Str → Option Value} {base : Heap} {L : Kl}
/-! _law_names -/
def nmS : Nat → Str
  | 1 => "cell"
  | 2 => "way"
  | 3 => "place"
  | 4 => "size"
  | _ => "point"
def namesD (c : Nat) : D := .lst [.str (nmS c), .str "value"]
theorem kinds_of (T : Top K mg L) {c : Nat} (h : c = 1 ∨ c = 2 ∨ c = 3 ∨ c = 4 ∨ c = 5) : PySem.W.ExcK K (L.cls c) ∧ PySem.W.kitOne K (.ref (L.cls c)) (.type "ValueError") = some true ∧ PySem.W.kitOne K (.ref (L.cls c)) (.ref (L.cls 1)) = some (decide (c = 1)) ∧ PySem.W.kitOne K (.ref (L.cls c)) (.ref (L.cls 2)) = some (decide (c = 2)) ∧
    PySem.W.kitOne K (.ref (L.cls c)) (.ref (L.cls 3)) = some (decide (c = 3)) ∧ PySem.W.kitOne K (.ref (L.cls c)) (.ref (L.cls 4)) = some (decide (c = 4)) ∧ PySem.W.kitOne K (.ref (L.cls c)) (.ref (L.cls 5)) = some (decide (c = 5)) := by
  rcases h with rfl | rfl | rfl | rfl | rfl
  · exact ⟨T.x_NoCell, T.v_NoCell, T.t_NoCell_NoCell, T.t_NoCell_NoWay, T.t_NoCell_NoPlace, T.t_NoCell_NoSize, T.t_NoCell_NoPoint⟩
  · exact ⟨T.x_NoWay, T.v_NoWay, T.t_NoWay_NoCell, T.t_NoWay_NoWay, T.t_NoWay_NoPlace, T.t_NoWay_NoSize, T.t_NoWay_NoPoint⟩
  · exact ⟨T.x_NoPlace, T.v_NoPlace, T.t_NoPlace_NoCell, T.t_NoPlace_NoWay, T.t_NoPlace_NoPlace, T.t_NoPlace_NoSize, T.t_NoPlace_NoPoint⟩
  · exact ⟨T.x_NoSize, T.v_NoSize, T.t_NoSize_NoCell, T.t_NoSize_NoWay, T.t_NoSize_NoPlace, T.t_NoSize_NoSize, T.t_NoSize_NoPoint⟩
  · exact ⟨T.x_NoPoint, T.v_NoPoint, T.t_NoPoint_NoCell, T.t_NoPoint_NoWay, T.t_NoPoint_NoPlace, T.t_NoPoint_NoSize, T.t_NoPoint_NoPoint⟩
theorem sc_l_names : FnScope ["_law_e", "_law_names_here"] ["_law_e"] (defScope (top 34)) := ⟨rfl, rfl, rfl, by decide +kernel, rfl, by decide +kernel, by decide +kernel⟩
def c_l_names (ds : List D) (r : D) : Prop := ∃ c a, ds = [.exc c a] ∧ (c = 1 ∨ c = 2 ∨ c = 3 ∨ c = 4 ∨ c = 5) ∧ r = namesD c
theorem fl_names (T : Top K mg L) : FnH P w K mg base L "_law_names" 1 c_l_names := by
  refine fnH_def T.l_names sc_l_names (by rintro ds r ⟨_, _, rfl, _⟩; rfl) fun f cdv A outer s H E hr ds r hc => ?_
  obtain ⟨c, a, rfl, hcl, rfl⟩ := hc
  have hN := sc_l_names.nd
  obtain ⟨B, hv, h1, h2, h3, h4, h5⟩ := kinds_of T hcl
  refine sv_new 1 evs_nil (by decide) ?_
  rcases hcl with rfl | rfl | rfl | rfl | rfl
  all_goals
    refine sv_if (tv_val (ev_isiXC (ev_var 0) B h1 T.b_isinstance T.m_NoCell)) (fun z => ?_) (fun z => ?_)
    all_goals first | exact absurd z (by decide) | skip
    all_goals first | refine sv_append 1 rfl ev_str (by decide) (sv_nil ?_) | refine sv_nil ?_
    refine sv_if (tv_val (ev_isiXC (ev_var 0) B h2 T.b_isinstance T.m_NoWay)) (fun z => ?_) (fun z => ?_)
    all_goals first | exact absurd z (by decide) | skip
    all_goals first | refine sv_append 1 rfl ev_str (by decide) (sv_nil ?_) | refine sv_nil ?_
    refine sv_if (tv_val (ev_isiXC (ev_var 0) B h3 T.b_isinstance T.m_NoPlace)) (fun z => ?_) (fun z => ?_)
    all_goals first | exact absurd z (by decide) | skip
    all_goals first | refine sv_append 1 rfl ev_str (by decide) (sv_nil ?_) | refine sv_nil ?_
    refine sv_if (tv_val (ev_isiXC (ev_var 0) B h4 T.b_isinstance T.m_NoSize)) (fun z => ?_) (fun z => ?_)
    all_goals first | exact absurd z (by decide) | skip
    all_goals first | refine sv_append 1 rfl ev_str (by decide) (sv_nil ?_) | refine sv_nil ?_
    refine sv_if (tv_val (ev_isiXC (ev_var 0) B h5 T.b_isinstance T.m_NoPoint)) (fun z => ?_) (fun z => ?_)
    all_goals first | exact absurd z (by decide) | skip
    all_goals first | refine sv_append 1 rfl ev_str (by decide) (sv_nil ?_) | refine sv_nil ?_
    refine sv_if (tv_val (ev_isiXT (ev_var 0) B hv T.b_isinstance T.b_ValueError)) (fun z => ?_) (fun z => ?_)
    all_goals first | exact absurd z (by decide) | skip
    all_goals first | refine sv_append 1 rfl ev_str (by decide) (sv_nil ?_) | refine sv_nil ?_
    exact sv_freeze 1 rfl (sv_ret (ev_var 1) rfl)
end
end K02

set_option maxHeartbeats 4000000
set_option exponentiation.threshold 2000
namespace K02
open PySem L2 Z M
section
variable {P : Program} {w : World} {K : PySem.W.Frag} {mg : Str → Option Value} {base : Heap} {L : Kl}
/-! stepped, where it goes on -/
theorem sumX_snoc (l : List Int) (k : Int) : sumX (l ++ [k]) = sumX l + wx k := by simp [sumX]
theorem sumY_snoc (l : List Int) (k : Int) : sumY (l ++ [k]) = sumY l + wy k := by simp [sumY]
def c_stepped (ds : List D) (r : D) : Prop := ∃ (a b : Int) (ns : List Int), ds = [cell a b, .lst (ns.map .int)] ∧ Ways ns ∧ r = cell (a + sumX ns) (b + sumY ns)
theorem f_stepped (T : Top K mg L) : Fn P w K mg base L "stepped" 3 c_stepped := by
  refine fn_def T.p_stepped sc_stepped (by rintro ds r ⟨_, _, _, rfl, _⟩; rfl) fun f cdv A outer s H E hr ds r hc => ?_
  obtain ⟨a, b, ns, rfl, hw, rfl⟩ := hc
  have hN := sc_stepped.nd
  refine sv_for_enum (fun i ρ => ∃ r2 r3, ρ = [.v (cell (a + sumX (ns.take i)) (b + sumY (ns.take i))), .v (.lst (ns.map .int)), r2, r3]) (ev_var 1) T.b_enumerate rfl (gv_pair 2 3) (fun i d _ => ⟨_, _, rfl⟩) ⟨.no, .no, ?_⟩ ?_ ?_
  · simp [sumX, sumY]; rfl
  · rintro i d ρ' hd ⟨r2, r3, rfl⟩
    rw [List.getElem?_map] at hd
    cases hk : ns[i]? with
    | none => rw [hk] at hd; cases hd
    | some k =>
      rw [hk] at hd
      cases hd
      have hk' := hw k (List.mem_of_getElem? hk)
      refine sv_ifF (tv_not (tv_val (ev_call (g_is_way T) hr (evs_cons (ev_var 3) evs_nil) ⟨_, rfl, rfl, rfl⟩))) (by simp [wayB, hk']) ?_
      refine sv_set 0 (ev_call (f_plus T).2 (hr.mono (by decide)) (evs_cons (ev_var 0) (evs_cons (ev_ix T.ev_WAYS (ev_var 3) rfl (ways_at hk')) evs_nil)) ⟨_, _, _, _, _, rfl, mul_1 _, mul_1 _, rfl⟩) ?_
      refine sv_nil ⟨.v (.int i), .v (.int k), ?_⟩
      rw [take_snoc hk, sumX_snoc, sumY_snoc, Int.one_mul, Int.one_mul, ← Int.add_assoc, ← Int.add_assoc]
      rfl
  · rintro ρ' ⟨r2, r3, rfl⟩
    refine sv_ret (ev_var 0) ?_
    rw [List.length_map, List.take_length]
/-! _law_call -/
abbrev moreD (a b p q m : Int) : D := .tup [cell a b, cell p q, .int m]
/-- it goes on -/
inductive OkCall (a b p q : Int) : Str → D → D → Prop
  | way (ns : List Int) (h : Ways ns) : OkCall a b p q "way" (.lst (ns.map .int)) (cell (a + sumX ns) (b + sumY ns))
  | cell (cs : List (Int × Int)) (h : cs.length ≤ 1000) : OkCall a b p q "cell" (.lst (cs.map cellP)) (flo (ddp cs))
  | place : OkCall a b p q "place" (.int 0) (Z.cell 0 0)
  | size : OkCall a b p q "size" (.int 0) (.lst ((ringD a b 0).map cellP))
  | stretch : OkCall a b p q "stretch" (.int 0) (.lst ((strB (ddp []) a b 0).map cellP))
  | point (h1 : Mid (a - p)) (h2 : Mid (b - q)) : OkCall a b p q "point" (.int 0) (.lst ((nearL a b p q 0).map cellP))
/-- it is refused -/
inductive BadCall (a b p q : Int) : Str → D → Nat → Option Int → Prop
  | way (gs : List Int) (bad : D) (rest : List D) (h : Ways gs) (hk : kindB bad = true) (hb : wayB bad = false) (hl : gs.length < 64) : BadCall a b p q "way" (.lst (gs.map .int ++ bad :: rest)) 2 (some (gs.length : Int))
  | cell (gs : List (Int × Int)) (bad : D) (rest : List D) (hk : kindC bad = true) (hb : cellB bad = false) (hl : gs.length < 64) : BadCall a b p q "cell" (.lst (gs.map cellP ++ bad :: rest)) 1 (some (gs.length : Int))
  | place (d : D) (hk : kindB d = true) (hb : cntB d = false) : BadCall a b p q "place" d 3 none
  | size (d : D) (hk : kindB d = true) (hb : cntB d = false) : BadCall a b p q "size" d 4 none
  | stretch (d : D) (hk : kindB d = true) (hb : cntB d = false) : BadCall a b p q "stretch" d 4 none
  | point (d : D) (h : noPoint (dist (a - p) (b - q)) d) : BadCall a b p q "point" d 5 none
theorem sc_l_call : FnScope ["_law_kind", "_law_thing", "_law_more"] ["_law_kind", "_law_thing", "_law_more"] (defScope (top 35)) := ⟨rfl, rfl, rfl, by decide +kernel, rfl, by decide +kernel, by decide +kernel⟩
def c_l_call (ds : List D) (r : D) : Prop := ∃ kind thing a b p q m, ds = [.str kind, thing, moreD a b p q m] ∧ OkCall a b p q kind thing r
theorem fl_call (T : Top K mg L) : Fn P w K mg base L "_law_call" 8 c_l_call := by
  refine fn_def T.l_call sc_l_call (by rintro ds r ⟨_, _, _, _, _, _, _, rfl, _⟩; rfl) fun f cdv A outer s H E hr ds r hc => ?_
  obtain ⟨kind, thing, a, b, p, q, m, rfl, hc⟩ := hc
  cases hc with
  | way ns h => exact sv_ifR (tv_eqS (ev_var 0) ev_str) (by decide +kernel) (sv_ret (ev_call (f_stepped T) (hr.mono (by decide)) (evs_cons (ev_t0 (ev_var 2) ev_int) (evs_cons (ev_var 1) evs_nil)) ⟨_, _, _, rfl, h, rfl⟩) rfl)
  | cell cs h =>
    refine sv_ifF (tv_eqS (ev_var 0) ev_str) (by decide +kernel) ?_
    exact sv_ifR (tv_eqS (ev_var 0) ev_str) (by decide +kernel) (sv_ret (ev_make (f_Floor T) (hr.mono (by decide)) (evs_cons (ev_var 1) evs_nil) ⟨_, rfl, h, rfl⟩) rfl)
  | place =>
    refine sv_ifF (tv_eqS (ev_var 0) ev_str) (by decide +kernel) ?_
    refine sv_ifF (tv_eqS (ev_var 0) ev_str) (by decide +kernel) ?_
    exact sv_ifR (tv_eqS (ev_var 0) ev_str) (by decide +kernel) (sv_ret (ev_call (f_cell_at T) (hr.mono (by decide)) (evs_cons (ev_var 1) evs_nil) ⟨0, rfl, by decide, .inl ⟨rfl, rfl⟩⟩) rfl)
  | size =>
    refine sv_ifF (tv_eqS (ev_var 0) ev_str) (by decide +kernel) ?_
    refine sv_ifF (tv_eqS (ev_var 0) ev_str) (by decide +kernel) ?_
    refine sv_ifF (tv_eqS (ev_var 0) ev_str) (by decide +kernel) ?_
    exact sv_ifR (tv_eqS (ev_var 0) ev_str) (by decide +kernel) (sv_ret (ev_call (f_ring T).fn (hr.mono (by decide)) (evs_cons (ev_t0 (ev_var 2) ev_int) (evs_cons (ev_var 1) evs_nil)) ⟨_, rfl, _, _, _, rfl, by decide, by decide, rfl⟩) rfl)
  | stretch =>
    refine sv_ifF (tv_eqS (ev_var 0) ev_str) (by decide +kernel) ?_
    refine sv_ifF (tv_eqS (ev_var 0) ev_str) (by decide +kernel) ?_
    refine sv_ifF (tv_eqS (ev_var 0) ev_str) (by decide +kernel) ?_
    refine sv_ifF (tv_eqS (ev_var 0) ev_str) (by decide +kernel) ?_
    exact sv_ifR (tv_eqS (ev_var 0) ev_str) (by decide +kernel) (sv_ret (EL.ev (el_meth T.k_Floor (m_stretches T) hr (ev_make (f_Floor T) (hr.mono (by decide)) (evs_cons (ev_lst evs_nil) evs_nil) ⟨[], rfl, by decide, rfl⟩) (evs_cons (ev_t0 (ev_var 2) ev_int) (evs_cons (ev_var 1) evs_nil)) ⟨_, _, _, _, rfl, by decide, by decide, rfl⟩ (by rw [T.nm_Floor]; decide +kernel))) rfl)
  | point h1 h2 =>
    refine sv_ifF (tv_eqS (ev_var 0) ev_str) (by decide +kernel) ?_
    refine sv_ifF (tv_eqS (ev_var 0) ev_str) (by decide +kernel) ?_
    refine sv_ifF (tv_eqS (ev_var 0) ev_str) (by decide +kernel) ?_
    refine sv_ifF (tv_eqS (ev_var 0) ev_str) (by decide +kernel) ?_
    refine sv_ifF (tv_eqS (ev_var 0) ev_str) (by decide +kernel) ?_
    exact sv_ret (ev_call (f_nearest T) (hr.mono (by decide)) (evs_cons (ev_t0 (ev_var 2) ev_int) (evs_cons (ev_t1 (ev_var 2) ev_int) (evs_cons (ev_var 1) evs_nil))) ⟨_, _, _, _, _, rfl, by decide, dist_nonneg _ _, h1, h2, rfl⟩) rfl
def r_call (ds : List D) (c : Nat) (at_ : Option Int) : Prop := ∃ kind thing a b p q m, ds = [.str kind, thing, moreD a b p q m] ∧ BadCall a b p q kind thing c at_
theorem flr_call (T : Top K mg L) : FnR P w K mg base L "_law_call" 5 r_call := by
  refine fnr_def T.l_call sc_l_call (by rintro ds c a ⟨_, _, _, _, _, _, _, rfl, _⟩; rfl) fun f cdv A outer s H E hr ds c a hc ac => ?_
  obtain ⟨kind, thing, a, b, p, q, m, rfl, hc⟩ := hc
  cases hc with
  | way gs bad rest h hk hb hl => exact svr_ifT (tvT (tv_eqS (ev_var 0) ev_str) (by decide +kernel)) (svr_ret (rv_call (fr_stepped T) (hr.mono (by decide)) ac (evs_cons (ev_t0 (ev_var 2) ev_int) (evs_cons (ev_var 1) evs_nil)) ⟨_, _, gs, bad, rest, rfl, h, hk, hb, hl, rfl, rfl⟩))
  | cell gs bad rest hk hb hl =>
    refine svr_ifF (tvF (tv_eqS (ev_var 0) ev_str) (by decide +kernel)) ?_
    exact svr_ifT (tvT (tv_eqS (ev_var 0) ev_str) (by decide +kernel)) (svr_ret (rv_make (mr_Floor T) (hr.mono (by decide)) ac (evs_cons (ev_var 1) evs_nil) ⟨gs, bad, rest, rfl, hk, hb, hl, rfl, rfl⟩))
  | place d hk hb =>
    refine svr_ifF (tvF (tv_eqS (ev_var 0) ev_str) (by decide +kernel)) ?_
    refine svr_ifF (tvF (tv_eqS (ev_var 0) ev_str) (by decide +kernel)) ?_
    exact svr_ifT (tvT (tv_eqS (ev_var 0) ev_str) (by decide +kernel)) (svr_ret (rv_call (fr_cell_at T) (hr.mono (by decide)) ac (evs_cons (ev_var 1) evs_nil) ⟨_, rfl, hk, hb, rfl, rfl⟩))
  | size d hk hb =>
    refine svr_ifF (tvF (tv_eqS (ev_var 0) ev_str) (by decide +kernel)) ?_
    refine svr_ifF (tvF (tv_eqS (ev_var 0) ev_str) (by decide +kernel)) ?_
    refine svr_ifF (tvF (tv_eqS (ev_var 0) ev_str) (by decide +kernel)) ?_
    exact svr_ifT (tvT (tv_eqS (ev_var 0) ev_str) (by decide +kernel)) (svr_ret (rv_call (fr_ring T) (hr.mono (by decide)) ac (evs_cons (ev_t0 (ev_var 2) ev_int) (evs_cons (ev_var 1) evs_nil)) ⟨_, _, rfl, hk, hb, rfl, rfl⟩))
  | stretch d hk hb =>
    refine svr_ifF (tvF (tv_eqS (ev_var 0) ev_str) (by decide +kernel)) ?_
    refine svr_ifF (tvF (tv_eqS (ev_var 0) ev_str) (by decide +kernel)) ?_
    refine svr_ifF (tvF (tv_eqS (ev_var 0) ev_str) (by decide +kernel)) ?_
    refine svr_ifF (tvF (tv_eqS (ev_var 0) ev_str) (by decide +kernel)) ?_
    exact svr_ifT (tvT (tv_eqS (ev_var 0) ev_str) (by decide +kernel)) (svr_ret (rv_meth T.k_Floor (mr_stretches T) (hr.mono (by decide)) ac (ev_make (f_Floor T) (hr.mono (by decide)) (evs_cons (ev_lst evs_nil) evs_nil) ⟨[], rfl, by decide, rfl⟩) (evs_cons (ev_t0 (ev_var 2) ev_int) (evs_cons (ev_var 1) evs_nil)) ⟨_, _, _, rfl, hk, hb, rfl, rfl⟩ (by rw [T.nm_Floor]; decide +kernel)))
  | point d h =>
    refine svr_ifF (tvF (tv_eqS (ev_var 0) ev_str) (by decide +kernel)) ?_
    refine svr_ifF (tvF (tv_eqS (ev_var 0) ev_str) (by decide +kernel)) ?_
    refine svr_ifF (tvF (tv_eqS (ev_var 0) ev_str) (by decide +kernel)) ?_
    refine svr_ifF (tvF (tv_eqS (ev_var 0) ev_str) (by decide +kernel)) ?_
    refine svr_ifF (tvF (tv_eqS (ev_var 0) ev_str) (by decide +kernel)) ?_
    exact svr_ret (rv_call (fr_nearest T) (hr.mono (by decide)) ac (evs_cons (ev_t0 (ev_var 2) ev_int) (evs_cons (ev_t1 (ev_var 2) ev_int) (evs_cons (ev_var 1) evs_nil))) ⟨_, _, _, _, _, rfl, h, rfl, rfl⟩)
/-! _law_told, _law_by_base -/
def atD : Option Int → D
  | none => .non
  | some i => .int i
theorem BadCall.cls {a b p q : Int} {kind : Str} {thing : D} {c : Nat} {at_ : Option Int} (h : BadCall a b p q kind thing c at_) : (c = 2 ∧ ∃ i, at_ = some i) ∨ (c = 1 ∧ ∃ i, at_ = some i) ∨ ((c = 3 ∨ c = 4 ∨ c = 5) ∧ at_ = none) := by
  cases h <;> simp
theorem sc_l_told : FnScope ["_law_kind", "_law_thing", "_law_more", "_law_names_here", "_law_at", "_law_e"] ["_law_kind", "_law_thing", "_law_more"] (defScope (top 36)) := ⟨rfl, rfl, rfl, by decide +kernel, rfl, by decide +kernel, by decide +kernel⟩
def c_l_told (ds : List D) (r : D) : Prop := ∃ kind thing a b p q m, ds = [.str kind, thing, moreD a b p q m] ∧ ((∃ z, OkCall a b p q kind thing z) ∧ r = .tup [.non, .non] ∨ ∃ c at_, BadCall a b p q kind thing c at_ ∧ r = .tup [namesD c, atD at_])
theorem fl_told (T : Top K mg L) : Fn P w K mg base L "_law_told" 9 c_l_told := by
  refine fn_def T.l_told sc_l_told (by rintro ds r ⟨_, _, _, _, _, _, _, rfl, _⟩; rfl) fun f cdv A outer s H E hr ds r hc => ?_
  obtain ⟨kind, thing, a, b, p, q, m, rfl, hc⟩ := hc
  have hN := sc_l_told.nd
  refine sv_set 3 ev_non ?_
  refine sv_set 4 ev_non ?_
  rcases hc with ⟨⟨z, hz⟩, rfl⟩ | ⟨c, at_, hb, rfl⟩
  · refine sv_tryOk (sv_expr (ev_call (fl_call T) hr (evs_cons (ev_var 0) (evs_cons (ev_var 1) (evs_cons (ev_var 2) evs_nil))) ⟨_, _, _, _, _, _, _, rfl, hz⟩) (sv_nil ?_)) (fun _ _ z => z)
    exact sv_ret (ev_tup (evs_cons (ev_var 3) (evs_cons (ev_var 4) evs_nil))) rfl
  · refine sv_try (flr_call T) (hr.mono (by decide)) (evs_cons (ev_var 0) (evs_cons (ev_var 1) (evs_cons (ev_var 2) evs_nil))) ⟨_, _, _, _, _, _, _, rfl, hb⟩ ?_ (fun _ _ z => z)
    have rh : ∀ ea : Addr, RoomH 1 ((A.deeper (PyProof.Rows.envOfC "_law_told" (defScope (top 36)) s.heap.objs.size f cdv)).mark (some (.ref ea))) := fun ea => .of (hr.mono (j := 1) (by decide)) _
    rcases hb.cls with ⟨rfl, i, rfl⟩ | ⟨rfl, i, rfl⟩ | ⟨hc, rfl⟩
    · refine hb_as 5 T.m_NoWay T.p_NoWay T.r_NoWay_NoWay _ (fun ea => sv_set 3 (ev_callH (fl_names T) (rh ea) (evs_cons (ev_var 5) evs_nil) ⟨2, _, rfl, by decide, rfl⟩) (sv_set 4 (ev_at T.x_NoWay T.h_NoWay T.n_NoWay (ev_var 5)) (sv_nil rfl))) ?_ ?_ (fun _ _ z => z)
      · exact sv_ret (ev_tup (evs_cons (ev_var 3) (evs_cons (ev_var 4) evs_nil))) rfl
      · intro r hr; cases hr; exact fun z => z
    · refine hb_skip T.m_NoWay T.p_NoWay T.r_NoCell_NoWay ?_
      refine hb_as 5 T.m_NoCell T.p_NoCell T.r_NoCell_NoCell _ (fun ea => sv_set 3 (ev_callH (fl_names T) (rh ea) (evs_cons (ev_var 5) evs_nil) ⟨1, _, rfl, by decide, rfl⟩) (sv_set 4 (ev_at T.x_NoCell T.h_NoCell T.n_NoCell (ev_var 5)) (sv_nil rfl))) ?_ ?_ (fun _ _ z => z)
      · exact sv_ret (ev_tup (evs_cons (ev_var 3) (evs_cons (ev_var 4) evs_nil))) rfl
      · intro r hr; cases hr; exact fun z => z
    · have hc5 : c = 1 ∨ c = 2 ∨ c = 3 ∨ c = 4 ∨ c = 5 := by omega
      have h1 : PySem.W.mroIn K (L.cls c) (.ref (L.cls 2)) = some false ∧ PySem.W.mroIn K (L.cls c) (.ref (L.cls 1)) = some false ∧ PySem.W.mroIn K (L.cls c) (.ref (L.cls 6)) = some true := by
        rcases hc with rfl | rfl | rfl
        · exact ⟨T.r_NoPlace_NoWay, T.r_NoPlace_NoCell, T.r_NoPlace_FloorError⟩
        · exact ⟨T.r_NoSize_NoWay, T.r_NoSize_NoCell, T.r_NoSize_FloorError⟩
        · exact ⟨T.r_NoPoint_NoWay, T.r_NoPoint_NoCell, T.r_NoPoint_FloorError⟩
      refine hb_skip T.m_NoWay T.p_NoWay h1.1 ?_
      refine hb_skip T.m_NoCell T.p_NoCell h1.2.1 ?_
      refine hb_as 5 T.m_FloorError T.p_FloorError h1.2.2 _ (fun ea => sv_set 3 (ev_callH (fl_names T) (rh ea) (evs_cons (ev_var 5) evs_nil) ⟨c, _, rfl, hc5, rfl⟩) (sv_nil rfl)) ?_ ?_ (fun _ _ z => z)
      · exact sv_ret (ev_tup (evs_cons (ev_var 3) (evs_cons (ev_var 4) evs_nil))) rfl
      · intro r hr; cases hr; exact fun z => z
theorem sc_l_by_base : FnScope ["_law_kind", "_law_thing", "_law_more"] ["_law_kind", "_law_thing", "_law_more"] (defScope (top 37)) := ⟨rfl, rfl, rfl, by decide +kernel, rfl, by decide +kernel, by decide +kernel⟩
def c_l_by_base (ds : List D) (r : D) : Prop := ∃ kind thing a b p q m c at_, ds = [.str kind, thing, moreD a b p q m] ∧ BadCall a b p q kind thing c at_ ∧ r = .bl true
theorem fl_by_base (T : Top K mg L) : Fn P w K mg base L "_law_by_base" 6 c_l_by_base := by
  refine fn_def T.l_by_base sc_l_by_base (by rintro ds r ⟨_, _, _, _, _, _, _, _, _, rfl, _⟩; rfl) fun f cdv A outer s H E hr ds r hc => ?_
  obtain ⟨kind, thing, a, b, p, q, m, c, at_, rfl, hb, rfl⟩ := hc
  refine sv_try (flr_call T) hr (evs_cons (ev_var 0) (evs_cons (ev_var 1) (evs_cons (ev_var 2) evs_nil))) ⟨_, _, _, _, _, _, _, rfl, hb⟩ ?_ (fun _ _ z => z)
  have h1 : PySem.W.mroIn K (L.cls c) (.ref (L.cls 6)) = some true := by
    rcases hb.cls with ⟨rfl, i, rfl⟩ | ⟨rfl, i, rfl⟩ | ⟨rfl | rfl | rfl, rfl⟩
    · exact T.r_NoWay_FloorError
    · exact T.r_NoCell_FloorError
    · exact T.r_NoPlace_FloorError
    · exact T.r_NoSize_FloorError
    · exact T.r_NoPoint_FloorError
  exact hb_no T.m_FloorError T.p_FloorError h1 (fun ea => sv_ret ev_bl rfl) (fun _ _ z => z)
end
end K02

set_option maxHeartbeats 4000000
set_option exponentiation.threshold 2000
namespace K02
open PySem L2 Z M
section
variable {P : Program} {w : World} {K : PySem.W.Frag} {mg : Str → Option Value} {base : Heap} {L : Kl}
theorem atI_in {ds : List D} {i : Int} (h0 : 0 ≤ i) (h1 : i < (ds.length : Int)) : atI ds i = some (ds.getD i.toNat .non) := by
  unfold atI ixN
  rw [if_pos h0, if_pos h1, Option.bind_some]
  have : i.toNat < ds.length := by omega
  simp [this]
/-! what is no way -/
def noWays (f : Int) : List D := [.int 6, .int (-1), .int (6 + f), .int (-1 - f), .bl true, .bl false, .non, .str "1"]
def noWayD (c : Int) : D := (noWays (c / 8 % 10 ^ 30)).getD (c % 8).toNat .non
theorem getD_all {p : D → Prop} : ∀ {l : List D} {n : Nat}, p .non → (∀ d ∈ l, p d) → p (l.getD n .non)
  | [], _, h, _ => h
  | d :: l, 0, _, h => h d List.mem_cons_self
  | d :: l, n + 1, h0, h => by
    have := getD_all (l := l) (n := n) h0 fun x hx => h x (List.mem_cons_of_mem _ hx)
    simpa using this
theorem noWay_ok (c : Int) : kindB (noWayD c) = true ∧ wayB (noWayD c) = false := by
  have hf : 0 ≤ c / 8 % 10 ^ 30 := Int.emod_nonneg _ (by decide)
  unfold noWayD
  generalize c / 8 % 10 ^ 30 = f at *
  refine getD_all (p := fun d => kindB d = true ∧ wayB d = false) ⟨rfl, rfl⟩ fun d hd => ?_
  simp only [noWays, List.mem_cons, List.not_mem_nil, or_false] at hd
  rcases hd with rfl | rfl | rfl | rfl | rfl | rfl | rfl | rfl
  all_goals first | exact ⟨rfl, rfl⟩ | skip
  · refine ⟨rfl, ?_⟩
    simp only [wayB]
    rw [decide_eq_false (by omega : ¬ 6 + f < 6), Bool.and_false]
  · refine ⟨rfl, ?_⟩
    simp only [wayB]
    rw [decide_eq_false (by omega : ¬ 0 ≤ -1 - f), Bool.false_and]
theorem sc_l_no_way : FnScope ["_law_cell", "_law_far"] ["_law_cell"] (defScope (top 38)) := ⟨rfl, rfl, rfl, by decide +kernel, rfl, by decide +kernel, by decide +kernel⟩
def c_l_no_way (ds : List D) (r : D) : Prop := ∃ c : Int, ds = [.int c] ∧ r = noWayD c
theorem fl_no_way (T : Top K mg L) : Fn P w K mg base L "_law_no_way" 1 c_l_no_way := by
  refine fn_def T.l_no_way sc_l_no_way (by rintro ds r ⟨_, rfl, _⟩; rfl) fun f cdv A outer s H E hr ds r hc => ?_
  obtain ⟨c, rfl, rfl⟩ := hc
  have hN := sc_l_no_way.nd
  refine sv_set 1 (ev_mod (ev_fdiv (ev_var 0) ev_int ⟨by decide, by decide⟩) (ev_pow ev_int ev_int ⟨by decide, by decide, by decide⟩) (by decide)) ?_
  exact sv_ret (ev_ix (ev_lst (evs_cons ev_int (evs_cons (ev_neg ev_int) (evs_cons (ev_add ev_int (ev_var 1)) (evs_cons (ev_sub (ev_neg ev_int) (ev_var 1)) (evs_cons ev_bl (evs_cons ev_bl (evs_cons ev_non (evs_cons ev_str evs_nil))))))))) (ev_mod (ev_var 0) ev_int (by decide)) rfl (atI_in (by omega) (by show c % 8 < 8; omega))) rfl
/-! what is no cell -/
def noCells : List D := [.tup [.int 1], .tup [.int 1, .int 2, .int 3], .lst [.int 1, .int 2], .tup [.bl true, .int 1], .tup [.int 1, .bl false], .tup [.non, .int 0], .tup [.int 0, .str "2"], .tup [], .non, .int 5, .str "ab", .tup [.int 1, .tup [.int 2]], .bl true]
def noCellD (c : Int) : D := noCells.getD (c % 13).toNat .non
theorem noCell_ok (c : Int) : kindC (noCellD c) = true ∧ cellB (noCellD c) = false := by
  refine getD_all (p := fun d => kindC d = true ∧ cellB d = false) ⟨rfl, rfl⟩ fun d hd => ?_
  simp only [noCells, List.mem_cons, List.not_mem_nil, or_false] at hd
  rcases hd with rfl | rfl | rfl | rfl | rfl | rfl | rfl | rfl | rfl | rfl | rfl | rfl | rfl
  all_goals exact ⟨rfl, rfl⟩
theorem sc_l_no_cell : FnScope ["_law_cell", "_law_some"] ["_law_cell"] (defScope (top 39)) := ⟨rfl, rfl, rfl, by decide +kernel, rfl, by decide +kernel, by decide +kernel⟩
def c_l_no_cell (ds : List D) (r : D) : Prop := ∃ c : Int, ds = [.int c] ∧ r = noCellD c
theorem fl_no_cell (T : Top K mg L) : Fn P w K mg base L "_law_no_cell" 1 c_l_no_cell := by
  refine fn_def T.l_no_cell sc_l_no_cell (by rintro ds r ⟨_, rfl, _⟩; rfl) fun f cdv A outer s H E hr ds r hc => ?_
  obtain ⟨c, rfl, rfl⟩ := hc
  have hN := sc_l_no_cell.nd
  refine sv_set 1 (ev_lst (evs_cons (ev_tup (evs_cons ev_int evs_nil)) (evs_cons (ev_tup (evs_cons ev_int (evs_cons ev_int (evs_cons ev_int evs_nil)))) (evs_cons (ev_lst (evs_cons ev_int (evs_cons ev_int evs_nil))) (evs_cons (ev_tup (evs_cons ev_bl (evs_cons ev_int evs_nil))) (evs_cons (ev_tup (evs_cons ev_int (evs_cons ev_bl evs_nil))) (evs_cons (ev_tup (evs_cons ev_non (evs_cons ev_int evs_nil))) (evs_cons (ev_tup (evs_cons ev_int (evs_cons ev_str evs_nil))) (evs_cons (ev_tup evs_nil) evs_nil))))))))) ?_
  refine sv_set 1 (EL.ev (el_cat (ev_var 1) (ev_lst (evs_cons ev_non (evs_cons ev_int (evs_cons ev_str (evs_cons (ev_tup (evs_cons ev_int (evs_cons (ev_tup (evs_cons ev_int evs_nil)) evs_nil))) (evs_cons ev_bl evs_nil)))))) (by decide))) ?_
  exact sv_ret (ev_ix (ev_var 1) (ev_mod (ev_var 0) ev_int (by decide)) rfl (atI_in (by omega) (by show c % 13 < 13; omega))) rfl
/-! what is no number of the kind that is asked -/
def noNums (m f : Int) : List D := [.int (-1 - f), .bl true, .non, .str "1", .int (if m < 0 then -1 - f else m + 1 + f)]
def noNumD (c m : Int) : D := (noNums m (c / 5 % 10 ^ 30)).getD (c % 5).toNat .non
theorem noNum_ok (c m : Int) : kindB (noNumD c m) = true ∧ (m < 0 → cntB (noNumD c m) = false) ∧ (0 ≤ m → noPoint m (noNumD c m)) := by
  have hf : 0 ≤ c / 5 % 10 ^ 30 := Int.emod_nonneg _ (by decide)
  unfold noNumD
  generalize c / 5 % 10 ^ 30 = f at *
  refine getD_all (p := fun d => kindB d = true ∧ (m < 0 → cntB d = false) ∧ (0 ≤ m → noPoint m d)) ⟨rfl, fun _ => rfl, fun _ => ⟨rfl, .inl rfl⟩⟩ fun d hd => ?_
  simp only [noNums, List.mem_cons, List.not_mem_nil, or_false] at hd
  have neg : cntB (.int (-1 - f)) = false := decide_eq_false (by omega)
  rcases hd with rfl | rfl | rfl | rfl | rfl
  · exact ⟨rfl, fun _ => neg, fun _ => ⟨rfl, .inl neg⟩⟩
  · exact ⟨rfl, fun _ => rfl, fun _ => ⟨rfl, .inl rfl⟩⟩
  · exact ⟨rfl, fun _ => rfl, fun _ => ⟨rfl, .inl rfl⟩⟩
  · exact ⟨rfl, fun _ => rfl, fun _ => ⟨rfl, .inl rfl⟩⟩
  · refine ⟨rfl, fun h => ?_, fun h => ?_⟩
    · rw [if_pos h]
      exact neg
    · rw [if_neg (by omega)]
      exact ⟨rfl, .inr ⟨_, rfl, by omega⟩⟩
theorem sc_l_no_number : FnScope ["_law_cell", "_law_many", "_law_far"] ["_law_cell", "_law_many"] (defScope (top 40)) := ⟨rfl, rfl, rfl, by decide +kernel, rfl, by decide +kernel, by decide +kernel⟩
def c_l_no_number (ds : List D) (r : D) : Prop := ∃ c m : Int, ds = [.int c, .int m] ∧ r = noNumD c m
theorem fl_no_number (T : Top K mg L) : Fn P w K mg base L "_law_no_number" 1 c_l_no_number := by
  refine fn_def T.l_no_number sc_l_no_number (by rintro ds r ⟨_, _, rfl, _⟩; rfl) fun f cdv A outer s H E hr ds r hc => ?_
  obtain ⟨c, m, rfl, rfl⟩ := hc
  have hN := sc_l_no_number.nd
  refine sv_set 2 (ev_mod (ev_fdiv (ev_var 0) ev_int ⟨by decide, by decide⟩) (ev_pow ev_int ev_int ⟨by decide, by decide, by decide⟩) (by decide)) ?_
  have e : atI [D.int (m + 1 + c / 5 % 10 ^ 30), D.int (-1 - c / 5 % 10 ^ 30)] (if decide (m < 0) = true then 1 else 0) = some (.int (if m < 0 then -1 - c / 5 % 10 ^ 30 else m + 1 + c / 5 % 10 ^ 30)) := by
    by_cases h : m < 0
    · rw [decide_eq_true h, if_pos rfl, if_pos h]; rfl
    · rw [decide_eq_false h, if_neg (by decide), if_neg h]; rfl
  exact sv_ret (ev_ix (ev_lst (evs_cons (ev_sub (ev_neg ev_int) (ev_var 2)) (evs_cons ev_bl (evs_cons ev_non (evs_cons ev_str (evs_cons (ev_ix (ev_lst (evs_cons (ev_add (ev_add (ev_var 1) ev_int) (ev_var 2)) (evs_cons (ev_sub (ev_neg ev_int) (ev_var 2)) evs_nil))) (ev_toIntB (ev_lt (ev_var 1) ev_int) T.b_int) rfl e) evs_nil)))))) (ev_mod (ev_var 0) ev_int (by decide)) rfl (atI_in (by omega) (by show c % 5 < 5; omega))) rfl
/-! _law_kinds -/
theorem sc_l_kinds : FnScope ["_law_bad", "_law_good", "_law_found"] ["_law_bad", "_law_good"] (defScope (top 41)) := ⟨rfl, rfl, rfl, by decide +kernel, rfl, by decide +kernel, by decide +kernel⟩
def c_l_kinds (ds : List D) (r : D) : Prop := ∃ (d : D) (a b : Int), ds = [d, cell a b] ∧ kindC d = true ∧ cellB d = false ∧ r = .bl true
theorem fl_kinds (T : Top K mg L) : Fn P w K mg base L "_law_kinds" 3 c_l_kinds := by
  refine fn_def T.l_kinds sc_l_kinds (by rintro ds r ⟨_, _, _, rfl, _⟩; rfl) fun f cdv A outer s H E hr ds r hc => ?_
  obtain ⟨d, a, b, rfl, hk, hb, rfl⟩ := hc
  have hN := sc_l_kinds.nd
  refine sv_set 2 (ev_call (g_is_cell T) hr (evs_cons (ev_var 0) evs_nil) ⟨_, rfl, hk, rfl⟩) ?_
  rw [hb]
  refine sv_ifF (WV.tv (wv_or (tv_not (tv_val (ev_isiT (ev_var 2) (by constructor) (kbb _) T.b_isinstance T.b_bool))) (fun _ => (wv_or1 (tv_val (ev_var 2)))))) rfl ?_
  refine sv_set 2 (ev_call (f_is_cell T) hr (evs_cons (ev_var 1) evs_nil) ⟨_, _, rfl, rfl⟩) ?_
  exact sv_ret (ev_and (ev_isiT (ev_var 2) (by constructor) (kbb _) T.b_isinstance T.b_bool) (fun _ => (ev_one (ev_var 2)))) rfl
/-! _law_list -/
def goodC (ns : List Int) : List (Int × Int) := ((ns.drop 3).take 40).map fun c => (c % 10 ^ 30, c / 7 % 10 ^ 30)
def goodW (ns : List Int) : List Int := ((ns.drop 3).take 40).map fun c => c % 6
theorem goodC_len (ns : List Int) : (goodC ns).length ≤ 40 := by unfold goodC; rw [List.length_map]; exact List.length_take_le _ _
theorem goodW_len (ns : List Int) : (goodW ns).length ≤ 40 := by unfold goodW; rw [List.length_map]; exact List.length_take_le _ _
theorem goodW_ways (ns : List Int) : Ways (goodW ns) := fun k hk => by
  obtain ⟨c, _, rfl⟩ := List.mem_map.mp hk
  omega
theorem sc_l_list : FnScope ["_law_script", "_law_way", "_law_found", "_law_cell"] ["_law_script", "_law_way"] (defScope (top 42)) := ⟨rfl, rfl, rfl, by decide +kernel, rfl, by decide +kernel, by decide +kernel⟩
def c_l_list (ds : List D) (r : D) : Prop := ∃ (ns : List Int) (b : Bool), ds = [.lst (ns.map .int), .bl b] ∧ r = .lst (if b then (goodW ns).map .int else (goodC ns).map cellP)
theorem fl_list (T : Top K mg L) : Fn P w K mg base L "_law_list" 1 c_l_list := by
  refine fn_def T.l_list sc_l_list (by rintro ds r ⟨_, _, rfl, _⟩; rfl) fun f cdv A outer s H E hr ds r hc => ?_
  obtain ⟨ns, b, rfl, rfl⟩ := hc
  have hN := sc_l_list.nd
  let g : Int → D := fun c => if b then .int (c % 6) else cell (c % 10 ^ 30) (c / 7 % 10 ^ 30)
  refine sv_new 2 evs_nil (by decide) ?_
  refine sv_for_seq (fun i ρ => ∃ r3, ρ = [.v (.lst (ns.map .int)), .v (.bl b), .own ((((ns.drop 3).take 40).take i).map g), r3]) (ev_sliceI 3 43 (ev_var 0) ev_int ev_int) (gv_name 3) (fun _ _ => trivial) ⟨.no, rfl⟩ ?_ ?_
  · rintro i d ρ' hd ⟨r3, rfl⟩
    rw [List.getElem?_map] at hd
    cases hx : ((ns.drop 3).take 40)[i]? with
    | none => rw [hx] at hd; cases hd
    | some c =>
      rw [hx] at hd
      cases hd
      have hl : ((((ns.drop 3).take 40).take i).map g).length ≤ 1000 := by
        rw [List.length_map]
        have h1 := List.length_take_le' i ((ns.drop 3).take 40)
        have h2 := List.length_take_le 40 (ns.drop 3)
        omega
      rw [take_snoc hx, List.map_append]
      cases b with
      | true =>
        refine sv_if (tv_val (ev_var 1)) (fun z => ?_) (fun z => by cases z)
        exact sv_append 2 rfl (ev_mod (ev_var 3) ev_int (by decide)) (small63 hl) (sv_nil (sv_nil ⟨_, rfl⟩))
      | false =>
        refine sv_if (tv_val (ev_var 1)) (fun z => by cases z) (fun z => ?_)
        exact sv_append 2 rfl (ev_tup (evs_cons (ev_mod (ev_var 3) (ev_pow ev_int ev_int ⟨by decide, by decide, by decide⟩) (by decide)) (evs_cons (ev_mod (ev_fdiv (ev_var 3) ev_int ⟨by decide, by decide⟩) (ev_pow ev_int ev_int ⟨by decide, by decide, by decide⟩) (by decide)) evs_nil))) (small63 hl) (sv_nil (sv_nil ⟨_, rfl⟩))
  · rintro ρ' ⟨r3, rfl⟩
    refine sv_freeze 2 rfl (sv_ret (ev_var 2) ?_)
    rw [List.length_map, List.take_length]
    cases b with
    | true =>
      unfold goodW
      rw [if_pos rfl, List.map_map]
      rfl
    | false =>
      unfold goodC
      rw [if_neg (by decide), List.map_map]
      rfl
/-! _law_two -/
def Two (d : D) : Prop := ∃ a b p q m, d = moreD a b p q m ∧ Mid (a - p) ∧ Mid (b - q) ∧ m = dist (a - p) (b - q)
theorem sc_l_two : FnScope ["_law_script", "_law_one", "_law_cell", "_law_x", "_law_y"] ["_law_script"] (defScope (top 44)) := ⟨rfl, rfl, rfl, by decide +kernel, rfl, by decide +kernel, by decide +kernel⟩
def twoD (ns : List Int) : D :=
  let a := ns.getD 3 0 % 2001 - 1000
  let b := ns.getD 4 0 % 10 ^ 30
  let c := ns.getD 5 0
  let x := if c / 49 % 3 = 1 then 0 else c % 7 - 3
  let y := if c / 49 % 3 = 1 then 0 else c / 7 % 7 - 3
  moreD a b (a + x) (b + y) (maxL [x, -x, y, -y, x + y, -x - y])
theorem two_ok (ns : List Int) : Two (twoD ns) := by
  refine ⟨_, _, _, _, _, rfl, ?_, ?_, ?_⟩
  · unfold Mid
    split <;> omega
  · unfold Mid
    split <;> omega
  · rw [rc_dist, ← dist_neg]
    congr 1 <;> omega
def c_l_two (ds : List D) (r : D) : Prop := ∃ ns : List Int, ds = [.lst (ns.map .int)] ∧ r = twoD ns
theorem fl_two (T : Top K mg L) : Fn P w K mg base L "_law_two" 2 c_l_two := by
  refine fn_def T.l_two sc_l_two (by rintro ds r ⟨_, rfl, _⟩; rfl) fun f cdv A outer s H E hr ds r hc => ?_
  obtain ⟨ns, rfl, rfl⟩ := hc
  have hN := sc_l_two.nd
  refine sv_set 1 (ev_tup (evs_cons (ev_sub (ev_mod (ev_call (fl_cell_at T) hr (evs_cons (ev_var 0) (evs_cons ev_int evs_nil)) ⟨_, 3, rfl, rfl⟩) ev_int (by decide)) ev_int) (evs_cons (ev_mod (ev_call (fl_cell_at T) hr (evs_cons (ev_var 0) (evs_cons ev_int evs_nil)) ⟨_, 4, rfl, rfl⟩) (ev_pow ev_int ev_int ⟨by decide, by decide, by decide⟩) (by decide)) evs_nil))) ?_
  refine sv_set 2 (ev_call (fl_cell_at T) hr (evs_cons (ev_var 0) (evs_cons ev_int evs_nil)) ⟨_, 5, rfl, rfl⟩) ?_
  refine sv_set 3 (ev_sub (ev_mod (ev_var 2) ev_int (by decide)) ev_int) ?_
  refine sv_set 4 (ev_sub (ev_mod (ev_fdiv (ev_var 2) ev_int ⟨by decide, by decide⟩) ev_int (by decide)) ev_int) ?_
  have fin : ∀ x y : Int, SV (cxOf CX0 P w K mg base ["_law_script", "_law_one", "_law_cell", "_law_x", "_law_y"] "_law_two" (defScope (top 44)) f cdv A outer s H E).nox L [.v (.lst (ns.map .int)), .v (cell (ns.getD 3 0 % 2001 - 1000) (ns.getD 4 0 % 10 ^ 30)), .v (.int (ns.getD 5 0)), .v (.int x), .v (.int y)]
      [(defBody (top 44)).getD 5 (.Pass ⟨0, 0, 0, 0⟩)] { nx := fun _ => False, rt := fun d => d = moreD (ns.getD 3 0 % 2001 - 1000) (ns.getD 4 0 % 10 ^ 30) (ns.getD 3 0 % 2001 - 1000 + x) (ns.getD 4 0 % 10 ^ 30 + y) (maxL [x, -x, y, -y, x + y, -x - y]) } := fun x y =>
    sv_ret (ev_tup (evs_cons (ev_var 1) (evs_cons (ev_tup (evs_cons (ev_add (ev_t0 (ev_var 1) ev_int) (ev_var 3)) (evs_cons (ev_add (ev_t1 (ev_var 1) ev_int) (ev_var 4)) evs_nil))) (evs_cons (ev_maxL (ns := [x, -x, y, -y, x + y, -x - y]) (ev_lst (evs_cons (ev_var 3) (evs_cons (ev_neg (ev_var 3)) (evs_cons (ev_var 4) (evs_cons (ev_neg (ev_var 4)) (evs_cons (ev_add (ev_var 3) (ev_var 4)) (evs_cons (ev_sub (ev_neg (ev_var 3)) (ev_var 4)) evs_nil))))))) (by simp) T.b_max) evs_nil)))) rfl
  have e0 : ∀ {x y : Int}, (ns.getD 5 0 / 49 % 3 = 1 → x = 0 ∧ y = 0) → (¬ ns.getD 5 0 / 49 % 3 = 1 → x = ns.getD 5 0 % 7 - 3 ∧ y = ns.getD 5 0 / 7 % 7 - 3) → moreD (ns.getD 3 0 % 2001 - 1000) (ns.getD 4 0 % 10 ^ 30) (ns.getD 3 0 % 2001 - 1000 + x) (ns.getD 4 0 % 10 ^ 30 + y) (maxL [x, -x, y, -y, x + y, -x - y]) = twoD ns := fun {x y} h1 h2 => by
    unfold twoD
    by_cases h : ns.getD 5 0 / 49 % 3 = 1
    · obtain ⟨rfl, rfl⟩ := h1 h
      simp only [if_pos h]
    · obtain ⟨rfl, rfl⟩ := h2 h
      simp only [if_neg h]
  refine sv_if (tv_eq hr (ev_mod (ev_fdiv (ev_var 2) ev_int ⟨by decide, by decide⟩) ev_int (by decide)) ev_int) (fun z => ?_) (fun z => ?_)
  · rw [eqD_int] at z
    have z' := of_decide_eq_true z
    refine sv_set 3 ev_int (sv_set 4 ev_int (sv_nil ?_))
    exact (fin 0 0).imp (fun _ z => z.elim) (fun d hd => hd.trans (e0 (fun _ => ⟨rfl, rfl⟩) fun h => absurd z' h)) (fun _ z => z.elim) (fun _ z => z.elim) fun _ z => z.elim
  · rw [eqD_int] at z
    have z' := of_decide_eq_false z
    refine sv_nil ?_
    exact (fin _ _).imp (fun _ z => z.elim) (fun d hd => hd.trans (e0 (fun h => absurd h z') fun _ => ⟨rfl, rfl⟩)) (fun _ z => z.elim) (fun _ z => z.elim) fun _ z => z.elim
end
end K02

set_option maxHeartbeats 4000000
set_option exponentiation.threshold 2000
namespace K02
open PySem L2 Z M
section
variable {P : Program} {w : World} {K : PySem.W.Frag} {mg : Str → Option Value} {base : Heap} {L : Kl}
theorem cut_to (xs : List D) (n : Nat) : cutD xs none (some (n : Int)) = xs.take n := by
  unfold cutD
  rw [HT.sIx_none, HT.sIx_nat, List.drop_zero, Nat.sub_zero]
  by_cases h : n ≤ xs.length
  · rw [Nat.min_eq_left h]
  · rw [Nat.min_eq_right (by omega), List.take_length, List.take_of_length_le (by omega)]
theorem cut_from (xs : List D) (n : Nat) : cutD xs (some (n : Int)) none = xs.drop n := by
  unfold cutD
  rw [HT.sIx_none, HT.sIx_nat]
  by_cases h : n ≤ xs.length
  · rw [Nat.min_eq_left h, List.take_of_length_le (by rw [List.length_drop]; omega)]
  · rw [Nat.min_eq_right (by omega), Nat.sub_self, List.take_zero, List.drop_of_length_le (by omega)]
theorem cut_in (xs : List D) (n m : Nat) : cutD xs (some (n : Int)) (some (m : Int)) = (xs.drop n).take (m - n) := by
  unfold cutD
  rw [HT.sIx_nat, HT.sIx_nat]
  by_cases h : n ≤ xs.length
  · rw [Nat.min_eq_left h]
    by_cases h2 : m ≤ xs.length
    · rw [Nat.min_eq_left h2]
    · rw [Nat.min_eq_right (by omega), List.take_of_length_le (by rw [List.length_drop]; omega), List.take_of_length_le (by rw [List.length_drop]; omega)]
  · rw [show min n xs.length = xs.length by omega, List.drop_of_length_le (Nat.le_refl _), List.drop_of_length_le (by omega)]
    simp
abbrev nmIn : List Str := ["_law_script", "_law_way", "_law_more", "_law_kind", "_law_good", "_law_at", "_law_bad", "_law_mixed", "_law_handed", "_law_names_here", "_law_told_here"]
theorem sc_l_in_list : FnScope nmIn ["_law_script", "_law_way", "_law_more"] (defScope (top 43)) := ⟨rfl, rfl, rfl, by decide +kernel, rfl, by decide +kernel, by decide +kernel⟩
/-- behind the making of the list -/
theorem in_tail (T : Top K mg L) {f : Addr} {cdv : Value} {A : Around} {outer : List Env} {s : Shared} {H : Hp} {E : XK} (hr : Room 9 (A.deeper (PyProof.Rows.envOfC "_law_in_list" (defScope (top 43)) s.heap.objs.size f cdv))) {a b p q m : Int} {kind : Str} {c n : Nat} {gd extra : List D} {bad d0 d1 : D}
    (hn : n ≤ gd.length) (hl : gd.length ≤ 40) (hx : extra.length ≤ 1) (hnm : namesD c = .lst [.str kind, .str "value"]) (okN : okq (.lst [.str kind, .str "value"]) = true) (hbad : BadCall a b p q kind (.lst (gd.take n ++ bad :: (gd.drop n ++ extra))) c (some (n : Int)))
    (hok : ∃ z, OkCall a b p q kind (.lst gd) z) (okT : okq (.lst (gd.take n)) = true) (okD : okq (.lst (gd.drop n)) = true) :
    SV (cxOf CX0 P w K mg base nmIn "_law_in_list" (defScope (top 43)) f cdv A outer s H E).nox L [.v d0, .v d1, .v (moreD a b p q m), .v (.str kind), .v (.lst gd), .v (.int (n : Int)), .v bad, .v (.lst (gd.take n ++ bad :: (gd.drop n ++ extra))), .no, .no, .no]
      ((defBody (top 43)).drop 6) { nx := fun _ => False, rt := fun d => d = .bl true } := by
  have hN := sc_l_in_list.nd
  refine sv_set 8 (ev_list (ev_var 7) rfl T.b_list) ?_
  refine sv_asgG (ev_call (fl_told T) hr (evs_cons (ev_var 3) (evs_cons (ev_var 8) (evs_cons (ev_var 2) evs_nil))) ⟨_, _, _, _, _, _, _, rfl, .inr ⟨_, _, hbad, rfl⟩⟩) (gv_pair 9 10) ⟨_, _, rfl⟩ ?_
  rw [hnm]
  refine sv_ifF (WV.tv (wv_or (tv_ne hr (ev_var 9) (ev_lst (evs_cons (ev_var 3) (evs_cons ev_str evs_nil))) okN okN) (fun _ => (wv_or (tv_not (tv_val (ev_call (fl_whole T) (hr.mono (by decide)) (evs_cons (ev_var 10) evs_nil) ⟨_, rfl, rfl⟩))) (fun _ => (wv_or1 (tv_ne hr (ev_var 10) (ev_var 5)))))))) (by rw [eqD_self, show eqD (atD (some (n : Int))) (.int (n : Int)) = true from eqD_self _]; rfl) ?_
  refine sv_ifF (WV.tv (wv_or (tv_not (tv_val (ev_call (fl_by_base T) (hr.mono (by decide)) (evs_cons (ev_var 3) (evs_cons (ev_var 8) (evs_cons (ev_var 2) evs_nil))) ⟨_, _, _, _, _, _, _, _, _, rfl, hbad, rfl⟩))) (fun _ => (wv_or1 (tv_ne hr (ev_len (ev_var 8) rfl T.b_len) (ev_len (ev_var 7) rfl T.b_len)))))) (by rw [eqD_self]; rfl) ?_
  have e1 : cutD (gd.take n ++ bad :: (gd.drop n ++ extra)) none (some (n : Int)) = gd.take n := by
    rw [cut_to, List.take_append_of_le_length (by rw [List.length_take]; omega), List.take_of_length_le (by rw [List.length_take]; omega)]
  have e2 : cutD gd none (some (n : Int)) = gd.take n := cut_to gd n
  have e3 : cutD gd (some (n : Int)) none = gd.drop n := cut_from gd n
  have e4 : cutD (gd.take n ++ bad :: (gd.drop n ++ extra)) (some ((n : Int) + 1)) (some ((n : Int) + 1 + (gd.length : Int) - (n : Int))) = gd.drop n := by
    have k1 : ((n : Int) + 1) = ((n + 1 : Nat) : Int) := by omega
    have k2 : ((n : Int) + 1 + (gd.length : Int) - (n : Int)) = ((gd.length + 1 : Nat) : Int) := by omega
    rw [k2, k1, cut_in]
    have h1 : (gd.take n).length = n := by rw [List.length_take]; omega
    rw [List.drop_append, List.drop_of_length_le (by omega), h1, List.nil_append, show n + 1 - n = 1 by omega, List.drop_succ_cons, List.drop_zero, show gd.length + 1 - (n + 1) = (gd.drop n).length by rw [List.length_drop]; omega]
    simp
  refine sv_ifF (WV.tv (wv_or (tv_ne hr (ev_slice (ev_var 8) pv_none (pv_some (ev_var 5))) (ev_slice (ev_var 4) pv_none (pv_some (ev_var 5))) (by rw [e1]; exact okT) (by rw [e2]; exact okT)) (fun _ => (wv_or1 (tv_ne hr (ev_slice (ev_var 8) (pv_some (ev_add (ev_var 5) ev_int)) (pv_some (ev_sub (ev_add (ev_add (ev_var 5) ev_int) (ev_len (ev_var 4) rfl T.b_len)) (ev_var 5)))) (ev_slice (ev_var 4) (pv_some (ev_var 5)) pv_none) (by rw [e4]; exact okD) (by rw [e3]; exact okD)))))) (by rw [e1, e2, e3, e4, eqD_self, eqD_self]; rfl) ?_
  exact sv_ret (ev_eq hr (ev_call (fl_told T) hr (evs_cons (ev_var 3) (evs_cons (ev_var 4) (evs_cons (ev_var 2) evs_nil))) ⟨_, _, _, _, _, _, _, rfl, .inl ⟨hok, rfl⟩⟩) (ev_tup (evs_cons ev_non (evs_cons ev_non evs_nil)))) (by rw [eqD_self])
end
end K02

set_option maxHeartbeats 4000000
set_option exponentiation.threshold 2000
namespace K02
open PySem L2 Z M
section
variable {P : Program} {w : World} {K : PySem.W.Frag} {mg : Str → Option Value} {base : Heap} {L : Kl}
theorem okW (ns : List Int) (n : Nat) : okq (.lst (((goodW ns).map D.int).take n)) = true := by rw [← List.map_take]; exact ok_ints _
theorem okWd (ns : List Int) (n : Nat) : okq (.lst (((goodW ns).map D.int).drop n)) = true := by rw [← List.map_drop]; exact ok_ints _
theorem okC (ns : List Int) (n : Nat) : okq (.lst (((goodC ns).map cellP).take n)) = true := by rw [← List.map_take]; exact ok_cells _
theorem okCd (ns : List Int) (n : Nat) : okq (.lst (((goodC ns).map cellP).drop n)) = true := by rw [← List.map_drop]; exact ok_cells _
def c_l_in_list (ds : List D) (r : D) : Prop := ∃ (ns : List Int) (b : Bool) (x y p q m : Int), ds = [.lst (ns.map .int), .bl b, moreD x y p q m] ∧ r = .bl true
theorem fl_in_list (T : Top K mg L) : Fn P w K mg base L "_law_in_list" 10 c_l_in_list := by
  refine fn_def T.l_in_list sc_l_in_list (by rintro ds r ⟨_, _, _, _, _, _, _, rfl, _⟩; rfl) fun f cdv A outer s H E hr ds r hc => ?_
  obtain ⟨ns, b, x, y, p, q, m, rfl, rfl⟩ := hc
  have hN := sc_l_in_list.nd
  cases b with
  | true =>
    have hg := goodW_len ns
    refine sv_set 3 (d := .str "way") (ev_ix (ev_lst (evs_cons ev_str (evs_cons ev_str evs_nil))) (ev_toIntB (ev_var 1) T.b_int) rfl rfl) ?_
    refine sv_set 4 (d := .lst ((goodW ns).map .int)) (ev_call (fl_list T) (hr.mono (by decide)) (evs_cons (ev_var 0) (evs_cons (ev_var 1) evs_nil)) ⟨ns, true, rfl, rfl⟩) ?_
    refine sv_set 5 (ev_mod (ev_call (fl_cell_at T) (hr.mono (by decide)) (evs_cons (ev_var 0) (evs_cons ev_int evs_nil)) ⟨_, 1, rfl, rfl⟩) (ev_add (ev_len (ev_var 4) rfl T.b_len) ev_int) (by omega)) ?_
    obtain ⟨n, en⟩ : ∃ n : Nat, ns.getD 1 0 % ((((goodW ns).map D.int).length : Int) + 1) = (n : Int) := ⟨(ns.getD 1 0 % ((((goodW ns).map D.int).length : Int) + 1)).toNat, by have := Int.emod_nonneg (ns.getD 1 0) (show ((((goodW ns).map D.int).length : Int) + 1) ≠ 0 by omega); omega⟩
    have hn : n ≤ ((goodW ns).map D.int).length := by have := Int.emod_lt_of_pos (ns.getD 1 0) (show 0 < ((((goodW ns).map D.int).length : Int) + 1) by omega); omega
    rw [en]
    have hl : ((goodW ns).map D.int).length ≤ 40 := by rw [List.length_map]; exact hg
    obtain ⟨bk, bw⟩ := noWay_ok (ns.getD 2 0)
    refine sv_set 6 (d := noWayD (ns.getD 2 0)) (ev_ix (ev_lst (evs_cons (ev_call (fl_no_cell T) (hr.mono (by decide)) (evs_cons (ev_call (fl_cell_at T) (hr.mono (by decide)) (evs_cons (ev_var 0) (evs_cons ev_int evs_nil)) ⟨_, 2, rfl, rfl⟩) evs_nil) ⟨_, rfl, rfl⟩) (evs_cons (ev_call (fl_no_way T) (hr.mono (by decide)) (evs_cons (ev_call (fl_cell_at T) (hr.mono (by decide)) (evs_cons (ev_var 0) (evs_cons ev_int evs_nil)) ⟨_, 2, rfl, rfl⟩) evs_nil) ⟨_, rfl, rfl⟩) evs_nil))) (ev_toIntB (ev_var 1) T.b_int) rfl rfl) ?_
    refine sv_set 7 (EL.ev (el_cat (EL.ev (el_cat (ev_slice (ev_var 4) pv_none (pv_some (ev_var 5))) (ev_lst (evs_cons (ev_var 6) evs_nil)) (Nat.le_of_lt (small63 (by rw [cut_to, List.length_take]; simp only [List.length_cons, List.length_nil]; omega))))) (ev_slice (ev_var 4) (pv_some (ev_var 5)) pv_none) (Nat.le_of_lt (small63 (by rw [cut_to, cut_from, List.length_append, List.length_take, List.length_drop]; simp only [List.length_cons, List.length_nil]; omega))))) ?_
    rw [cut_to, cut_from, List.append_assoc, List.singleton_append]
    have bad : ∀ extra : List D, BadCall x y p q "way" (.lst (((goodW ns).map D.int).take n ++ noWayD (ns.getD 2 0) :: (((goodW ns).map D.int).drop n ++ extra))) 2 (some (n : Int)) := fun extra => by
      have h1 : ((goodW ns).take n).length = n := by rw [List.length_map] at hn; rw [List.length_take]; omega
      have := BadCall.way (a := x) (b := y) (p := p) (q := q) ((goodW ns).take n) (noWayD (ns.getD 2 0)) (((goodW ns).map D.int).drop n ++ extra) (fun k hk => goodW_ways ns k (List.mem_of_mem_take hk)) bk bw (by rw [h1]; rw [List.length_map] at hn; omega)
      rw [h1, List.map_take] at this
      exact this
    have ok : ∃ z, OkCall x y p q "way" (.lst ((goodW ns).map D.int)) z := ⟨_, .way _ (goodW_ways ns)⟩
    refine sv_if (tv_eq hr (ev_mod (ev_fdiv (ev_call (fl_cell_at T) (hr.mono (by decide)) (evs_cons (ev_var 0) (evs_cons ev_int evs_nil)) ⟨_, 1, rfl, rfl⟩) ev_int ⟨by decide, by decide⟩) ev_int (by decide)) ev_int) (fun z => ?_) (fun z => ?_)
    · refine sv_set 7 (EL.ev (el_cat (ev_var 7) (ev_lst (evs_cons (ev_ix (d := noWayD (ns.getD 4 0)) (ev_lst (evs_cons (ev_call (fl_no_cell T) (hr.mono (by decide)) (evs_cons (ev_call (fl_cell_at T) (hr.mono (by decide)) (evs_cons (ev_var 0) (evs_cons ev_int evs_nil)) ⟨_, 4, rfl, rfl⟩) evs_nil) ⟨_, rfl, rfl⟩) (evs_cons (ev_call (fl_no_way T) (hr.mono (by decide)) (evs_cons (ev_call (fl_cell_at T) (hr.mono (by decide)) (evs_cons (ev_var 0) (evs_cons ev_int evs_nil)) ⟨_, 4, rfl, rfl⟩) evs_nil) ⟨_, rfl, rfl⟩) evs_nil))) (ev_toIntB (ev_var 1) T.b_int) rfl rfl) evs_nil)) (Nat.le_of_lt (small63 (by rw [List.length_append, List.length_cons, List.length_take, List.length_drop]; simp only [List.length_cons, List.length_nil]; omega))))) (sv_nil ?_)
      rw [List.append_assoc, List.cons_append]
      exact (in_tail (kind := "way") (c := 2) (extra := [noWayD (ns.getD 4 0)]) T hr hn hl (Nat.le_refl 1) rfl (by decide +kernel) (bad _) ok (okW ns n) (okWd ns n)).imp (fun _ z => z.elim) (fun d hd => hd) (fun _ z => z.elim) (fun _ z => z.elim) fun _ z => z.elim
    · refine sv_nil ?_
      have := (in_tail (P := P) (w := w) (base := base) (outer := outer) (s := s) (H := H) (E := E) (m := m) (d0 := .lst (ns.map .int)) (d1 := .bl true) (kind := "way") (c := 2) T hr hn hl (show ([] : List D).length ≤ 1 by decide) rfl (by decide +kernel) (bad []) ok (okW ns n) (okWd ns n)).imp (E' := { nx := fun _ => D.bl true = .non, rt := fun d => d = .bl true }) (fun _ z => z.elim) (fun d hd => hd) (fun _ z => z.elim) (fun _ z => z.elim) fun _ z => z.elim
      rw [List.append_nil] at this
      exact this
  | false =>
    have hg := goodC_len ns
    refine sv_set 3 (d := .str "cell") (ev_ix (ev_lst (evs_cons ev_str (evs_cons ev_str evs_nil))) (ev_toIntB (ev_var 1) T.b_int) rfl rfl) ?_
    refine sv_set 4 (d := .lst ((goodC ns).map cellP)) (ev_call (fl_list T) (hr.mono (by decide)) (evs_cons (ev_var 0) (evs_cons (ev_var 1) evs_nil)) ⟨ns, false, rfl, rfl⟩) ?_
    refine sv_set 5 (ev_mod (ev_call (fl_cell_at T) (hr.mono (by decide)) (evs_cons (ev_var 0) (evs_cons ev_int evs_nil)) ⟨_, 1, rfl, rfl⟩) (ev_add (ev_len (ev_var 4) rfl T.b_len) ev_int) (by omega)) ?_
    obtain ⟨n, en⟩ : ∃ n : Nat, ns.getD 1 0 % ((((goodC ns).map cellP).length : Int) + 1) = (n : Int) := ⟨(ns.getD 1 0 % ((((goodC ns).map cellP).length : Int) + 1)).toNat, by have := Int.emod_nonneg (ns.getD 1 0) (show ((((goodC ns).map cellP).length : Int) + 1) ≠ 0 by omega); omega⟩
    have hn : n ≤ ((goodC ns).map cellP).length := by have := Int.emod_lt_of_pos (ns.getD 1 0) (show 0 < ((((goodC ns).map cellP).length : Int) + 1) by omega); omega
    rw [en]
    have hl : ((goodC ns).map cellP).length ≤ 40 := by rw [List.length_map]; exact hg
    obtain ⟨bk, bw⟩ := noCell_ok (ns.getD 2 0)
    refine sv_set 6 (d := noCellD (ns.getD 2 0)) (ev_ix (ev_lst (evs_cons (ev_call (fl_no_cell T) (hr.mono (by decide)) (evs_cons (ev_call (fl_cell_at T) (hr.mono (by decide)) (evs_cons (ev_var 0) (evs_cons ev_int evs_nil)) ⟨_, 2, rfl, rfl⟩) evs_nil) ⟨_, rfl, rfl⟩) (evs_cons (ev_call (fl_no_way T) (hr.mono (by decide)) (evs_cons (ev_call (fl_cell_at T) (hr.mono (by decide)) (evs_cons (ev_var 0) (evs_cons ev_int evs_nil)) ⟨_, 2, rfl, rfl⟩) evs_nil) ⟨_, rfl, rfl⟩) evs_nil))) (ev_toIntB (ev_var 1) T.b_int) rfl rfl) ?_
    refine sv_set 7 (EL.ev (el_cat (EL.ev (el_cat (ev_slice (ev_var 4) pv_none (pv_some (ev_var 5))) (ev_lst (evs_cons (ev_var 6) evs_nil)) (Nat.le_of_lt (small63 (by rw [cut_to, List.length_take]; simp only [List.length_cons, List.length_nil]; omega))))) (ev_slice (ev_var 4) (pv_some (ev_var 5)) pv_none) (Nat.le_of_lt (small63 (by rw [cut_to, cut_from, List.length_append, List.length_take, List.length_drop]; simp only [List.length_cons, List.length_nil]; omega))))) ?_
    rw [cut_to, cut_from, List.append_assoc, List.singleton_append]
    have bad : ∀ extra : List D, BadCall x y p q "cell" (.lst (((goodC ns).map cellP).take n ++ noCellD (ns.getD 2 0) :: (((goodC ns).map cellP).drop n ++ extra))) 1 (some (n : Int)) := fun extra => by
      have h1 : ((goodC ns).take n).length = n := by rw [List.length_map] at hn; rw [List.length_take]; omega
      have := BadCall.cell (a := x) (b := y) (p := p) (q := q) ((goodC ns).take n) (noCellD (ns.getD 2 0)) (((goodC ns).map cellP).drop n ++ extra) bk bw (by rw [h1]; rw [List.length_map] at hn; omega)
      rw [h1, List.map_take] at this
      exact this
    have ok : ∃ z, OkCall x y p q "cell" (.lst ((goodC ns).map cellP)) z := ⟨_, .cell _ (by omega)⟩
    refine sv_if (tv_eq hr (ev_mod (ev_fdiv (ev_call (fl_cell_at T) (hr.mono (by decide)) (evs_cons (ev_var 0) (evs_cons ev_int evs_nil)) ⟨_, 1, rfl, rfl⟩) ev_int ⟨by decide, by decide⟩) ev_int (by decide)) ev_int) (fun z => ?_) (fun z => ?_)
    · refine sv_set 7 (EL.ev (el_cat (ev_var 7) (ev_lst (evs_cons (ev_ix (d := noCellD (ns.getD 4 0)) (ev_lst (evs_cons (ev_call (fl_no_cell T) (hr.mono (by decide)) (evs_cons (ev_call (fl_cell_at T) (hr.mono (by decide)) (evs_cons (ev_var 0) (evs_cons ev_int evs_nil)) ⟨_, 4, rfl, rfl⟩) evs_nil) ⟨_, rfl, rfl⟩) (evs_cons (ev_call (fl_no_way T) (hr.mono (by decide)) (evs_cons (ev_call (fl_cell_at T) (hr.mono (by decide)) (evs_cons (ev_var 0) (evs_cons ev_int evs_nil)) ⟨_, 4, rfl, rfl⟩) evs_nil) ⟨_, rfl, rfl⟩) evs_nil))) (ev_toIntB (ev_var 1) T.b_int) rfl rfl) evs_nil)) (Nat.le_of_lt (small63 (by rw [List.length_append, List.length_cons, List.length_take, List.length_drop]; simp only [List.length_cons, List.length_nil]; omega))))) (sv_nil ?_)
      rw [List.append_assoc, List.cons_append]
      exact (in_tail (kind := "cell") (c := 1) (extra := [noCellD (ns.getD 4 0)]) T hr hn hl (Nat.le_refl 1) rfl (by decide +kernel) (bad _) ok (okC ns n) (okCd ns n)).imp (fun _ z => z.elim) (fun d hd => hd) (fun _ z => z.elim) (fun _ z => z.elim) fun _ z => z.elim
    · refine sv_nil ?_
      have := (in_tail (P := P) (w := w) (base := base) (outer := outer) (s := s) (H := H) (E := E) (m := m) (d0 := .lst (ns.map .int)) (d1 := .bl false) (kind := "cell") (c := 1) T hr hn hl (show ([] : List D).length ≤ 1 by decide) rfl (by decide +kernel) (bad []) ok (okC ns n) (okCd ns n)).imp (E' := { nx := fun _ => D.bl true = .non, rt := fun d => d = .bl true }) (fun _ z => z.elim) (fun d hd => hd) (fun _ z => z.elim) (fun _ z => z.elim) fun _ z => z.elim
      rw [List.append_nil] at this
      exact this
end
end K02

set_option maxHeartbeats 4000000
set_option exponentiation.threshold 2000
namespace K02
open PySem L2 Z M
section
variable {P : Program} {w : World} {K : PySem.W.Frag} {mg : Str → Option Value} {base : Heap} {L : Kl}
abbrev nmLaw : List Str := ["_law_script", "_law_more", "_law_way", "_law_kind", "_law_most", "_law_thing", "_law_due"]
theorem sc_law : FnScope nmLaw ["_law_script"] (defScope (top 45)) := ⟨rfl, rfl, rfl, by decide +kernel, rfl, by decide +kernel, by decide +kernel⟩
def cLaw (ds : List D) (r : D) : Prop := ∃ ns : List Int, ds = [.lst (ns.map .int)] ∧ ns.length ≤ 63 ∧ r = .bl true
/-- behind the drawing of what is refused -/
theorem law_tail (T : Top K mg L) {f : Addr} {cdv : Value} {A : Around} {outer : List Env} {s : Shared} {H : Hp} {E : XK} (hr : Room 10 (A.deeper (PyProof.Rows.envOfC "law" (defScope (top 45)) s.heap.objs.size f cdv))) {a b p q m : Int} {kind due : Str} {c : Nat} {thing d0 d2 d4 : D}
    (hnm : namesD c = .lst [.str due, .str "value"]) (okN : okq (.tup [.lst [.str due, .str "value"], .non]) = true) (hbad : BadCall a b p q kind thing c none) (hok : ∃ z, OkCall a b p q kind (.int 0) z) :
    SV (cxOf CX0 P w K mg base nmLaw "law" (defScope (top 45)) f cdv A outer s H E).nox L [.v d0, .v (moreD a b p q m), .v d2, .v (.str kind), .v d4, .v thing, .v (.str due)]
      ((defBody (top 45)).drop 10) { nx := fun _ => False, rt := fun d => d = .bl true } := by
  have hN := sc_law.nd
  refine sv_ifF (tv_ne (da := .tup [.lst [.str due, .str "value"], .non]) hr (ev_call (fl_told T) (hr.mono (by decide)) (evs_cons (ev_var 3) (evs_cons (ev_var 5) (evs_cons (ev_var 1) evs_nil))) ⟨_, _, _, _, _, _, _, rfl, .inr ⟨_, _, hbad, by rw [hnm]; rfl⟩⟩) (ev_tup (evs_cons (ev_lst (evs_cons (ev_var 6) (evs_cons ev_str evs_nil))) (evs_cons ev_non evs_nil))) okN okN) (by rw [eqD_self]; rfl) ?_
  exact sv_ret (ev_and (ev_call (fl_by_base T) (hr.mono (by decide)) (evs_cons (ev_var 3) (evs_cons (ev_var 5) (evs_cons (ev_var 1) evs_nil))) ⟨_, _, _, _, _, _, _, _, _, rfl, hbad, rfl⟩) (fun _ => (ev_one (ev_eq hr (ev_call (fl_told T) (hr.mono (by decide)) (evs_cons (ev_var 3) (evs_cons ev_int (evs_cons (ev_var 1) evs_nil))) ⟨_, _, _, _, _, _, _, rfl, .inl ⟨hok, rfl⟩⟩) (ev_tup (evs_cons ev_non (evs_cons ev_non evs_nil))))))) (by rw [eqD_self]; rfl)
theorem law_ok (T : Top K mg L) {f : Addr} {fd : FuncData} (F : DefT K "law" "law" (top 45) ["_law_script"] f fd) : FnOk P w K mg base CX0 11 f fd ["_law_script"] (spC K L cLaw) := by
  refine fn_okT F sc_law (by rintro ds r ⟨_, rfl, _⟩; rfl) fun cdv A outer s H E hr ds r hc => ?_
  obtain ⟨ns, rfl, hl, rfl⟩ := hc
  have hN := sc_law.nd
  obtain ⟨a, b, p, q, m, e2, m1, m2, em⟩ := two_ok ns
  refine sv_set 1 (d := moreD a b p q m) (ev_call (fl_two T) (hr.mono (by decide)) (evs_cons (ev_var 0) evs_nil) ⟨_, rfl, e2.symm⟩) ?_
  refine sv_set 2 (ev_mod (ev_call (fl_cell_at T) (hr.mono (by decide)) (evs_cons (ev_var 0) (evs_cons ev_int evs_nil)) ⟨_, 0, rfl, rfl⟩) ev_int (by decide)) ?_
  obtain ⟨bk, bb⟩ := noCell_ok (ns.getD 2 0)
  refine sv_ifF (tv_not (tv_val (ev_call (fl_kinds T) (hr.mono (by decide)) (evs_cons (ev_call (fl_no_cell T) (hr.mono (by decide)) (evs_cons (ev_call (fl_cell_at T) (hr.mono (by decide)) (evs_cons (ev_var 0) (evs_cons ev_int evs_nil)) ⟨_, 2, rfl, rfl⟩) evs_nil) ⟨_, rfl, rfl⟩) (evs_cons (ev_t0 (ev_var 1) ev_int) evs_nil)) ⟨_, _, _, rfl, bk, bb, rfl⟩))) rfl ?_
  have hw : 0 ≤ ns.getD 0 0 % 6 ∧ ns.getD 0 0 % 6 < 6 := by omega
  generalize ns.getD 0 0 % 6 = v at *
  refine sv_if (tv_lt (ev_var 2) ev_int) (fun z => ?_) (fun z => ?_)
  · exact sv_ret (ev_call (fl_in_list T) hr (evs_cons (ev_var 0) (evs_cons (ev_eq hr (ev_var 2) ev_int) (evs_cons (ev_var 1) evs_nil))) ⟨_, _, _, _, _, _, _, rfl, rfl⟩) rfl
  have z' : ¬ v < 2 := of_decide_eq_false z
  refine sv_nil ?_
  have hm0 : 0 ≤ m := by rw [em]; exact dist_nonneg _ _
  obtain ⟨nk, nc, _⟩ := noNum_ok (ns.getD 2 0) (-1)
  have nc := nc (by decide)
  have np2 : noPoint m (noNumD (ns.getD 2 0) m) := (noNum_ok (ns.getD 2 0) m).2.2 hm0
  rcases (by omega : v = 2 ∨ v = 3 ∨ v = 4 ∨ v = 5) with rfl | rfl | rfl | rfl
  · refine sv_set 3 (d := .str "place") (ev_ix (ev_lst (evs_cons ev_str (evs_cons ev_str (evs_cons ev_str (evs_cons ev_str evs_nil))))) (ev_sub (ev_var 2) ev_int) rfl rfl) ?_
    refine sv_set 4 (ev_neg ev_int) ?_
    refine sv_ifF (tv_eqS (ev_var 3) ev_str) (by decide +kernel) ?_
    refine sv_set 5 (ev_call (fl_no_number T) (hr.mono (by decide)) (evs_cons (ev_call (fl_cell_at T) (hr.mono (by decide)) (evs_cons (ev_var 0) (evs_cons ev_int evs_nil)) ⟨_, 2, rfl, rfl⟩) (evs_cons (ev_var 4) evs_nil)) ⟨_, _, rfl, rfl⟩) ?_
    refine sv_set 6 (ev_var 3) ?_
    refine sv_ifF (tv_eqS (ev_var 3) ev_str) (by decide +kernel) ?_
    exact (law_tail (kind := "place") (due := "place") (c := 3) T hr rfl (by decide +kernel) (.place _ nk nc) ⟨_, .place⟩).imp (fun _ z => z.elim) (fun d hd => hd) (fun _ z => z.elim) (fun _ z => z.elim) fun _ z => z.elim
  · refine sv_set 3 (d := .str "size") (ev_ix (ev_lst (evs_cons ev_str (evs_cons ev_str (evs_cons ev_str (evs_cons ev_str evs_nil))))) (ev_sub (ev_var 2) ev_int) rfl rfl) ?_
    refine sv_set 4 (ev_neg ev_int) ?_
    refine sv_ifF (tv_eqS (ev_var 3) ev_str) (by decide +kernel) ?_
    refine sv_set 5 (ev_call (fl_no_number T) (hr.mono (by decide)) (evs_cons (ev_call (fl_cell_at T) (hr.mono (by decide)) (evs_cons (ev_var 0) (evs_cons ev_int evs_nil)) ⟨_, 2, rfl, rfl⟩) (evs_cons (ev_var 4) evs_nil)) ⟨_, _, rfl, rfl⟩) ?_
    refine sv_set 6 (ev_var 3) ?_
    refine sv_ifF (tv_eqS (ev_var 3) ev_str) (by decide +kernel) ?_
    exact (law_tail (kind := "size") (due := "size") (c := 4) T hr rfl (by decide +kernel) (.size _ nk nc) ⟨_, .size⟩).imp (fun _ z => z.elim) (fun d hd => hd) (fun _ z => z.elim) (fun _ z => z.elim) fun _ z => z.elim
  · refine sv_set 3 (d := .str "stretch") (ev_ix (ev_lst (evs_cons ev_str (evs_cons ev_str (evs_cons ev_str (evs_cons ev_str evs_nil))))) (ev_sub (ev_var 2) ev_int) rfl rfl) ?_
    refine sv_set 4 (ev_neg ev_int) ?_
    refine sv_ifF (tv_eqS (ev_var 3) ev_str) (by decide +kernel) ?_
    refine sv_set 5 (ev_call (fl_no_number T) (hr.mono (by decide)) (evs_cons (ev_call (fl_cell_at T) (hr.mono (by decide)) (evs_cons (ev_var 0) (evs_cons ev_int evs_nil)) ⟨_, 2, rfl, rfl⟩) (evs_cons (ev_var 4) evs_nil)) ⟨_, _, rfl, rfl⟩) ?_
    refine sv_set 6 (ev_var 3) ?_
    refine sv_ifR (tv_eqS (ev_var 3) ev_str) (by decide +kernel) (sv_set 6 ev_str (sv_nil ?_))
    exact (law_tail (kind := "stretch") (due := "size") (c := 4) T hr rfl (by decide +kernel) (.stretch _ nk nc) ⟨_, .stretch⟩).imp (fun _ z => z.elim) (fun d hd => hd) (fun _ z => z.elim) (fun _ z => z.elim) fun _ z => z.elim
  · refine sv_set 3 (d := .str "point") (ev_ix (ev_lst (evs_cons ev_str (evs_cons ev_str (evs_cons ev_str (evs_cons ev_str evs_nil))))) (ev_sub (ev_var 2) ev_int) rfl rfl) ?_
    refine sv_set 4 (ev_neg ev_int) ?_
    refine sv_ifR (tv_eqS (ev_var 3) ev_str) (by decide +kernel) (sv_set 4 (ev_t2 (ev_var 1) ev_int) (sv_nil ?_))
    refine sv_set 5 (ev_call (fl_no_number T) (hr.mono (by decide)) (evs_cons (ev_call (fl_cell_at T) (hr.mono (by decide)) (evs_cons (ev_var 0) (evs_cons ev_int evs_nil)) ⟨_, 2, rfl, rfl⟩) (evs_cons (ev_var 4) evs_nil)) ⟨_, _, rfl, rfl⟩) ?_
    refine sv_set 6 (ev_var 3) ?_
    refine sv_ifF (tv_eqS (ev_var 3) ev_str) (by decide +kernel) ?_
    subst em
    exact (law_tail (kind := "point") (due := "point") (c := 5) T hr rfl (by decide +kernel) (.point _ np2) ⟨_, .point m1 m2⟩).imp (fun _ z => z.elim) (fun d hd => hd) (fun _ z => z.elim) (fun _ z => z.elim) fun _ z => z.elim
end
end K02

set_option maxHeartbeats 4000000
set_option exponentiation.threshold 2000
namespace K02
open PySem L2 Z M
def mkL (C0 C1 C2 C3 C4 C5 C6 : Addr) : Kl := ⟨fun c => match c with | 0 => C0 | 1 => C1 | 2 => C2 | 3 => C3 | 4 => C4 | 5 => C5 | _ => C6, fun c => match c with | 0 => [("standing" : Str)] | _ => []⟩
theorem all_mk {l : PySem.W.OpenLaw} {w : World} {K : PySem.W.Frag} {h : Heap} {mg : Str → Option Value} {fa : Addr} (L0 : Kl) (X : K.In h) (G : h.Ns mainGlobals mg) (hfa : mg "law" = some (.ref fa))
    {C1 C2 C3 C4 C5 C6 f3_0 f4_0 : Addr} {od3_0 an3_0 od4_0 an4_0 : Option Addr} {sl3_0 sl4_0 : Array (Option Value)} {oc3_0 kV3_0 dc3_0 pm3_0 cd3_0 ct3_0 oc4_0 kV4_0 dc4_0 pm4_0 cd4_0 ct4_0 : Value} {nmC1 qnC1 : Str} {bsC1 sbC1 : List Value} {nsC1 : Addr} {snC1 : List Str} {abC1 deC1 : Bool} {coC1 : Option Bool} {nmC2 qnC2 : Str} {bsC2 sbC2 : List Value} {nsC2 : Addr} {snC2 : List Str} {abC2 deC2 : Bool} {coC2 : Option Bool}
    {C0 f30_0 f30_1 f30_2 f30_3 f30_4 f30_5 f30_6 f30_7 : Addr} {od30_0 an30_0 od30_1 an30_1 od30_2 an30_2 od30_3 an30_3 od30_4 an30_4 od30_5 an30_5 od30_6 an30_6 od30_7 an30_7 : Option Addr} {sl30_0 sl30_1 sl30_2 sl30_3 sl30_4 sl30_5 sl30_6 sl30_7 : Array (Option Value)} {oc30_0 kV30_0 dc30_0 pm30_0 cd30_0 ct30_0 oc30_1 kV30_1 dc30_1 pm30_1 cd30_1 ct30_1 oc30_2 kV30_2 dc30_2 pm30_2 cd30_2 ct30_2 oc30_3 kV30_3 dc30_3 pm30_3 cd30_3 ct30_3 oc30_4 kV30_4 dc30_4 pm30_4 cd30_4 ct30_4 oc30_5 kV30_5 dc30_5 pm30_5 cd30_5 ct30_5 oc30_6 kV30_6 dc30_6 pm30_6 cd30_6 ct30_6 oc30_7 kV30_7 dc30_7 pm30_7 cd30_7 ct30_7 : Value}
    {w0 w1 w1_0 w1_1 w1_2 w1_3 w1_4 w1_5 f0 f11 f12 f13 f14 f15 T15 f16 f17 f19 f20 f22 f23 f24 f25 f26 f27 f29 f32 f33 f34 f35 f36 f37 f38 f39 f40 f41 f42 f43 f44 f45 : Addr} {dw0 dw1 dw1_0 dw1_1 dw1_2 dw1_3 dw1_4 dw1_5 od0 an0 od11 an11 od12 an12 od13 an13 od14 an14 od15 an15 dT15 od16 an16 od17 an17 od19 an19 od20 an20 od22 an22 od23 an23 od24 an24 od25 an25 od26 an26 od27 an27 od29 an29 od32 an32 od33 an33 od34 an34 od35 an35 od36 an36 od37 an37 od38 an38 od39 an39 od40 an40 od41 an41 od42 an42 od43 an43 od44 an44 od45 an45 : Option Addr} {sw0 sw1 sw1_0 sw1_1 sw1_2 sw1_3 sw1_4 sw1_5 sl0 sl11 sl12 sl13 sl14 sl15 sT15 sl16 sl17 sl19 sl20 sl22 sl23 sl24 sl25 sl26 sl27 sl29 sl32 sl33 sl34 sl35 sl36 sl37 sl38 sl39 sl40 sl41 sl42 sl43 sl44 sl45 : Array (Option Value)} {oc0 kV0 dc0 pm0 cd0 ct0 oc11 kV11 dc11 pm11 cd11 ct11 oc12 kV12 dc12 pm12 cd12 ct12 oc13 kV13 dc13 pm13 cd13 ct13 oc14 kV14 dc14 pm14 cd14 ct14 oc15 kV15 dc15 pm15 cd15 ct15 oc16 kV16 dc16 pm16 cd16 ct16 oc17 kV17 dc17 pm17 cd17 ct17 oc19 kV19 dc19 pm19 cd19 ct19 oc20 kV20 dc20 pm20 cd20 ct20 oc22 kV22 dc22 pm22 cd22 ct22 oc23 kV23 dc23 pm23 cd23 ct23 oc24 kV24 dc24 pm24 cd24 ct24 oc25 kV25 dc25 pm25 cd25 ct25 oc26 kV26 dc26 pm26 cd26 ct26 oc27 kV27 dc27 pm27 cd27 ct27 oc29 kV29 dc29 pm29 cd29 ct29 oc32 kV32 dc32 pm32 cd32 ct32 oc33 kV33 dc33 pm33 cd33 ct33 oc34 kV34 dc34 pm34 cd34 ct34 oc35 kV35 dc35 pm35 cd35 ct35 oc36 kV36 dc36 pm36 cd36 ct36 oc37 kV37 dc37 pm37 cd37 ct37 oc38 kV38 dc38 pm38 cd38 ct38 oc39 kV39 dc39 pm39 cd39 ct39 oc40 kV40 dc40 pm40 cd40 ct40 oc41 kV41 dc41 pm41 cd41 ct41 oc42 kV42 dc42 pm42 cd42 ct42 oc43 kV43 dc43 pm43 cd43 ct43 oc44 kV44 dc44 pm44 cd44 ct44 oc45 kV45 dc45 pm45 cd45 ct45 : Value} {nw0 nw1 nw1_0 nw1_1 nw1_2 nw1_3 nw1_4 nw1_5 nT15 : Nat} {tkw0_0 tkw0_1 tkw1_0_0 tkw1_0_1 tkw1_1_0 tkw1_1_1 tkw1_2_0 tkw1_2_1 tkw1_3_0 tkw1_3_1 tkw1_4_0 tkw1_4_1 tkw1_5_0 tkw1_5_1 td15_0 : Tok}
    (z_enumerate : PySem.W.nsIn K mainGlobals "enumerate" = some none)
    (z_max : PySem.W.nsIn K mainGlobals "max" = some none)
    (z_list : PySem.W.nsIn K mainGlobals "list" = some none)
    (z_range : PySem.W.nsIn K mainGlobals "range" = some none)
    (z_isinstance : PySem.W.nsIn K mainGlobals "isinstance" = some none)
    (z_int : PySem.W.nsIn K mainGlobals "int" = some none)
    (z_tuple : PySem.W.nsIn K mainGlobals "tuple" = some none)
    (z_abs : PySem.W.nsIn K mainGlobals "abs" = some none)
    (z_sorted : PySem.W.nsIn K mainGlobals "sorted" = some none)
    (z_len : PySem.W.nsIn K mainGlobals "len" = some none)
    (z_bool : PySem.W.nsIn K mainGlobals "bool" = some none)
    (z_ValueError : PySem.W.nsIn K mainGlobals "ValueError" = some none)
    (aw0 : PySem.W.nsIn K mainGlobals "MIDDLE" = some (some (.ref w0)))
    (lw0 : K.lookup w0 = some ⟨.type "tuple", dw0, .seq #[.int 0 tkw0_0, .int 0 tkw0_1] nw0, sw0⟩)
    (aw1 : PySem.W.nsIn K mainGlobals "WAYS" = some (some (.ref w1)))
    (lw1 : K.lookup w1 = some ⟨.type "tuple", dw1, .seq #[.ref w1_0, .ref w1_1, .ref w1_2, .ref w1_3, .ref w1_4, .ref w1_5] nw1, sw1⟩)
    (lw1_0 : K.lookup w1_0 = some ⟨.type "tuple", dw1_0, .seq #[.int 1 tkw1_0_0, .int 0 tkw1_0_1] nw1_0, sw1_0⟩)
    (lw1_1 : K.lookup w1_1 = some ⟨.type "tuple", dw1_1, .seq #[.int 0 tkw1_1_0, .int 1 tkw1_1_1] nw1_1, sw1_1⟩)
    (lw1_2 : K.lookup w1_2 = some ⟨.type "tuple", dw1_2, .seq #[.int (-1) tkw1_2_0, .int 1 tkw1_2_1] nw1_2, sw1_2⟩)
    (lw1_3 : K.lookup w1_3 = some ⟨.type "tuple", dw1_3, .seq #[.int (-1) tkw1_3_0, .int 0 tkw1_3_1] nw1_3, sw1_3⟩)
    (lw1_4 : K.lookup w1_4 = some ⟨.type "tuple", dw1_4, .seq #[.int 0 tkw1_4_0, .int (-1) tkw1_4_1] nw1_4, sw1_4⟩)
    (lw1_5 : K.lookup w1_5 = some ⟨.type "tuple", dw1_5, .seq #[.int 1 tkw1_5_0, .int (-1) tkw1_5_1] nw1_5, sw1_5⟩)
    (a0 : PySem.W.nsIn K mainGlobals "_wall" = some (some (.ref f0)))
    (l0 : K.lookup f0 = some ⟨oc0, od0, .func (PySem.W.fnOf "_wall" "_wall" (defArgs (top 0)) (defBody (top 0)) (defScope (top 0)) .none kV0 dc0 pm0 an0 cd0 ct0), sl0⟩)
    (c0 : PySem.W.codeIn K cd0 "_wall" = true)
    (k0 : PySem.W.keepIn K (.ref f0) = true)
    (a11 : PySem.W.nsIn K mainGlobals "is_whole" = some (some (.ref f11)))
    (l11 : K.lookup f11 = some ⟨oc11, od11, .func (PySem.W.fnOf "is_whole" "is_whole" (defArgs (top 11)) (defBody (top 11)) (defScope (top 11)) .none kV11 dc11 pm11 an11 cd11 ct11), sl11⟩)
    (c11 : PySem.W.codeIn K cd11 "is_whole" = true)
    (k11 : PySem.W.keepIn K (.ref f11) = true)
    (a12 : PySem.W.nsIn K mainGlobals "is_count" = some (some (.ref f12)))
    (l12 : K.lookup f12 = some ⟨oc12, od12, .func (PySem.W.fnOf "is_count" "is_count" (defArgs (top 12)) (defBody (top 12)) (defScope (top 12)) .none kV12 dc12 pm12 an12 cd12 ct12), sl12⟩)
    (c12 : PySem.W.codeIn K cd12 "is_count" = true)
    (k12 : PySem.W.keepIn K (.ref f12) = true)
    (a13 : PySem.W.nsIn K mainGlobals "is_cell" = some (some (.ref f13)))
    (l13 : K.lookup f13 = some ⟨oc13, od13, .func (PySem.W.fnOf "is_cell" "is_cell" (defArgs (top 13)) (defBody (top 13)) (defScope (top 13)) .none kV13 dc13 pm13 an13 cd13 ct13), sl13⟩)
    (c13 : PySem.W.codeIn K cd13 "is_cell" = true)
    (k13 : PySem.W.keepIn K (.ref f13) = true)
    (a14 : PySem.W.nsIn K mainGlobals "is_way" = some (some (.ref f14)))
    (l14 : K.lookup f14 = some ⟨oc14, od14, .func (PySem.W.fnOf "is_way" "is_way" (defArgs (top 14)) (defBody (top 14)) (defScope (top 14)) .none kV14 dc14 pm14 an14 cd14 ct14), sl14⟩)
    (c14 : PySem.W.codeIn K cd14 "is_way" = true)
    (k14 : PySem.W.keepIn K (.ref f14) = true)
    (a15 : PySem.W.nsIn K mainGlobals "plus" = some (some (.ref f15)))
    (l15 : K.lookup f15 = some ⟨oc15, od15, .func (PySem.W.fnOf "plus" "plus" (defArgs (top 15)) (defBody (top 15)) (defScope (top 15)) (.ref T15) kV15 dc15 pm15 an15 cd15 ct15), sl15⟩)
    (c15 : PySem.W.codeIn K cd15 "plus" = true)
    (k15 : PySem.W.keepIn K (.ref f15) = true)
    (t15 : K.lookup T15 = some ⟨.type "tuple", dT15, .seq #[.int 1 td15_0] nT15, sT15⟩)
    (a16 : PySem.W.nsIn K mainGlobals "stepped" = some (some (.ref f16)))
    (l16 : K.lookup f16 = some ⟨oc16, od16, .func (PySem.W.fnOf "stepped" "stepped" (defArgs (top 16)) (defBody (top 16)) (defScope (top 16)) .none kV16 dc16 pm16 an16 cd16 ct16), sl16⟩)
    (c16 : PySem.W.codeIn K cd16 "stepped" = true)
    (k16 : PySem.W.keepIn K (.ref f16) = true)
    (a17 : PySem.W.nsIn K mainGlobals "distance" = some (some (.ref f17)))
    (l17 : K.lookup f17 = some ⟨oc17, od17, .func (PySem.W.fnOf "distance" "distance" (defArgs (top 17)) (defBody (top 17)) (defScope (top 17)) .none kV17 dc17 pm17 an17 cd17 ct17), sl17⟩)
    (c17 : PySem.W.codeIn K cd17 "distance" = true)
    (k17 : PySem.W.keepIn K (.ref f17) = true)
    (a19 : PySem.W.nsIn K mainGlobals "near_numbers" = some (some (.ref f19)))
    (l19 : K.lookup f19 = some ⟨oc19, od19, .func (PySem.W.fnOf "near_numbers" "near_numbers" (defArgs (top 19)) (defBody (top 19)) (defScope (top 19)) .none kV19 dc19 pm19 an19 cd19 ct19), sl19⟩)
    (c19 : PySem.W.codeIn K cd19 "near_numbers" = true)
    (k19 : PySem.W.keepIn K (.ref f19) = true)
    (a20 : PySem.W.nsIn K mainGlobals "nearest" = some (some (.ref f20)))
    (l20 : K.lookup f20 = some ⟨oc20, od20, .func (PySem.W.fnOf "nearest" "nearest" (defArgs (top 20)) (defBody (top 20)) (defScope (top 20)) .none kV20 dc20 pm20 an20 cd20 ct20), sl20⟩)
    (c20 : PySem.W.codeIn K cd20 "nearest" = true)
    (k20 : PySem.W.keepIn K (.ref f20) = true)
    (a22 : PySem.W.nsIn K mainGlobals "check_size" = some (some (.ref f22)))
    (l22 : K.lookup f22 = some ⟨oc22, od22, .func (PySem.W.fnOf "check_size" "check_size" (defArgs (top 22)) (defBody (top 22)) (defScope (top 22)) .none kV22 dc22 pm22 an22 cd22 ct22), sl22⟩)
    (c22 : PySem.W.codeIn K cd22 "check_size" = true)
    (k22 : PySem.W.keepIn K (.ref f22) = true)
    (a23 : PySem.W.nsIn K mainGlobals "side_cell" = some (some (.ref f23)))
    (l23 : K.lookup f23 = some ⟨oc23, od23, .func (PySem.W.fnOf "side_cell" "side_cell" (defArgs (top 23)) (defBody (top 23)) (defScope (top 23)) .none kV23 dc23 pm23 an23 cd23 ct23), sl23⟩)
    (c23 : PySem.W.codeIn K cd23 "side_cell" = true)
    (k23 : PySem.W.keepIn K (.ref f23) = true)
    (a24 : PySem.W.nsIn K mainGlobals "ring" = some (some (.ref f24)))
    (l24 : K.lookup f24 = some ⟨oc24, od24, .func (PySem.W.fnOf "ring" "ring" (defArgs (top 24)) (defBody (top 24)) (defScope (top 24)) .none kV24 dc24 pm24 an24 cd24 ct24), sl24⟩)
    (c24 : PySem.W.codeIn K cd24 "ring" = true)
    (k24 : PySem.W.keepIn K (.ref f24) = true)
    (a25 : PySem.W.nsIn K mainGlobals "last_place" = some (some (.ref f25)))
    (l25 : K.lookup f25 = some ⟨oc25, od25, .func (PySem.W.fnOf "last_place" "last_place" (defArgs (top 25)) (defBody (top 25)) (defScope (top 25)) .none kV25 dc25 pm25 an25 cd25 ct25), sl25⟩)
    (c25 : PySem.W.codeIn K cd25 "last_place" = true)
    (k25 : PySem.W.keepIn K (.ref f25) = true)
    (a26 : PySem.W.nsIn K mainGlobals "size_at" = some (some (.ref f26)))
    (l26 : K.lookup f26 = some ⟨oc26, od26, .func (PySem.W.fnOf "size_at" "size_at" (defArgs (top 26)) (defBody (top 26)) (defScope (top 26)) .none kV26 dc26 pm26 an26 cd26 ct26), sl26⟩)
    (c26 : PySem.W.codeIn K cd26 "size_at" = true)
    (k26 : PySem.W.keepIn K (.ref f26) = true)
    (a27 : PySem.W.nsIn K mainGlobals "cell_at" = some (some (.ref f27)))
    (l27 : K.lookup f27 = some ⟨oc27, od27, .func (PySem.W.fnOf "cell_at" "cell_at" (defArgs (top 27)) (defBody (top 27)) (defScope (top 27)) .none kV27 dc27 pm27 an27 cd27 ct27), sl27⟩)
    (c27 : PySem.W.codeIn K cd27 "cell_at" = true)
    (k27 : PySem.W.keepIn K (.ref f27) = true)
    (a29 : PySem.W.nsIn K mainGlobals "stretched" = some (some (.ref f29)))
    (l29 : K.lookup f29 = some ⟨oc29, od29, .func (PySem.W.fnOf "stretched" "stretched" (defArgs (top 29)) (defBody (top 29)) (defScope (top 29)) .none kV29 dc29 pm29 an29 cd29 ct29), sl29⟩)
    (c29 : PySem.W.codeIn K cd29 "stretched" = true)
    (k29 : PySem.W.keepIn K (.ref f29) = true)
    (a32 : PySem.W.nsIn K mainGlobals "_law_cell_at" = some (some (.ref f32)))
    (l32 : K.lookup f32 = some ⟨oc32, od32, .func (PySem.W.fnOf "_law_cell_at" "_law_cell_at" (defArgs (top 32)) (defBody (top 32)) (defScope (top 32)) .none kV32 dc32 pm32 an32 cd32 ct32), sl32⟩)
    (c32 : PySem.W.codeIn K cd32 "_law_cell_at" = true)
    (k32 : PySem.W.keepIn K (.ref f32) = true)
    (a33 : PySem.W.nsIn K mainGlobals "_law_whole" = some (some (.ref f33)))
    (l33 : K.lookup f33 = some ⟨oc33, od33, .func (PySem.W.fnOf "_law_whole" "_law_whole" (defArgs (top 33)) (defBody (top 33)) (defScope (top 33)) .none kV33 dc33 pm33 an33 cd33 ct33), sl33⟩)
    (c33 : PySem.W.codeIn K cd33 "_law_whole" = true)
    (k33 : PySem.W.keepIn K (.ref f33) = true)
    (a34 : PySem.W.nsIn K mainGlobals "_law_names" = some (some (.ref f34)))
    (l34 : K.lookup f34 = some ⟨oc34, od34, .func (PySem.W.fnOf "_law_names" "_law_names" (defArgs (top 34)) (defBody (top 34)) (defScope (top 34)) .none kV34 dc34 pm34 an34 cd34 ct34), sl34⟩)
    (c34 : PySem.W.codeIn K cd34 "_law_names" = true)
    (k34 : PySem.W.keepIn K (.ref f34) = true)
    (a35 : PySem.W.nsIn K mainGlobals "_law_call" = some (some (.ref f35)))
    (l35 : K.lookup f35 = some ⟨oc35, od35, .func (PySem.W.fnOf "_law_call" "_law_call" (defArgs (top 35)) (defBody (top 35)) (defScope (top 35)) .none kV35 dc35 pm35 an35 cd35 ct35), sl35⟩)
    (c35 : PySem.W.codeIn K cd35 "_law_call" = true)
    (k35 : PySem.W.keepIn K (.ref f35) = true)
    (a36 : PySem.W.nsIn K mainGlobals "_law_told" = some (some (.ref f36)))
    (l36 : K.lookup f36 = some ⟨oc36, od36, .func (PySem.W.fnOf "_law_told" "_law_told" (defArgs (top 36)) (defBody (top 36)) (defScope (top 36)) .none kV36 dc36 pm36 an36 cd36 ct36), sl36⟩)
    (c36 : PySem.W.codeIn K cd36 "_law_told" = true)
    (k36 : PySem.W.keepIn K (.ref f36) = true)
    (a37 : PySem.W.nsIn K mainGlobals "_law_by_base" = some (some (.ref f37)))
    (l37 : K.lookup f37 = some ⟨oc37, od37, .func (PySem.W.fnOf "_law_by_base" "_law_by_base" (defArgs (top 37)) (defBody (top 37)) (defScope (top 37)) .none kV37 dc37 pm37 an37 cd37 ct37), sl37⟩)
    (c37 : PySem.W.codeIn K cd37 "_law_by_base" = true)
    (k37 : PySem.W.keepIn K (.ref f37) = true)
    (a38 : PySem.W.nsIn K mainGlobals "_law_no_way" = some (some (.ref f38)))
    (l38 : K.lookup f38 = some ⟨oc38, od38, .func (PySem.W.fnOf "_law_no_way" "_law_no_way" (defArgs (top 38)) (defBody (top 38)) (defScope (top 38)) .none kV38 dc38 pm38 an38 cd38 ct38), sl38⟩)
    (c38 : PySem.W.codeIn K cd38 "_law_no_way" = true)
    (k38 : PySem.W.keepIn K (.ref f38) = true)
    (a39 : PySem.W.nsIn K mainGlobals "_law_no_cell" = some (some (.ref f39)))
    (l39 : K.lookup f39 = some ⟨oc39, od39, .func (PySem.W.fnOf "_law_no_cell" "_law_no_cell" (defArgs (top 39)) (defBody (top 39)) (defScope (top 39)) .none kV39 dc39 pm39 an39 cd39 ct39), sl39⟩)
    (c39 : PySem.W.codeIn K cd39 "_law_no_cell" = true)
    (k39 : PySem.W.keepIn K (.ref f39) = true)
    (a40 : PySem.W.nsIn K mainGlobals "_law_no_number" = some (some (.ref f40)))
    (l40 : K.lookup f40 = some ⟨oc40, od40, .func (PySem.W.fnOf "_law_no_number" "_law_no_number" (defArgs (top 40)) (defBody (top 40)) (defScope (top 40)) .none kV40 dc40 pm40 an40 cd40 ct40), sl40⟩)
    (c40 : PySem.W.codeIn K cd40 "_law_no_number" = true)
    (k40 : PySem.W.keepIn K (.ref f40) = true)
    (a41 : PySem.W.nsIn K mainGlobals "_law_kinds" = some (some (.ref f41)))
    (l41 : K.lookup f41 = some ⟨oc41, od41, .func (PySem.W.fnOf "_law_kinds" "_law_kinds" (defArgs (top 41)) (defBody (top 41)) (defScope (top 41)) .none kV41 dc41 pm41 an41 cd41 ct41), sl41⟩)
    (c41 : PySem.W.codeIn K cd41 "_law_kinds" = true)
    (k41 : PySem.W.keepIn K (.ref f41) = true)
    (a42 : PySem.W.nsIn K mainGlobals "_law_list" = some (some (.ref f42)))
    (l42 : K.lookup f42 = some ⟨oc42, od42, .func (PySem.W.fnOf "_law_list" "_law_list" (defArgs (top 42)) (defBody (top 42)) (defScope (top 42)) .none kV42 dc42 pm42 an42 cd42 ct42), sl42⟩)
    (c42 : PySem.W.codeIn K cd42 "_law_list" = true)
    (k42 : PySem.W.keepIn K (.ref f42) = true)
    (a43 : PySem.W.nsIn K mainGlobals "_law_in_list" = some (some (.ref f43)))
    (l43 : K.lookup f43 = some ⟨oc43, od43, .func (PySem.W.fnOf "_law_in_list" "_law_in_list" (defArgs (top 43)) (defBody (top 43)) (defScope (top 43)) .none kV43 dc43 pm43 an43 cd43 ct43), sl43⟩)
    (c43 : PySem.W.codeIn K cd43 "_law_in_list" = true)
    (k43 : PySem.W.keepIn K (.ref f43) = true)
    (a44 : PySem.W.nsIn K mainGlobals "_law_two" = some (some (.ref f44)))
    (l44 : K.lookup f44 = some ⟨oc44, od44, .func (PySem.W.fnOf "_law_two" "_law_two" (defArgs (top 44)) (defBody (top 44)) (defScope (top 44)) .none kV44 dc44 pm44 an44 cd44 ct44), sl44⟩)
    (c44 : PySem.W.codeIn K cd44 "_law_two" = true)
    (k44 : PySem.W.keepIn K (.ref f44) = true)
    (a45 : PySem.W.nsIn K mainGlobals "law" = some (some (.ref f45)))
    (l45 : K.lookup f45 = some ⟨oc45, od45, .func (PySem.W.fnOf "law" "law" (defArgs (top 45)) (defBody (top 45)) (defScope (top 45)) .none kV45 dc45 pm45 an45 cd45 ct45), sl45⟩)
    (c45 : PySem.W.codeIn K cd45 "law" = true)
    (k45 : PySem.W.keepIn K (.ref f45) = true)
    (nC0 : PySem.W.nsIn K mainGlobals "Floor" = some (some (.ref C0)))
    (pg0 : PySem.W.plainGet K C0 Str.empty = true)
    (hd0 : PySem.W.hasDictIn K C0 = true)
    (po0 : PySem.W.plainOver K C0 = true)
    (sa0 : PySem.W.findIn K (.ref C0) "__setattr__" = some (some (.builtin "object.__setattr__")))
    (no0_0 : PySem.W.findIn K (.ref C0) "standing" = some none)
    (ca0 : PySem.W.findIn K (.ref C0) "__class__" = some (some (.builtin "object.__class__")))
    (cg : PySem.W.specialIn K (.builtin "object.__class__") "__get__" = some (some (.builtin "getset_descriptor.__get__")))
    (ck : PySem.W.takesIn K (.builtin "object.__class__") = some true)
    (cm0 : PySem.W.mroIn K C0 (.type "object") = some true)
    (ic0 : PySem.W.isClsIn K C0 = true)
    (ty0 : PySem.W.typeIn K (.ref C0) = some (.type "type"))
    (kt0_0 : PySem.W.mroIn K C0 (.ref C0) = some true)
    (fi30_0_0 : PySem.W.findIn K (.ref C0) "__init__" = some (some (.ref f30_0)))
    (l30_0 : K.lookup f30_0 = some ⟨oc30_0, od30_0, .func (PySem.W.fnOf "__init__" "Floor.__init__" (defArgs (inClass (top 30) 0)) (defBody (inClass (top 30) 0)) (defScope (inClass (top 30) 0)) .none kV30_0 dc30_0 pm30_0 an30_0 cd30_0 ct30_0), sl30_0⟩)
    (c30_0 : PySem.W.codeIn K cd30_0 "Floor.__init__" = true)
    (k30_0 : PySem.W.keepIn K (.ref f30_0) = true)
    (fn30_0 : PySem.W.isFn K (.ref f30_0) = true)
    (mk0 : PySem.W.makesIn K C0 = true)
    (ck0 : PySem.W.keepIn K (.ref C0) = true)
    (fi30_1_0 : PySem.W.findIn K (.ref C0) "walls" = some (some (.ref f30_1)))
    (l30_1 : K.lookup f30_1 = some ⟨oc30_1, od30_1, .func (PySem.W.fnOf "walls" "Floor.walls" (defArgs (inClass (top 30) 1)) (defBody (inClass (top 30) 1)) (defScope (inClass (top 30) 1)) .none kV30_1 dc30_1 pm30_1 an30_1 cd30_1 ct30_1), sl30_1⟩)
    (c30_1 : PySem.W.codeIn K cd30_1 "Floor.walls" = true)
    (k30_1 : PySem.W.keepIn K (.ref f30_1) = true)
    (fn30_1 : PySem.W.isFn K (.ref f30_1) = true)
    (fi30_2_0 : PySem.W.findIn K (.ref C0) "free_cells" = some (some (.ref f30_2)))
    (l30_2 : K.lookup f30_2 = some ⟨oc30_2, od30_2, .func (PySem.W.fnOf "free_cells" "Floor.free_cells" (defArgs (inClass (top 30) 2)) (defBody (inClass (top 30) 2)) (defScope (inClass (top 30) 2)) .none kV30_2 dc30_2 pm30_2 an30_2 cd30_2 ct30_2), sl30_2⟩)
    (c30_2 : PySem.W.codeIn K cd30_2 "Floor.free_cells" = true)
    (k30_2 : PySem.W.keepIn K (.ref f30_2) = true)
    (fn30_2 : PySem.W.isFn K (.ref f30_2) = true)
    (fi30_3_0 : PySem.W.findIn K (.ref C0) "barred" = some (some (.ref f30_3)))
    (l30_3 : K.lookup f30_3 = some ⟨oc30_3, od30_3, .func (PySem.W.fnOf "barred" "Floor.barred" (defArgs (inClass (top 30) 3)) (defBody (inClass (top 30) 3)) (defScope (inClass (top 30) 3)) .none kV30_3 dc30_3 pm30_3 an30_3 cd30_3 ct30_3), sl30_3⟩)
    (c30_3 : PySem.W.codeIn K cd30_3 "Floor.barred" = true)
    (k30_3 : PySem.W.keepIn K (.ref f30_3) = true)
    (fn30_3 : PySem.W.isFn K (.ref f30_3) = true)
    (fi30_4_0 : PySem.W.findIn K (.ref C0) "sees" = some (some (.ref f30_4)))
    (l30_4 : K.lookup f30_4 = some ⟨oc30_4, od30_4, .func (PySem.W.fnOf "sees" "Floor.sees" (defArgs (inClass (top 30) 4)) (defBody (inClass (top 30) 4)) (defScope (inClass (top 30) 4)) .none kV30_4 dc30_4 pm30_4 an30_4 cd30_4 ct30_4), sl30_4⟩)
    (c30_4 : PySem.W.codeIn K cd30_4 "Floor.sees" = true)
    (k30_4 : PySem.W.keepIn K (.ref f30_4) = true)
    (fn30_4 : PySem.W.isFn K (.ref f30_4) = true)
    (fi30_5_0 : PySem.W.findIn K (.ref C0) "free_row" = some (some (.ref f30_5)))
    (l30_5 : K.lookup f30_5 = some ⟨oc30_5, od30_5, .func (PySem.W.fnOf "free_row" "Floor.free_row" (defArgs (inClass (top 30) 5)) (defBody (inClass (top 30) 5)) (defScope (inClass (top 30) 5)) .none kV30_5 dc30_5 pm30_5 an30_5 cd30_5 ct30_5), sl30_5⟩)
    (c30_5 : PySem.W.codeIn K cd30_5 "Floor.free_row" = true)
    (k30_5 : PySem.W.keepIn K (.ref f30_5) = true)
    (fn30_5 : PySem.W.isFn K (.ref f30_5) = true)
    (fi30_6_0 : PySem.W.findIn K (.ref C0) "stretches" = some (some (.ref f30_6)))
    (l30_6 : K.lookup f30_6 = some ⟨oc30_6, od30_6, .func (PySem.W.fnOf "stretches" "Floor.stretches" (defArgs (inClass (top 30) 6)) (defBody (inClass (top 30) 6)) (defScope (inClass (top 30) 6)) .none kV30_6 dc30_6 pm30_6 an30_6 cd30_6 ct30_6), sl30_6⟩)
    (c30_6 : PySem.W.codeIn K cd30_6 "Floor.stretches" = true)
    (k30_6 : PySem.W.keepIn K (.ref f30_6) = true)
    (fn30_6 : PySem.W.isFn K (.ref f30_6) = true)
    (fi30_7_0 : PySem.W.findIn K (.ref C0) "moved" = some (some (.ref f30_7)))
    (l30_7 : K.lookup f30_7 = some ⟨oc30_7, od30_7, .func (PySem.W.fnOf "moved" "Floor.moved" (defArgs (inClass (top 30) 7)) (defBody (inClass (top 30) 7)) (defScope (inClass (top 30) 7)) .none kV30_7 dc30_7 pm30_7 an30_7 cd30_7 ct30_7), sl30_7⟩)
    (c30_7 : PySem.W.codeIn K cd30_7 "Floor.moved" = true)
    (k30_7 : PySem.W.keepIn K (.ref f30_7) = true)
    (fn30_7 : PySem.W.isFn K (.ref f30_7) = true)
    (nC1 : PySem.W.nsIn K mainGlobals "NoCell" = some (some (.ref C1)))
    (nC2 : PySem.W.nsIn K mainGlobals "NoWay" = some (some (.ref C2)))
    (nC3 : PySem.W.nsIn K mainGlobals "NoPlace" = some (some (.ref C3)))
    (nC4 : PySem.W.nsIn K mainGlobals "NoSize" = some (some (.ref C4)))
    (nC5 : PySem.W.nsIn K mainGlobals "NoPoint" = some (some (.ref C5)))
    (nC6 : PySem.W.nsIn K mainGlobals "FloorError" = some (some (.ref C6)))
    (xcg : PySem.W.specialIn K (.builtin "object.__class__") "__get__" = some (some (.builtin "getset_descriptor.__get__")))
    (xct : PySem.W.takesIn K (.builtin "object.__class__") = some true)
    (bsp : PySem.W.specialIn K (.ref C6) "__getattribute__" = some (some (.builtin "type.__getattribute__")))
    (brd : PySem.W.readsIn K C6 (.type "type") = true)
    (bin : PySem.W.findCls K (.ref C6) (.type "type") "__init__" = some (.val (.builtin "ValueError.__init__")))
    (hcC2 : PySem.W.isClsIn K C2 = true)
    (htC2 : PySem.W.typeIn K (.ref C2) = some (.type "type"))
    (hbC2 : PySem.W.mroIn K C2 (.type "BaseException") = some true)
    (hcC1 : PySem.W.isClsIn K C1 = true)
    (htC1 : PySem.W.typeIn K (.ref C1) = some (.type "type"))
    (hbC1 : PySem.W.mroIn K C1 (.type "BaseException") = some true)
    (hcC6 : PySem.W.isClsIn K C6 = true)
    (htC6 : PySem.W.typeIn K (.ref C6) = some (.type "type"))
    (hbC6 : PySem.W.mroIn K C6 (.type "BaseException") = some true)
    (xcC1 : PySem.W.isClsIn K C1 = true)
    (xgC1 : PySem.W.findIn K (.ref C1) "__getattribute__" = some (some (.builtin "BaseException.__getattribute__")))
    (xkC1 : PySem.W.findIn K (.ref C1) "__getattr__" = some none)
    (xbC1 : PySem.W.mroIn K C1 (.type "BaseException") = some true)
    (xoC1 : PySem.W.mroIn K C1 (.type "object") = some true)
    (xaC1 : PySem.W.findIn K (.ref C1) "__class__" = some (some (.builtin "object.__class__")))
    (rC1C2 : PySem.W.mroIn K C1 (.ref C2) = some false)
    (rC1C1 : PySem.W.mroIn K C1 (.ref C1) = some true)
    (rC1C6 : PySem.W.mroIn K C1 (.ref C6) = some true)
    (tC1C1 : PySem.W.kitOne K (.ref C1) (.ref C1) = some true)
    (tC1C2 : PySem.W.kitOne K (.ref C1) (.ref C2) = some false)
    (tC1C3 : PySem.W.kitOne K (.ref C1) (.ref C3) = some false)
    (tC1C4 : PySem.W.kitOne K (.ref C1) (.ref C4) = some false)
    (tC1C5 : PySem.W.kitOne K (.ref C1) (.ref C5) = some false)
    (vC1 : PySem.W.kitOne K (.ref C1) (.type "ValueError") = some true)
    (clC1 : PySem.W.clsIn K C1 = some ⟨nmC1, bsC1, .ref C1 :: .ref C6 :: PySem.W.bmV, nsC1, qnC1, true, snC1, sbC1, abC1, coC1, deC1⟩)
    (hdC1 : PySem.W.hasDictIn K C1 = true)
    (atC1 : PySem.W.findIn K (.ref C1) "at" = some none)
    (saC1 : PySem.W.findIn K (.ref C1) "__setattr__" = some (some (.builtin "object.__setattr__")))
    (fi3_0 : PySem.W.findIn K (.ref C1) "__init__" = some (some (.ref f3_0)))
    (eiC1 : excInit K C1 PySem.W.bmV "ValueError.__new__" f3_0 = true)
    (l3_0 : K.lookup f3_0 = some ⟨oc3_0, od3_0, .func (PySem.W.fnOf "__init__" "NoCell.__init__" (defArgs (inClass (top 3) 0)) (defBody (inClass (top 3) 0)) (defScope (inClass (top 3) 0)) .none kV3_0 dc3_0 pm3_0 an3_0 cd3_0 ct3_0), sl3_0⟩)
    (c3_0 : PySem.W.codeIn K cd3_0 "NoCell.__init__" = true)
    (k3_0 : PySem.W.keepIn K (.ref f3_0) = true)
    (fn3_0 : PySem.W.isFn K (.ref f3_0) = true)
    (xcC2 : PySem.W.isClsIn K C2 = true)
    (xgC2 : PySem.W.findIn K (.ref C2) "__getattribute__" = some (some (.builtin "BaseException.__getattribute__")))
    (xkC2 : PySem.W.findIn K (.ref C2) "__getattr__" = some none)
    (xbC2 : PySem.W.mroIn K C2 (.type "BaseException") = some true)
    (xoC2 : PySem.W.mroIn K C2 (.type "object") = some true)
    (xaC2 : PySem.W.findIn K (.ref C2) "__class__" = some (some (.builtin "object.__class__")))
    (rC2C2 : PySem.W.mroIn K C2 (.ref C2) = some true)
    (rC2C1 : PySem.W.mroIn K C2 (.ref C1) = some false)
    (rC2C6 : PySem.W.mroIn K C2 (.ref C6) = some true)
    (tC2C1 : PySem.W.kitOne K (.ref C2) (.ref C1) = some false)
    (tC2C2 : PySem.W.kitOne K (.ref C2) (.ref C2) = some true)
    (tC2C3 : PySem.W.kitOne K (.ref C2) (.ref C3) = some false)
    (tC2C4 : PySem.W.kitOne K (.ref C2) (.ref C4) = some false)
    (tC2C5 : PySem.W.kitOne K (.ref C2) (.ref C5) = some false)
    (vC2 : PySem.W.kitOne K (.ref C2) (.type "ValueError") = some true)
    (clC2 : PySem.W.clsIn K C2 = some ⟨nmC2, bsC2, .ref C2 :: .ref C6 :: PySem.W.bmV, nsC2, qnC2, true, snC2, sbC2, abC2, coC2, deC2⟩)
    (hdC2 : PySem.W.hasDictIn K C2 = true)
    (atC2 : PySem.W.findIn K (.ref C2) "at" = some none)
    (saC2 : PySem.W.findIn K (.ref C2) "__setattr__" = some (some (.builtin "object.__setattr__")))
    (fi4_0 : PySem.W.findIn K (.ref C2) "__init__" = some (some (.ref f4_0)))
    (eiC2 : excInit K C2 PySem.W.bmV "ValueError.__new__" f4_0 = true)
    (l4_0 : K.lookup f4_0 = some ⟨oc4_0, od4_0, .func (PySem.W.fnOf "__init__" "NoWay.__init__" (defArgs (inClass (top 4) 0)) (defBody (inClass (top 4) 0)) (defScope (inClass (top 4) 0)) .none kV4_0 dc4_0 pm4_0 an4_0 cd4_0 ct4_0), sl4_0⟩)
    (c4_0 : PySem.W.codeIn K cd4_0 "NoWay.__init__" = true)
    (k4_0 : PySem.W.keepIn K (.ref f4_0) = true)
    (fn4_0 : PySem.W.isFn K (.ref f4_0) = true)
    (xcC3 : PySem.W.isClsIn K C3 = true)
    (xgC3 : PySem.W.findIn K (.ref C3) "__getattribute__" = some (some (.builtin "BaseException.__getattribute__")))
    (xkC3 : PySem.W.findIn K (.ref C3) "__getattr__" = some none)
    (xbC3 : PySem.W.mroIn K C3 (.type "BaseException") = some true)
    (xoC3 : PySem.W.mroIn K C3 (.type "object") = some true)
    (xaC3 : PySem.W.findIn K (.ref C3) "__class__" = some (some (.builtin "object.__class__")))
    (rC3C2 : PySem.W.mroIn K C3 (.ref C2) = some false)
    (rC3C1 : PySem.W.mroIn K C3 (.ref C1) = some false)
    (rC3C6 : PySem.W.mroIn K C3 (.ref C6) = some true)
    (tC3C1 : PySem.W.kitOne K (.ref C3) (.ref C1) = some false)
    (tC3C2 : PySem.W.kitOne K (.ref C3) (.ref C2) = some false)
    (tC3C3 : PySem.W.kitOne K (.ref C3) (.ref C3) = some true)
    (tC3C4 : PySem.W.kitOne K (.ref C3) (.ref C4) = some false)
    (tC3C5 : PySem.W.kitOne K (.ref C3) (.ref C5) = some false)
    (vC3 : PySem.W.kitOne K (.ref C3) (.type "ValueError") = some true)
    (eC3 : PySem.W.excIn K C3 PySem.W.bmV "ValueError.__new__" = true)
    (xcC4 : PySem.W.isClsIn K C4 = true)
    (xgC4 : PySem.W.findIn K (.ref C4) "__getattribute__" = some (some (.builtin "BaseException.__getattribute__")))
    (xkC4 : PySem.W.findIn K (.ref C4) "__getattr__" = some none)
    (xbC4 : PySem.W.mroIn K C4 (.type "BaseException") = some true)
    (xoC4 : PySem.W.mroIn K C4 (.type "object") = some true)
    (xaC4 : PySem.W.findIn K (.ref C4) "__class__" = some (some (.builtin "object.__class__")))
    (rC4C2 : PySem.W.mroIn K C4 (.ref C2) = some false)
    (rC4C1 : PySem.W.mroIn K C4 (.ref C1) = some false)
    (rC4C6 : PySem.W.mroIn K C4 (.ref C6) = some true)
    (tC4C1 : PySem.W.kitOne K (.ref C4) (.ref C1) = some false)
    (tC4C2 : PySem.W.kitOne K (.ref C4) (.ref C2) = some false)
    (tC4C3 : PySem.W.kitOne K (.ref C4) (.ref C3) = some false)
    (tC4C4 : PySem.W.kitOne K (.ref C4) (.ref C4) = some true)
    (tC4C5 : PySem.W.kitOne K (.ref C4) (.ref C5) = some false)
    (vC4 : PySem.W.kitOne K (.ref C4) (.type "ValueError") = some true)
    (eC4 : PySem.W.excIn K C4 PySem.W.bmV "ValueError.__new__" = true)
    (xcC5 : PySem.W.isClsIn K C5 = true)
    (xgC5 : PySem.W.findIn K (.ref C5) "__getattribute__" = some (some (.builtin "BaseException.__getattribute__")))
    (xkC5 : PySem.W.findIn K (.ref C5) "__getattr__" = some none)
    (xbC5 : PySem.W.mroIn K C5 (.type "BaseException") = some true)
    (xoC5 : PySem.W.mroIn K C5 (.type "object") = some true)
    (xaC5 : PySem.W.findIn K (.ref C5) "__class__" = some (some (.builtin "object.__class__")))
    (rC5C2 : PySem.W.mroIn K C5 (.ref C2) = some false)
    (rC5C1 : PySem.W.mroIn K C5 (.ref C1) = some false)
    (rC5C6 : PySem.W.mroIn K C5 (.ref C6) = some true)
    (tC5C1 : PySem.W.kitOne K (.ref C5) (.ref C1) = some false)
    (tC5C2 : PySem.W.kitOne K (.ref C5) (.ref C2) = some false)
    (tC5C3 : PySem.W.kitOne K (.ref C5) (.ref C3) = some false)
    (tC5C4 : PySem.W.kitOne K (.ref C5) (.ref C4) = some false)
    (tC5C5 : PySem.W.kitOne K (.ref C5) (.ref C5) = some true)
    (vC5 : PySem.W.kitOne K (.ref C5) (.type "ValueError") = some true)
    (eC5 : PySem.W.excIn K C5 PySem.W.bmV "ValueError.__new__" = true) :
    ∃ fd : FuncData, (∀ (s : Shared) (v : Value), BindsTo s fd ⟨[v], []⟩ [("_law_script", v)]) ∧ ∀ base : Heap, K.In base → base.Ns mainGlobals mg → FnOk l.prog w K mg base CX0 11 fa fd ["_law_script"] (spC K L0 cLaw) := by
  have e := hfa.symm.trans (PySem.W.mg_of X G a45)
  cases e
  have T : Top K mg (mkL C0 C1 C2 C3 C4 C5 C6) := {
    m_NoCell := PySem.W.mg_of X G nC1
    m_NoWay := PySem.W.mg_of X G nC2
    m_NoPlace := PySem.W.mg_of X G nC3
    m_NoSize := PySem.W.mg_of X G nC4
    m_NoPoint := PySem.W.mg_of X G nC5
    m_FloorError := PySem.W.mg_of X G nC6
    p_NoWay := ⟨hcC2, htC2, hbC2⟩
    p_NoCell := ⟨hcC1, htC1, hbC1⟩
    p_FloorError := ⟨hcC6, htC6, hbC6⟩
    x_NoCell := ⟨xcC1, xgC1, xkC1, xbC1, xoC1, xaC1, xcg, xct⟩
    r_NoCell_NoWay := rC1C2
    r_NoCell_NoCell := rC1C1
    r_NoCell_FloorError := rC1C6
    t_NoCell_NoCell := tC1C1
    t_NoCell_NoWay := tC1C2
    t_NoCell_NoPlace := tC1C3
    t_NoCell_NoSize := tC1C4
    t_NoCell_NoPoint := tC1C5
    v_NoCell := vC1
    h_NoCell := hdC1
    n_NoCell := atC1
    d_NoCell_init := ⟨f3_0, _, .type "type", (deft_mk l3_0 c3_0 k3_0 fun _ _ _ _ _ _ us hl => match us, hl with | [_, _], _ => rfl), ⟨eiC1, ⟨_, clC1, rfl, rfl⟩, saC1, atC1, xgC1, xkC1⟩, ⟨bsp, brd, bin⟩, fn3_0⟩
    x_NoWay := ⟨xcC2, xgC2, xkC2, xbC2, xoC2, xaC2, xcg, xct⟩
    r_NoWay_NoWay := rC2C2
    r_NoWay_NoCell := rC2C1
    r_NoWay_FloorError := rC2C6
    t_NoWay_NoCell := tC2C1
    t_NoWay_NoWay := tC2C2
    t_NoWay_NoPlace := tC2C3
    t_NoWay_NoSize := tC2C4
    t_NoWay_NoPoint := tC2C5
    v_NoWay := vC2
    h_NoWay := hdC2
    n_NoWay := atC2
    d_NoWay_init := ⟨f4_0, _, .type "type", (deft_mk l4_0 c4_0 k4_0 fun _ _ _ _ _ _ us hl => match us, hl with | [_, _], _ => rfl), ⟨eiC2, ⟨_, clC2, rfl, rfl⟩, saC2, atC2, xgC2, xkC2⟩, ⟨bsp, brd, bin⟩, fn4_0⟩
    x_NoPlace := ⟨xcC3, xgC3, xkC3, xbC3, xoC3, xaC3, xcg, xct⟩
    r_NoPlace_NoWay := rC3C2
    r_NoPlace_NoCell := rC3C1
    r_NoPlace_FloorError := rC3C6
    t_NoPlace_NoCell := tC3C1
    t_NoPlace_NoWay := tC3C2
    t_NoPlace_NoPlace := tC3C3
    t_NoPlace_NoSize := tC3C4
    t_NoPlace_NoPoint := tC3C5
    v_NoPlace := vC3
    e_NoPlace := eC3
    x_NoSize := ⟨xcC4, xgC4, xkC4, xbC4, xoC4, xaC4, xcg, xct⟩
    r_NoSize_NoWay := rC4C2
    r_NoSize_NoCell := rC4C1
    r_NoSize_FloorError := rC4C6
    t_NoSize_NoCell := tC4C1
    t_NoSize_NoWay := tC4C2
    t_NoSize_NoPlace := tC4C3
    t_NoSize_NoSize := tC4C4
    t_NoSize_NoPoint := tC4C5
    v_NoSize := vC4
    e_NoSize := eC4
    x_NoPoint := ⟨xcC5, xgC5, xkC5, xbC5, xoC5, xaC5, xcg, xct⟩
    r_NoPoint_NoWay := rC5C2
    r_NoPoint_NoCell := rC5C1
    r_NoPoint_FloorError := rC5C6
    t_NoPoint_NoCell := tC5C1
    t_NoPoint_NoWay := tC5C2
    t_NoPoint_NoPlace := tC5C3
    t_NoPoint_NoSize := tC5C4
    t_NoPoint_NoPoint := tC5C5
    v_NoPoint := vC5
    e_NoPoint := eC5
    nm_Floor := rfl
    m_Floor := PySem.W.mg_of X G nC0
    k_Floor := ⟨⟨pg0, hd0, po0, sa0⟩, by show List.Nodup [("standing" : Str)]; decide +kernel, (fun f hf => by simp [mkL] at hf; subst hf; exact no0_0), by show 1 < 1000; decide⟩
    i_Floor := ⟨⟨pg0, hd0, po0, sa0⟩, ca0, cg, ck, cm0⟩
    t_Floor_Floor := kit_of ic0 ty0 kt0_0
    d_Floor_init := ⟨f30_0, _, (deft_mk l30_0 c30_0 k30_0 fun _ _ _ _ _ _ us hl => match us, hl with | [_, _], _ => rfl), ⟨mk0, fi30_0_0, fn30_0, ck0⟩, PySem.W.mg_of X G nC0, (deft_mk l30_0 c30_0 k30_0 fun _ _ _ _ _ _ us hl => match us, hl with | [_, _], _ => rfl).bd⟩
    d_Floor_walls := ⟨f30_1, _, (deft_mk l30_1 c30_1 k30_1 fun _ _ _ _ _ _ us hl => match us, hl with | [_], _ => rfl), fun c hc => by simp at hc; subst hc; exact ⟨fi30_1_0, fn30_1, k30_1⟩⟩
    d_Floor_free_cells := ⟨f30_2, _, (deft_mk l30_2 c30_2 k30_2 fun _ _ _ _ _ _ us hl => match us, hl with | [_, _, _, _], _ => rfl), fun c hc => by simp at hc; subst hc; exact ⟨fi30_2_0, fn30_2, k30_2⟩⟩
    d_Floor_barred := ⟨f30_3, _, (deft_mk l30_3 c30_3 k30_3 fun _ _ _ _ _ _ us hl => match us, hl with | [_, _, _], _ => rfl), fun c hc => by simp at hc; subst hc; exact ⟨fi30_3_0, fn30_3, k30_3⟩⟩
    d_Floor_sees := ⟨f30_4, _, (deft_mk l30_4 c30_4 k30_4 fun _ _ _ _ _ _ us hl => match us, hl with | [_, _, _], _ => rfl), fun c hc => by simp at hc; subst hc; exact ⟨fi30_4_0, fn30_4, k30_4⟩⟩
    d_Floor_free_row := ⟨f30_5, _, (deft_mk l30_5 c30_5 k30_5 fun _ _ _ _ _ _ us hl => match us, hl with | [_, _, _], _ => rfl), fun c hc => by simp at hc; subst hc; exact ⟨fi30_5_0, fn30_5, k30_5⟩⟩
    d_Floor_stretches := ⟨f30_6, _, (deft_mk l30_6 c30_6 k30_6 fun _ _ _ _ _ _ us hl => match us, hl with | [_, _, _], _ => rfl), fun c hc => by simp at hc; subst hc; exact ⟨fi30_6_0, fn30_6, k30_6⟩⟩
    d_Floor_moved := ⟨f30_7, _, (deft_mk l30_7 c30_7 k30_7 fun _ _ _ _ _ _ us hl => match us, hl with | [_, _], _ => rfl), fun c hc => by simp at hc; subst hc; exact ⟨fi30_7_0, fn30_7, k30_7⟩⟩
    b_ValueError := PySem.W.mg_none_of X G z_ValueError
    b_bool := PySem.W.mg_none_of X G z_bool
    b_len := PySem.W.mg_none_of X G z_len
    b_sorted := PySem.W.mg_none_of X G z_sorted
    b_abs := PySem.W.mg_none_of X G z_abs
    b_tuple := PySem.W.mg_none_of X G z_tuple
    b_int := PySem.W.mg_none_of X G z_int
    b_isinstance := PySem.W.mg_none_of X G z_isinstance
    b_range := PySem.W.mg_none_of X G z_range
    b_list := PySem.W.mg_none_of X G z_list
    b_max := PySem.W.mg_none_of X G z_max
    b_enumerate := PySem.W.mg_none_of X G z_enumerate
    c_MIDDLE := ⟨w0, PySem.W.mg_of X G aw0, (const_tup (K := K) (L := mkL C0 C1 C2 C3 C4 C5 C6) (vs := [V.int 0, V.int 0]) lw0 rfl rfl (by show 2 ≤ sizeLine; decide) (.cons ⟨_, rfl⟩ (.cons ⟨_, rfl⟩ .nil)) (fun G => .cons ((fun _ => .int _) G) (.cons ((fun _ => .int _) G) .nil)))⟩
    c_WAYS := ⟨w1, PySem.W.mg_of X G aw1, (const_tup (K := K) (L := mkL C0 C1 C2 C3 C4 C5 C6) (vs := [V.ref w1_0, V.ref w1_1, V.ref w1_2, V.ref w1_3, V.ref w1_4, V.ref w1_5]) lw1 rfl rfl (by show 6 ≤ sizeLine; decide) (.cons rfl (.cons rfl (.cons rfl (.cons rfl (.cons rfl (.cons rfl .nil)))))) (fun G => .cons ((const_tup (K := K) (L := mkL C0 C1 C2 C3 C4 C5 C6) (vs := [V.int 1, V.int 0]) lw1_0 rfl rfl (by show 2 ≤ sizeLine; decide) (.cons ⟨_, rfl⟩ (.cons ⟨_, rfl⟩ .nil)) (fun G => .cons ((fun _ => .int _) G) (.cons ((fun _ => .int _) G) .nil))) G) (.cons ((const_tup (K := K) (L := mkL C0 C1 C2 C3 C4 C5 C6) (vs := [V.int 0, V.int 1]) lw1_1 rfl rfl (by show 2 ≤ sizeLine; decide) (.cons ⟨_, rfl⟩ (.cons ⟨_, rfl⟩ .nil)) (fun G => .cons ((fun _ => .int _) G) (.cons ((fun _ => .int _) G) .nil))) G) (.cons ((const_tup (K := K) (L := mkL C0 C1 C2 C3 C4 C5 C6) (vs := [V.int (-1), V.int 1]) lw1_2 rfl rfl (by show 2 ≤ sizeLine; decide) (.cons ⟨_, rfl⟩ (.cons ⟨_, rfl⟩ .nil)) (fun G => .cons ((fun _ => .int _) G) (.cons ((fun _ => .int _) G) .nil))) G) (.cons ((const_tup (K := K) (L := mkL C0 C1 C2 C3 C4 C5 C6) (vs := [V.int (-1), V.int 0]) lw1_3 rfl rfl (by show 2 ≤ sizeLine; decide) (.cons ⟨_, rfl⟩ (.cons ⟨_, rfl⟩ .nil)) (fun G => .cons ((fun _ => .int _) G) (.cons ((fun _ => .int _) G) .nil))) G) (.cons ((const_tup (K := K) (L := mkL C0 C1 C2 C3 C4 C5 C6) (vs := [V.int 0, V.int (-1)]) lw1_4 rfl rfl (by show 2 ≤ sizeLine; decide) (.cons ⟨_, rfl⟩ (.cons ⟨_, rfl⟩ .nil)) (fun G => .cons ((fun _ => .int _) G) (.cons ((fun _ => .int _) G) .nil))) G) (.cons ((const_tup (K := K) (L := mkL C0 C1 C2 C3 C4 C5 C6) (vs := [V.int 1, V.int (-1)]) lw1_5 rfl rfl (by show 2 ≤ sizeLine; decide) (.cons ⟨_, rfl⟩ (.cons ⟨_, rfl⟩ .nil)) (fun G => .cons ((fun _ => .int _) G) (.cons ((fun _ => .int _) G) .nil))) G) .nil)))))))⟩
    p__wall := gdef_mk X G a0 l0 c0 k0 fun _ _ _ _ _ _ us hl => match us, hl with | [_], _ => rfl
    p_is_whole := gdef_mk X G a11 l11 c11 k11 fun _ _ _ _ _ _ us hl => match us, hl with | [_], _ => rfl
    p_is_count := gdef_mk X G a12 l12 c12 k12 fun _ _ _ _ _ _ us hl => match us, hl with | [_], _ => rfl
    p_is_cell := gdef_mk X G a13 l13 c13 k13 fun _ _ _ _ _ _ us hl => match us, hl with | [_], _ => rfl
    p_is_way := gdef_mk X G a14 l14 c14 k14 fun _ _ _ _ _ _ us hl => match us, hl with | [_], _ => rfl
    p_plus := ⟨td15_0, gdefD_mk X G a15 l15 c15 k15 t15 rfl 2 rfl (fun _ _ _ _ _ _ _ vs hT hl => match vs, hl with | [_, _, _], _ => BindsTo.of_defaults rfl hT rfl rfl rfl) (fun _ _ _ _ _ _ _ vs hT hl => match vs, hl with | [_, _], _ => BindsTo.of_defaults rfl hT rfl rfl rfl)⟩
    p_stepped := gdef_mk X G a16 l16 c16 k16 fun _ _ _ _ _ _ us hl => match us, hl with | [_, _], _ => rfl
    p_distance := gdef_mk X G a17 l17 c17 k17 fun _ _ _ _ _ _ us hl => match us, hl with | [_, _], _ => rfl
    p_near_numbers := gdef_mk X G a19 l19 c19 k19 fun _ _ _ _ _ _ us hl => match us, hl with | [_, _], _ => rfl
    p_nearest := gdef_mk X G a20 l20 c20 k20 fun _ _ _ _ _ _ us hl => match us, hl with | [_, _, _], _ => rfl
    p_check_size := gdef_mk X G a22 l22 c22 k22 fun _ _ _ _ _ _ us hl => match us, hl with | [_], _ => rfl
    p_side_cell := gdef_mk X G a23 l23 c23 k23 fun _ _ _ _ _ _ us hl => match us, hl with | [_, _, _], _ => rfl
    p_ring := gdef_mk X G a24 l24 c24 k24 fun _ _ _ _ _ _ us hl => match us, hl with | [_, _], _ => rfl
    p_last_place := gdef_mk X G a25 l25 c25 k25 fun _ _ _ _ _ _ us hl => match us, hl with | [_], _ => rfl
    p_size_at := gdef_mk X G a26 l26 c26 k26 fun _ _ _ _ _ _ us hl => match us, hl with | [_], _ => rfl
    p_cell_at := gdef_mk X G a27 l27 c27 k27 fun _ _ _ _ _ _ us hl => match us, hl with | [_], _ => rfl
    p_stretched := gdef_mk X G a29 l29 c29 k29 fun _ _ _ _ _ _ us hl => match us, hl with | [_], _ => rfl
    l_cell_at := gdef_mk X G a32 l32 c32 k32 fun _ _ _ _ _ _ us hl => match us, hl with | [_, _], _ => rfl
    l_whole := gdef_mk X G a33 l33 c33 k33 fun _ _ _ _ _ _ us hl => match us, hl with | [_], _ => rfl
    l_names := gdef_mk X G a34 l34 c34 k34 fun _ _ _ _ _ _ us hl => match us, hl with | [_], _ => rfl
    l_call := gdef_mk X G a35 l35 c35 k35 fun _ _ _ _ _ _ us hl => match us, hl with | [_, _, _], _ => rfl
    l_told := gdef_mk X G a36 l36 c36 k36 fun _ _ _ _ _ _ us hl => match us, hl with | [_, _, _], _ => rfl
    l_by_base := gdef_mk X G a37 l37 c37 k37 fun _ _ _ _ _ _ us hl => match us, hl with | [_, _, _], _ => rfl
    l_no_way := gdef_mk X G a38 l38 c38 k38 fun _ _ _ _ _ _ us hl => match us, hl with | [_], _ => rfl
    l_no_cell := gdef_mk X G a39 l39 c39 k39 fun _ _ _ _ _ _ us hl => match us, hl with | [_], _ => rfl
    l_no_number := gdef_mk X G a40 l40 c40 k40 fun _ _ _ _ _ _ us hl => match us, hl with | [_, _], _ => rfl
    l_kinds := gdef_mk X G a41 l41 c41 k41 fun _ _ _ _ _ _ us hl => match us, hl with | [_, _], _ => rfl
    l_list := gdef_mk X G a42 l42 c42 k42 fun _ _ _ _ _ _ us hl => match us, hl with | [_, _], _ => rfl
    l_in_list := gdef_mk X G a43 l43 c43 k43 fun _ _ _ _ _ _ us hl => match us, hl with | [_, _, _], _ => rfl
    l_two := gdef_mk X G a44 l44 c44 k44 fun _ _ _ _ _ _ us hl => match us, hl with | [_], _ => rfl
    law := gdef_mk X G a45 l45 c45 k45 fun _ _ _ _ _ _ us hl => match us, hl with | [_], _ => rfl
  }
  exact ⟨PySem.W.fnOf "law" "law" (defArgs (top 45)) (defBody (top 45)) (defScope (top 45)) .none kV45 dc45 pm45 an45 cd45 ct45, fun s v => .of_eq rfl, fun base _ _ => law_imp (fun ds r ⟨ns, h1, _, h2⟩ => ⟨⟨ns, h1⟩, h2⟩) (law_ok T ⟨⟨oc45, od45, .none, kV45, dc45, pm45, an45, cd45, ct45, sl45, rfl, l45, c45⟩, k45, .all fun us hl => match us, hl with | [_], _ => rfl⟩)⟩
theorem walk {l : PySem.W.OpenLaw} {q : Program} {loose : List Str} {XP : (Str → Option Value) → Heap → Prop} {YP : World → Heap → Prop} {d : DefRec} {K : Params → PySem.W.Frag} (hn : l.most = some 63) (hdf : d.params.defaults = [])
    (hY : ∀ (w : World) (h : Heap), YP w h → (K w.params).In h) (L : World → Kl)
    (F : ∀ (w : World) (mg : Str → Option Value) (fa : Addr) (h : Heap), (K w.params).In h → h.Ns mainGlobals mg → mg d.name = some (.ref fa) →
      ∃ fd : FuncData, (∀ (s : Shared) (u : Value), BindsTo s fd ⟨[u], []⟩ [("_law_script", u)]) ∧ ∀ base : Heap, (K w.params).In base → base.Ns mainGlobals mg → FnOk l.prog w (K w.params) mg base CX0 11 fa fd ["_law_script"] (spC (K w.params) (L w) cLaw)) :
    PySem.W.WalkO q loose XP YP l.row.toRowW d [] (fun f vs => PySem.call f vs) :=
  L2.walk_of (n := 63) (k := 11) (x := "_law_script") (CX := fun _ => CX0) (sp := fun w => spC (K w.params) (L w) cLaw) hn (by decide) hdf ⟨rfl, by decide, by decide⟩ hY F
    (fun _ H a ns hl hO hS => ⟨H, [.lst (ns.map .int)], .bl true, .refl _, .cons (.lst hS (RpA.ints ns)) .nil, ⟨ns, rfl, hl, rfl⟩, fun v G' H' _ r => by cases r; rfl⟩) fun _ _ _ _ _ z => z
/-! ### the text, cut into its statements -/
theorem anyS {a s : Stmt} (_ : a = s) : True := trivial
theorem anyC {a s : Scope} (_ : a = s) : True := trivial
theorem anyG {a s : Given} (_ : a = s) : True := trivial
def p0 : Stmt := by
  have : True := anyS (a := top 0) (s := ?s) (by conv => { lhs; whnf })
  clear this
  exact ?s
def p1 : Stmt := by
  have : True := anyS (a := top 1) (s := ?s) (by conv => { lhs; whnf })
  clear this
  exact ?s
def p2 : Stmt := by
  have : True := anyS (a := top 2) (s := ?s) (by conv => { lhs; whnf })
  clear this
  exact ?s
def p3 : Stmt := by
  have : True := anyS (a := top 3) (s := ?s) (by conv => { lhs; whnf })
  clear this
  exact ?s
def p4 : Stmt := by
  have : True := anyS (a := top 4) (s := ?s) (by conv => { lhs; whnf })
  clear this
  exact ?s
def p5 : Stmt := by
  have : True := anyS (a := top 5) (s := ?s) (by conv => { lhs; whnf })
  clear this
  exact ?s
def p6 : Stmt := by
  have : True := anyS (a := top 6) (s := ?s) (by conv => { lhs; whnf })
  clear this
  exact ?s
def p7 : Stmt := by
  have : True := anyS (a := top 7) (s := ?s) (by conv => { lhs; whnf })
  clear this
  exact ?s
def p8 : Stmt := by
  have : True := anyS (a := top 8) (s := ?s) (by conv => { lhs; whnf })
  clear this
  exact ?s
def p9 : Stmt := by
  have : True := anyS (a := top 9) (s := ?s) (by conv => { lhs; whnf })
  clear this
  exact ?s
def p10 : Stmt := by
  have : True := anyS (a := top 10) (s := ?s) (by conv => { lhs; whnf })
  clear this
  exact ?s
def p11 : Stmt := by
  have : True := anyS (a := top 11) (s := ?s) (by conv => { lhs; whnf })
  clear this
  exact ?s
def p12 : Stmt := by
  have : True := anyS (a := top 12) (s := ?s) (by conv => { lhs; whnf })
  clear this
  exact ?s
def p13 : Stmt := by
  have : True := anyS (a := top 13) (s := ?s) (by conv => { lhs; whnf })
  clear this
  exact ?s
def p14 : Stmt := by
  have : True := anyS (a := top 14) (s := ?s) (by conv => { lhs; whnf })
  clear this
  exact ?s
def p15 : Stmt := by
  have : True := anyS (a := top 15) (s := ?s) (by conv => { lhs; whnf })
  clear this
  exact ?s
def p16 : Stmt := by
  have : True := anyS (a := top 16) (s := ?s) (by conv => { lhs; whnf })
  clear this
  exact ?s
def p17 : Stmt := by
  have : True := anyS (a := top 17) (s := ?s) (by conv => { lhs; whnf })
  clear this
  exact ?s
def p18 : Stmt := by
  have : True := anyS (a := top 18) (s := ?s) (by conv => { lhs; whnf })
  clear this
  exact ?s
def p19 : Stmt := by
  have : True := anyS (a := top 19) (s := ?s) (by conv => { lhs; whnf })
  clear this
  exact ?s
def p20 : Stmt := by
  have : True := anyS (a := top 20) (s := ?s) (by conv => { lhs; whnf })
  clear this
  exact ?s
def p21 : Stmt := by
  have : True := anyS (a := top 21) (s := ?s) (by conv => { lhs; whnf })
  clear this
  exact ?s
def p22 : Stmt := by
  have : True := anyS (a := top 22) (s := ?s) (by conv => { lhs; whnf })
  clear this
  exact ?s
def p23 : Stmt := by
  have : True := anyS (a := top 23) (s := ?s) (by conv => { lhs; whnf })
  clear this
  exact ?s
def p24 : Stmt := by
  have : True := anyS (a := top 24) (s := ?s) (by conv => { lhs; whnf })
  clear this
  exact ?s
def p25 : Stmt := by
  have : True := anyS (a := top 25) (s := ?s) (by conv => { lhs; whnf })
  clear this
  exact ?s
def p26 : Stmt := by
  have : True := anyS (a := top 26) (s := ?s) (by conv => { lhs; whnf })
  clear this
  exact ?s
def p27 : Stmt := by
  have : True := anyS (a := top 27) (s := ?s) (by conv => { lhs; whnf })
  clear this
  exact ?s
def p28 : Stmt := by
  have : True := anyS (a := top 28) (s := ?s) (by conv => { lhs; whnf })
  clear this
  exact ?s
def p29 : Stmt := by
  have : True := anyS (a := top 29) (s := ?s) (by conv => { lhs; whnf })
  clear this
  exact ?s
def p30 : Stmt := by
  have : True := anyS (a := top 30) (s := ?s) (by conv => { lhs; whnf })
  clear this
  exact ?s
def p31 : Stmt := by
  have : True := anyS (a := top 31) (s := ?s) (by conv => { lhs; whnf })
  clear this
  exact ?s
def p32 : Stmt := by
  have : True := anyS (a := top 32) (s := ?s) (by conv => { lhs; whnf })
  clear this
  exact ?s
def p33 : Stmt := by
  have : True := anyS (a := top 33) (s := ?s) (by conv => { lhs; whnf })
  clear this
  exact ?s
def p34 : Stmt := by
  have : True := anyS (a := top 34) (s := ?s) (by conv => { lhs; whnf })
  clear this
  exact ?s
def p35 : Stmt := by
  have : True := anyS (a := top 35) (s := ?s) (by conv => { lhs; whnf })
  clear this
  exact ?s
def p36 : Stmt := by
  have : True := anyS (a := top 36) (s := ?s) (by conv => { lhs; whnf })
  clear this
  exact ?s
def p37 : Stmt := by
  have : True := anyS (a := top 37) (s := ?s) (by conv => { lhs; whnf })
  clear this
  exact ?s
def p38 : Stmt := by
  have : True := anyS (a := top 38) (s := ?s) (by conv => { lhs; whnf })
  clear this
  exact ?s
def p39 : Stmt := by
  have : True := anyS (a := top 39) (s := ?s) (by conv => { lhs; whnf })
  clear this
  exact ?s
def p40 : Stmt := by
  have : True := anyS (a := top 40) (s := ?s) (by conv => { lhs; whnf })
  clear this
  exact ?s
def p41 : Stmt := by
  have : True := anyS (a := top 41) (s := ?s) (by conv => { lhs; whnf })
  clear this
  exact ?s
def p42 : Stmt := by
  have : True := anyS (a := top 42) (s := ?s) (by conv => { lhs; whnf })
  clear this
  exact ?s
def p43 : Stmt := by
  have : True := anyS (a := top 43) (s := ?s) (by conv => { lhs; whnf })
  clear this
  exact ?s
def p44 : Stmt := by
  have : True := anyS (a := top 44) (s := ?s) (by conv => { lhs; whnf })
  clear this
  exact ?s
def p45 : Stmt := by
  have : True := anyS (a := top 45) (s := ?s) (by conv => { lhs; whnf })
  clear this
  exact ?s
def psc : Scope := by
  have : True := anyC (a := PySem.Challenge.pw_sixcells_k02_refused.main.scope) (s := ?s) (by conv => { lhs; whnf })
  clear this
  exact ?s
def pgv : Given := by
  have : True := anyG (a := PySem.Challenge.pw_sixcells_k02_refused.given) (s := ?s) (by conv => { lhs; whnf })
  clear this
  exact ?s
def pq : Program := ⟨⟨[p0, p1, p2, p3, p4, p5, p6, p7, p8, p9, p10, p11, p12, p13, p14, p15, p16, p17, p18, p19, p20, p21, p22, p23, p24, p25, p26, p27, p28, p29, p30, p31, p32, p33, p34, p35, p36, p37, p38, p39, p40, p41, p42, p43, p44, p45], psc, false, "/claim/cut.py", []⟩, [], [], [], [], pgv⟩
def rq : PySem.W.OpenLaw := { name := (Str.ofString "law"), prog := pq, most := some 63, about := [(Str.ofString "stepped")], writes := false, foot := 14, bound := none }
theorem rq_eq : PySem.Challenge.rw_sixcells_k02_refused = rq := by kernel_rfl
end K02
/-! names taken ahead, so that the head does not write these twins out (each would be a term of the size of the square of the number of objects) -/
def PySem.W.Fast.tw4004842318198403959 : Unit := ()
def PySem.W.Fast.tw17883870181921295630 : Unit := ()
def PySem.W.Fast.tw14028634629724092231 : Unit := ()
def PySem.W.Fast.tw14918351188489841713 : Unit := ()
def PySem.W.Fast.tw1598216122913637263 : Unit := ()
def PySem.W.Fast.tw406917900867089941 : Unit := ()
def PySem.W.Fast.tw6828388505026084444 : Unit := ()
def PySem.W.Fast.tw15967198261919673719 : Unit := ()
def PySem.W.Fast.tw13494876607246704109 : Unit := ()
def PySem.W.Fast.tw2554336446102637798 : Unit := ()
def PySem.W.Fast.tw12579915928523499524 : Unit := ()
def PySem.W.Fast.tw7799301868041730120 : Unit := ()
open PySem PySem.W PyProof.Rows
set_option maxRecDepth 100000 in
set_option maxHeartbeats 0 in
theorem PySem.Challenge.cw_sixcells_k02_refused_holds : PySem.Challenge.rw_sixcells_k02_refused.Holds := by
  rw [K02.rq_eq]
  w_on; o_law; k_head; (case hw => w_witness2)
  k_fill
  refine K02.walk (l := K02.rq) rfl rfl (fun w h Y => PySem.W.kIn_of Y) (fun _ => ⟨fun _ => 0, fun _ => []⟩) ?F
  case F =>
    intro w mg fa h KX G hmg
    refine' K02.all_mk _ KX G hmg ?z_enumerate ?z_max ?z_list ?z_range ?z_isinstance ?z_int ?z_tuple ?z_abs ?z_sorted ?z_len ?z_bool ?z_ValueError ?aw0 ?lw0 ?aw1 ?lw1 ?lw1_0 ?lw1_1 ?lw1_2 ?lw1_3 ?lw1_4 ?lw1_5 ?a0 ?l0 ?c0 ?k0 ?a11 ?l11 ?c11 ?k11 ?a12 ?l12 ?c12 ?k12 ?a13 ?l13 ?c13 ?k13 ?a14 ?l14 ?c14 ?k14 ?a15 ?l15 ?c15 ?k15 ?t15 ?a16 ?l16 ?c16 ?k16 ?a17 ?l17 ?c17 ?k17 ?a19 ?l19 ?c19 ?k19 ?a20 ?l20 ?c20 ?k20 ?a22 ?l22 ?c22 ?k22 ?a23 ?l23 ?c23 ?k23 ?a24 ?l24 ?c24 ?k24 ?a25 ?l25 ?c25 ?k25 ?a26 ?l26 ?c26 ?k26 ?a27 ?l27 ?c27 ?k27 ?a29 ?l29 ?c29 ?k29 ?a32 ?l32 ?c32 ?k32 ?a33 ?l33 ?c33 ?k33 ?a34 ?l34 ?c34 ?k34 ?a35 ?l35 ?c35 ?k35 ?a36 ?l36 ?c36 ?k36 ?a37 ?l37 ?c37 ?k37 ?a38 ?l38 ?c38 ?k38 ?a39 ?l39 ?c39 ?k39 ?a40 ?l40 ?c40 ?k40 ?a41 ?l41 ?c41 ?k41 ?a42 ?l42 ?c42 ?k42 ?a43 ?l43 ?c43 ?k43 ?a44 ?l44 ?c44 ?k44 ?a45 ?l45 ?c45 ?k45 ?nC0 ?pg0 ?hd0 ?po0 ?sa0 ?no0_0 ?ca0 ?cg ?ck ?cm0 ?ic0 ?ty0 ?kt0_0 ?fi30_0_0 ?l30_0 ?c30_0 ?k30_0 ?fn30_0 ?mk0 ?ck0 ?fi30_1_0 ?l30_1 ?c30_1 ?k30_1 ?fn30_1 ?fi30_2_0 ?l30_2 ?c30_2 ?k30_2 ?fn30_2 ?fi30_3_0 ?l30_3 ?c30_3 ?k30_3 ?fn30_3 ?fi30_4_0 ?l30_4 ?c30_4 ?k30_4 ?fn30_4 ?fi30_5_0 ?l30_5 ?c30_5 ?k30_5 ?fn30_5 ?fi30_6_0 ?l30_6 ?c30_6 ?k30_6 ?fn30_6 ?fi30_7_0 ?l30_7 ?c30_7 ?k30_7 ?fn30_7 ?nC1 ?nC2 ?nC3 ?nC4 ?nC5 ?nC6 ?xcg ?xct ?bsp ?brd ?bin ?hcC2 ?htC2 ?hbC2 ?hcC1 ?htC1 ?hbC1 ?hcC6 ?htC6 ?hbC6 ?xcC1 ?xgC1 ?xkC1 ?xbC1 ?xoC1 ?xaC1 ?rC1C2 ?rC1C1 ?rC1C6 ?tC1C1 ?tC1C2 ?tC1C3 ?tC1C4 ?tC1C5 ?vC1 ?clC1 ?hdC1 ?atC1 ?saC1 ?fi3_0 ?eiC1 ?l3_0 ?c3_0 ?k3_0 ?fn3_0 ?xcC2 ?xgC2 ?xkC2 ?xbC2 ?xoC2 ?xaC2 ?rC2C2 ?rC2C1 ?rC2C6 ?tC2C1 ?tC2C2 ?tC2C3 ?tC2C4 ?tC2C5 ?vC2 ?clC2 ?hdC2 ?atC2 ?saC2 ?fi4_0 ?eiC2 ?l4_0 ?c4_0 ?k4_0 ?fn4_0 ?xcC3 ?xgC3 ?xkC3 ?xbC3 ?xoC3 ?xaC3 ?rC3C2 ?rC3C1 ?rC3C6 ?tC3C1 ?tC3C2 ?tC3C3 ?tC3C4 ?tC3C5 ?vC3 ?eC3 ?xcC4 ?xgC4 ?xkC4 ?xbC4 ?xoC4 ?xaC4 ?rC4C2 ?rC4C1 ?rC4C6 ?tC4C1 ?tC4C2 ?tC4C3 ?tC4C4 ?tC4C5 ?vC4 ?eC4 ?xcC5 ?xgC5 ?xkC5 ?xbC5 ?xoC5 ?xaC5 ?rC5C2 ?rC5C1 ?rC5C6 ?tC5C1 ?tC5C2 ?tC5C3 ?tC5C4 ?tC5C5 ?vC5 ?eC5
    (case z_enumerate => k_is)
    (case z_max => k_is)
    (case z_list => k_is)
    (case z_range => k_is)
    (case z_isinstance => k_is)
    (case z_int => k_is)
    (case z_tuple => k_is)
    (case z_abs => k_is)
    (case z_sorted => k_is)
    (case z_len => k_is)
    (case z_bool => k_is)
    (case z_ValueError => k_is)
    (case aw0 => k_is)
    (case lw0 => k_is)
    (case aw1 => k_is)
    (case lw1 => k_is)
    (case lw1_0 => k_is)
    (case lw1_1 => k_is)
    (case lw1_2 => k_is)
    (case lw1_3 => k_is)
    (case lw1_4 => k_is)
    (case lw1_5 => k_is)
    (case a0 => k_is)
    (case l0 => k_is)
    (case c0 => k_is)
    (case k0 => k_is)
    (case a11 => k_is)
    (case l11 => k_is)
    (case c11 => k_is)
    (case k11 => k_is)
    (case a12 => k_is)
    (case l12 => k_is)
    (case c12 => k_is)
    (case k12 => k_is)
    (case a13 => k_is)
    (case l13 => k_is)
    (case c13 => k_is)
    (case k13 => k_is)
    (case a14 => k_is)
    (case l14 => k_is)
    (case c14 => k_is)
    (case k14 => k_is)
    (case a15 => k_is)
    (case l15 => k_is)
    (case c15 => k_is)
    (case k15 => k_is)
    (case t15 => k_is)
    (case a16 => k_is)
    (case l16 => k_is)
    (case c16 => k_is)
    (case k16 => k_is)
    (case a17 => k_is)
    (case l17 => k_is)
    (case c17 => k_is)
    (case k17 => k_is)
    (case a19 => k_is)
    (case l19 => k_is)
    (case c19 => k_is)
    (case k19 => k_is)
    (case a20 => k_is)
    (case l20 => k_is)
    (case c20 => k_is)
    (case k20 => k_is)
    (case a22 => k_is)
    (case l22 => k_is)
    (case c22 => k_is)
    (case k22 => k_is)
    (case a23 => k_is)
    (case l23 => k_is)
    (case c23 => k_is)
    (case k23 => k_is)
    (case a24 => k_is)
    (case l24 => k_is)
    (case c24 => k_is)
    (case k24 => k_is)
    (case a25 => k_is)
    (case l25 => k_is)
    (case c25 => k_is)
    (case k25 => k_is)
    (case a26 => k_is)
    (case l26 => k_is)
    (case c26 => k_is)
    (case k26 => k_is)
    (case a27 => k_is)
    (case l27 => k_is)
    (case c27 => k_is)
    (case k27 => k_is)
    (case a29 => k_is)
    (case l29 => k_is)
    (case c29 => k_is)
    (case k29 => k_is)
    (case a32 => k_is)
    (case l32 => k_is)
    (case c32 => k_is)
    (case k32 => k_is)
    (case a33 => k_is)
    (case l33 => k_is)
    (case c33 => k_is)
    (case k33 => k_is)
    (case a34 => k_is)
    (case l34 => k_is)
    (case c34 => k_is)
    (case k34 => k_is)
    (case a35 => k_is)
    (case l35 => k_is)
    (case c35 => k_is)
    (case k35 => k_is)
    (case a36 => k_is)
    (case l36 => k_is)
    (case c36 => k_is)
    (case k36 => k_is)
    (case a37 => k_is)
    (case l37 => k_is)
    (case c37 => k_is)
    (case k37 => k_is)
    (case a38 => k_is)
    (case l38 => k_is)
    (case c38 => k_is)
    (case k38 => k_is)
    (case a39 => k_is)
    (case l39 => k_is)
    (case c39 => k_is)
    (case k39 => k_is)
    (case a40 => k_is)
    (case l40 => k_is)
    (case c40 => k_is)
    (case k40 => k_is)
    (case a41 => k_is)
    (case l41 => k_is)
    (case c41 => k_is)
    (case k41 => k_is)
    (case a42 => k_is)
    (case l42 => k_is)
    (case c42 => k_is)
    (case k42 => k_is)
    (case a43 => k_is)
    (case l43 => k_is)
    (case c43 => k_is)
    (case k43 => k_is)
    (case a44 => k_is)
    (case l44 => k_is)
    (case c44 => k_is)
    (case k44 => k_is)
    (case a45 => k_is)
    (case l45 => k_is)
    (case c45 => k_is)
    (case k45 => k_is)
    (case nC0 => k_is)
    (case pg0 => k_is)
    (case hd0 => k_is)
    (case po0 => k_is)
    (case sa0 => k_is)
    (case no0_0 => k_is)
    (case ca0 => k_is)
    (case cg => k_is)
    (case ck => k_is)
    (case cm0 => k_is)
    (case ic0 => k_is)
    (case ty0 => k_is)
    (case kt0_0 => k_is)
    (case fi30_0_0 => k_is)
    (case l30_0 => k_is)
    (case c30_0 => k_is)
    (case k30_0 => k_is)
    (case fn30_0 => k_is)
    (case mk0 => k_is)
    (case ck0 => k_is)
    (case fi30_1_0 => k_is)
    (case l30_1 => k_is)
    (case c30_1 => k_is)
    (case k30_1 => k_is)
    (case fn30_1 => k_is)
    (case fi30_2_0 => k_is)
    (case l30_2 => k_is)
    (case c30_2 => k_is)
    (case k30_2 => k_is)
    (case fn30_2 => k_is)
    (case fi30_3_0 => k_is)
    (case l30_3 => k_is)
    (case c30_3 => k_is)
    (case k30_3 => k_is)
    (case fn30_3 => k_is)
    (case fi30_4_0 => k_is)
    (case l30_4 => k_is)
    (case c30_4 => k_is)
    (case k30_4 => k_is)
    (case fn30_4 => k_is)
    (case fi30_5_0 => k_is)
    (case l30_5 => k_is)
    (case c30_5 => k_is)
    (case k30_5 => k_is)
    (case fn30_5 => k_is)
    (case fi30_6_0 => k_is)
    (case l30_6 => k_is)
    (case c30_6 => k_is)
    (case k30_6 => k_is)
    (case fn30_6 => k_is)
    (case fi30_7_0 => k_is)
    (case l30_7 => k_is)
    (case c30_7 => k_is)
    (case k30_7 => k_is)
    (case fn30_7 => k_is)
    (case nC1 => k_is)
    (case nC2 => k_is)
    (case nC3 => k_is)
    (case nC4 => k_is)
    (case nC5 => k_is)
    (case nC6 => k_is)
    (case xcg => k_is)
    (case xct => k_is)
    (case bsp => k_is)
    (case brd => k_is)
    (case bin => k_is)
    (case hcC2 => k_is)
    (case htC2 => k_is)
    (case hbC2 => k_is)
    (case hcC1 => k_is)
    (case htC1 => k_is)
    (case hbC1 => k_is)
    (case hcC6 => k_is)
    (case htC6 => k_is)
    (case hbC6 => k_is)
    (case xcC1 => k_is)
    (case xgC1 => k_is)
    (case xkC1 => k_is)
    (case xbC1 => k_is)
    (case xoC1 => k_is)
    (case xaC1 => k_is)
    (case rC1C2 => k_is)
    (case rC1C1 => k_is)
    (case rC1C6 => k_is)
    (case tC1C1 => kernel_rfl)
    (case tC1C2 => kernel_rfl)
    (case tC1C3 => kernel_rfl)
    (case tC1C4 => kernel_rfl)
    (case tC1C5 => kernel_rfl)
    (case vC1 => kernel_rfl)
    (case clC1 => k_is)
    (case hdC1 => k_is)
    (case atC1 => k_is)
    (case saC1 => k_is)
    (case fi3_0 => k_is)
    (case eiC1 => kernel_rfl)
    (case l3_0 => k_is)
    (case c3_0 => k_is)
    (case k3_0 => k_is)
    (case fn3_0 => k_is)
    (case xcC2 => k_is)
    (case xgC2 => k_is)
    (case xkC2 => k_is)
    (case xbC2 => k_is)
    (case xoC2 => k_is)
    (case xaC2 => k_is)
    (case rC2C2 => k_is)
    (case rC2C1 => k_is)
    (case rC2C6 => k_is)
    (case tC2C1 => kernel_rfl)
    (case tC2C2 => kernel_rfl)
    (case tC2C3 => kernel_rfl)
    (case tC2C4 => kernel_rfl)
    (case tC2C5 => kernel_rfl)
    (case vC2 => kernel_rfl)
    (case clC2 => k_is)
    (case hdC2 => k_is)
    (case atC2 => k_is)
    (case saC2 => k_is)
    (case fi4_0 => k_is)
    (case eiC2 => kernel_rfl)
    (case l4_0 => k_is)
    (case c4_0 => k_is)
    (case k4_0 => k_is)
    (case fn4_0 => k_is)
    (case xcC3 => k_is)
    (case xgC3 => k_is)
    (case xkC3 => k_is)
    (case xbC3 => k_is)
    (case xoC3 => k_is)
    (case xaC3 => k_is)
    (case rC3C2 => k_is)
    (case rC3C1 => k_is)
    (case rC3C6 => k_is)
    (case tC3C1 => kernel_rfl)
    (case tC3C2 => kernel_rfl)
    (case tC3C3 => kernel_rfl)
    (case tC3C4 => kernel_rfl)
    (case tC3C5 => kernel_rfl)
    (case vC3 => kernel_rfl)
    (case eC3 => k_exc)
    (case xcC4 => k_is)
    (case xgC4 => k_is)
    (case xkC4 => k_is)
    (case xbC4 => k_is)
    (case xoC4 => k_is)
    (case xaC4 => k_is)
    (case rC4C2 => k_is)
    (case rC4C1 => k_is)
    (case rC4C6 => k_is)
    (case tC4C1 => kernel_rfl)
    (case tC4C2 => kernel_rfl)
    (case tC4C3 => kernel_rfl)
    (case tC4C4 => kernel_rfl)
    (case tC4C5 => kernel_rfl)
    (case vC4 => kernel_rfl)
    (case eC4 => k_exc)
    (case xcC5 => k_is)
    (case xgC5 => k_is)
    (case xkC5 => k_is)
    (case xbC5 => k_is)
    (case xoC5 => k_is)
    (case xaC5 => k_is)
    (case rC5C2 => k_is)
    (case rC5C1 => k_is)
    (case rC5C6 => k_is)
    (case tC5C1 => kernel_rfl)
    (case tC5C2 => kernel_rfl)
    (case tC5C3 => kernel_rfl)
    (case tC5C4 => kernel_rfl)
    (case tC5C5 => kernel_rfl)
    (case vC5 => kernel_rfl)
    (case eC5 => k_exc)

