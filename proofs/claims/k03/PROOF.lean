import PyProof.Rows.All
import Wide.All
import OpenK.AllK
import Wide.FinOn
import Lean
import PyProof.EqAt
import PyProof.EqKinds
import PyProof.TupleCall
import PySem.Challenge.RW_seatweave_k03_one_row
set_option Elab.async false
set_option linter.all false
set_option maxRecDepth 100000
/-! THE HAND LAYER, for ints, bools, texts, own classes, LISTS and tuples (index, slices, in, append, pop ..), calls, loops. Paste it whole ahead of your own text; what your proof does not reach may be deleted. -/
namespace L2
open PySem PySem.Spec PyProof.Rows

/-- a key: an int or a str -/
abbrev Key := Sum Int Str
def keyIs : Key → Value → Bool
  | .inl k, v => Value.isInt k v
  | .inr x, v => Value.isStrOf x v
def keyH (w : World) : Key → Int
  | .inl k => hashInt k
  | .inr x => hashStr w x
theorem keyIs_shape : ∀ {k : Key} {v : Value}, keyIs k v = true → (∃ i t, k = Sum.inl i ∧ v = Value.int i t) ∨ (∃ x t, k = Sum.inr x ∧ v = Value.str x t)
  | .inl i, v, h => by
    obtain ⟨t, e⟩ := Value.isInt_shape (k := i) (v := v) h
    exact .inl ⟨i, t, rfl, e⟩
  | .inr x, v, h => by
    obtain ⟨t, e⟩ := Value.isStrOf_shape (x := x) (v := v) h
    exact .inr ⟨x, t, rfl, e⟩
theorem key_ll (a b : Int) : decide ((Sum.inl a : Key) = Sum.inl b) = (a == b) := by
  by_cases e : a = b
  · subst e; simp
  · have h : ¬ (Sum.inl a : Key) = Sum.inl b := fun q => e (Sum.inl.inj q)
    rw [decide_eq_false h]
    exact (beq_eq_false_iff_ne.mpr e).symm
theorem key_rr (a b : Str) : decide ((Sum.inr a : Key) = Sum.inr b) = decide (a = b) := by
  by_cases e : a = b
  · subst e; simp
  · have h : ¬ (Sum.inr a : Key) = Sum.inr b := fun q => e (Sum.inr.inj q)
    rw [decide_eq_false h, decide_eq_false e]
theorem key_lr (a : Int) (b : Str) : decide ((Sum.inl a : Key) = Sum.inr b) = false := decide_eq_false (fun q => nomatch q)
theorem key_rl (a : Str) (b : Int) : decide ((Sum.inr a : Key) = Sum.inl b) = false := decide_eq_false (fun q => nomatch q)

def mixKind (prog : Program) (w : World) : PySem.KeyKind prog w Key where
  is := keyIs
  hash := keyH w
  inj := fun v a b ha hb => by
    rcases keyIs_shape ha with ⟨i, t, rfl, rfl⟩ | ⟨x, t, rfl, rfl⟩
    · rcases keyIs_shape hb with ⟨j, u, rfl, e⟩ | ⟨y, u, rfl, e⟩
      · injection e with e1 _; rw [e1]
      · exact nomatch e
    · rcases keyIs_shape hb with ⟨j, u, rfl, e⟩ | ⟨y, u, rfl, e⟩
      · exact nomatch e
      · injection e with e1 _; rw [e1]
  byValue := fun k v h => by
    rcases keyIs_shape h with ⟨i, t, rfl, rfl⟩ | ⟨x, t, rfl, rfl⟩ <;> rfl
  pyHash := fun hv h => by
    rcases keyIs_shape hv with ⟨i, t, rfl, rfl⟩ | ⟨x, t, rfl, rfl⟩
    · exact wpAny_pyHash_int h
    · exact wpAny_pyHash_str h
  eqBool := fun hu hv h => by
    rcases keyIs_shape hu with ⟨i, t, rfl, rfl⟩ | ⟨x, t, rfl, rfl⟩
    · rcases keyIs_shape hv with ⟨j, u, rfl, rfl⟩ | ⟨y, u, rfl, rfl⟩
      · rw [key_ll] at h; exact wpAny_eqBool_int h
      · rw [key_lr] at h; exact SeqAt.EqAt.int_str i t y u _ _ _ _ h
    · rcases keyIs_shape hv with ⟨j, u, rfl, rfl⟩ | ⟨y, u, rfl, rfl⟩
      · rw [key_rl] at h; exact SeqAt.EqAt.str_int x t j u _ _ _ _ h
      · rw [key_rr] at h; exact wpAny_eqBool_str h
  «strs» := fun k x t v h => by
    rcases keyIs_shape h with ⟨i, u, rfl, e⟩ | ⟨y, u, rfl, e⟩
    · exact nomatch e
    · injection e with e1 _
      subst e1
      cases v <;> rfl

end L2

namespace L2
open PySem PySem.Spec PyProof.Rows

/-- a value, without the heap -/
inductive V where
  | non | bl (b : Bool) | int (i : Int) | str (x : Str) | byt (b : Array UInt8) | flt (b : UInt64) | ref (a : Addr) | ty (n : String)
  deriving DecidableEq

def RelV : V → Value → Prop
  | .non, u => u = Value.none
  | .bl b, u => u = Value.bool b
  | .int i, u => ∃ t, u = Value.int i t
  | .str x, u => ∃ t, u = Value.str x t
  | .byt b, u => ∃ t, u = Value.bytes b t
  | .flt b, u => ∃ t, u = Value.float b t
  | .ref a, u => u = Value.ref a
  | .ty n, u => u = Value.type n

abbrev Vals : List V → List Value → Prop := Paired RelV
theorem Vals.length {xs : List V} {us : List Value} (r : Vals xs us) : xs.length = us.length := Paired.length r
theorem Vals.get : ∀ {xs : List V} {us : List Value} {i : Nat} {x : V}, Vals xs us → xs[i]? = some x → ∃ u, us[i]? = some u ∧ RelV x u
  | _, _, _, _, .nil, e => by simp at e
  | _, _, 0, _, .cons r _, e => by simp at e; subst e; exact ⟨_, rfl, r⟩
  | _, _, i + 1, x, .cons _ t, e => by
    obtain ⟨u, h1, h2⟩ := Vals.get (i := i) (x := x) t (by simpa using e)
    exact ⟨u, by simpa using h1, h2⟩
theorem Vals.set {x : V} {u : Value} (r : RelV x u) : ∀ {xs : List V} {us : List Value} (i : Nat), Vals xs us → Vals (xs.set i x) (us.set i u)
  | _, _, _, .nil => .nil
  | _, _, 0, .cons _ t => .cons r t
  | _, _, i + 1, .cons q t => .cons q (Vals.set r i t)
theorem Vals.append : ∀ {xs ys : List V} {us ws : List Value}, Vals xs us → Vals ys ws → Vals (xs ++ ys) (us ++ ws)
  | _, _, _, _, .nil, s => s
  | _, _, _, _, .cons r t, s => .cons r (Vals.append t s)
def RelO : Option V → Option Value → Prop
  | some v, some u => RelV v u
  | none, none => True
  | _, _ => False
def KV {κ : Type} : List (κ × V) → List (κ × Value) → Prop := Paired fun (p : κ × V) (q : κ × Value) => p.1 = q.1 ∧ RelV p.2 q.2

/-- a key of a dict (00_mix): an int or a text -/
def kV : Key → V
  | .inl i => .int i
  | .inr x => .str x

/-- what stands at a tracked address -/
inductive HO where
  /-- a list -/
  | lst (xs : List V)
  /-- a tuple (never changes) -/
  | tup (xs : List V)
  /-- a dict whose keys are ints and texts; one whose keys are tuples of ints and texts (the empty one is both) -/
  | dK (kvs : List (Key × V)) | dT (kvs : List (List Key × V))
  /-- a set of ints: its members, its size -/
  | set (S : Int → Bool) (n : Nat)
  /-- an instance of the class at C, its dict at dx, its attributes -/
  | ins (C dx : Addr) (fs : List (Str × V))
  /-- the dict of the instance at x -/
  | own (x : Addr)
  /-- the dict of an exception -/
  | xd (fs : List (Str × V))
  /-- a bound method, f of x -/
  | met (f x : Addr)
  /-- a range object lo, lo + 1, .. below hi -/
  | rng (lo hi : Int)
  /-- a thing that is known to the object (the script; a dict while a loop walks it): read, never written while it is so -/
  | frz (o : Obj) (u : HO)
  /-- a code object's table -/
  | tbl (ps : Array Value)
  /-- any other thing, by what is true of its one object (a def of one's own: SetO a S n := HO.ext fun h => ..) -/
  | ext (φ : Heap → Prop)

abbrev Hp := Addr → Option HO
def upd (H : Hp) (a : Addr) (o : HO) : Hp := fun b => if b = a then some o else H b
theorem upd_same {H : Hp} {a : Addr} {o : HO} : upd H a o a = some o := by unfold upd; rw [if_pos rfl]
theorem upd_ne {H : Hp} {a b : Addr} {o : HO} (h : b ≠ a) : upd H a o b = H b := by unfold upd; rw [if_neg h]
/-- two objects of different content stand apart -/
theorem ne_of {H : Hp} {a b : Addr} {o u : HO} (h : H a = some o) (h' : H b = some u) (d : o ≠ u) : a ≠ b := by
  intro e; subst e; rw [h] at h'; exact d (Option.some.inj h')
theorem ne_of_none {H : Hp} {a b : Addr} {o : HO} (h : H a = some o) (h' : H b = none) : a ≠ b := by
  intro e; subst e; rw [h] at h'; cases h'

section
variable (P : Program) (w : World)
def ObjOk (H : Hp) (h : Heap) (a : Addr) : HO → Prop
  | .lst xs => xs.length ≤ sizeLine ∧ ∃ (its : List Value) (n : Nat), Vals xs its ∧ h.get? a = some { cls := .type "list", data := .seq its.toArray n }
  | .tup xs => xs.length ≤ sizeLine ∧ ∃ its : List Value, Vals xs its ∧ IsTup h a its.toArray
  | .dK kvs => kvs.length ≤ sizeLine ∧ (a == sysModules) = false ∧ ∃ vs, KV kvs vs ∧ h.DictOf (mixKind P w) a vs
  | .dT kvs => kvs.length ≤ sizeLine ∧ (a == sysModules) = false ∧ ∃ xs : List (List Key × Addr × Value),
      Paired (fun (p : List Key × V) (q : List Key × Addr × Value) => p.1 = q.1 ∧ H q.2.1 = some (.tup (p.1.map kV)) ∧ RelV p.2 q.2.2) kvs xs ∧
      ∃ o es ep, h.get? a = some o ∧ o.ExactDict ∧ o.data = .dict es ep ∧ es.toList = xs.map (entryOfKey (tupleKind (mixKind P w))) ∧ (xs.map (·.1)).Nodup
  | .set S n => h.SetOf (intKind P w) a S n
  | .ins C dx fs => H dx = some (.own a) ∧ fs.length ≤ 1000 ∧ dx ≠ a ∧ h.get? a = some (PySem.W.instObj C dx) ∧
      ∃ mA, h.Ns1 dx mA ∧ (∀ f, RelO (fs.lookup f) (mA f)) ∧ PySem.Within mA (fs.map (·.1))
  | .own _ => ∃ o, h.get? a = some o
  | .xd fs => ∃ mA, h.Ns1 a mA ∧ ∀ f, RelO (fs.lookup f) (mA f)
  | .rng lo hi => ∃ t u v, h.get? a = some { cls := .type "range", data := .fields #[.int lo t, .int hi u, .int 1 v] }
  | .frz o u => h.get? a = some o ∧ ObjOk H h a u
  | .tbl ps => h.get? a = some { cls := .none, data := .fields ps }
  | .met f x => h.get? a = some (PySem.W.methodObj (.ref f) (.ref x))
  | .ext φ => φ h ∧ (∃ o, h.get? a = some o) ∧ ∀ h1 h2 : Heap, φ h1 → (∀ o, h1.get? a = some o → h2.get? a = some o) → φ h2
/-- the abstract heap is held -/
def HOk (H : Hp) (h : Heap) : Prop := ∀ a o, H a = some o → ObjOk P w H h a o
end

section
variable {P : Program} {w : World} {H H' : Hp} {h h' : Heap} {a : Addr} {o : HO}
theorem ObjOk.lt (x : ObjOk P w H h a o) : a < h.objs.size := by
  cases o with
  | lst xs => obtain ⟨_, _, _, _, e⟩ := x; exact Heap.lt_size e
  | tup xs => obtain ⟨_, _, _, p⟩ := x; exact p.lt
  | dK kvs => obtain ⟨_, _, _, _, o, _, _, e, _⟩ := x; exact Heap.lt_size e
  | dT kvs => obtain ⟨_, _, _, _, o, _, _, e, _⟩ := x; exact Heap.lt_size e
  | set S n => obtain ⟨o, _, _, _, e, _⟩ := x; exact Heap.lt_size e
  | ins C dx fs => obtain ⟨_, _, _, e, _⟩ := x; exact Heap.lt_size e
  | own y => obtain ⟨_, e⟩ := x; exact Heap.lt_size e
  | xd fs => obtain ⟨_, ⟨_, _, _, e, _⟩, _⟩ := x; exact Heap.lt_size e
  | rng lo hi => obtain ⟨_, _, _, e⟩ := x; exact Heap.lt_size e
  | frz ob u => obtain ⟨e, _⟩ := x; exact Heap.lt_size e
  | tbl ps => exact Heap.lt_size (show h.get? a = some _ from x)
  | met f y => exact Heap.lt_size (show h.get? a = some _ from x)
  | ext φ => obtain ⟨_, ⟨_, e⟩, _⟩ := x; exact Heap.lt_size e
theorem Paired.mapP {α β : Type} {F G : α → β → Prop} : ∀ {l₁ : List α} {l₂ : List β}, Paired F l₁ l₂ → (∀ a b, F a b → G a b) → Paired G l₁ l₂
  | _, _, .nil, _ => .nil
  | _, _, .cons r t, f => .cons (f _ _ r) (Paired.mapP t f)
/-- what an object's description leans on: its own object, its own dict, the tuples -/
theorem ObjOk.stay (x : ObjOk P w H h a o) (k : ∀ b u, (b = a ∨ H b = some (.own a)) → h.get? b = some u → h'.get? b = some u)
    (ho : ∀ b, H b = some (.own a) → H' b = some (.own a)) (ht : ∀ b xs, H b = some (.tup xs) → H' b = some (.tup xs)) : ObjOk P w H' h' a o := by
  induction o with
  | lst xs => obtain ⟨z, its, n, r, e⟩ := x; exact ⟨z, its, n, r, k _ _ (.inl rfl) e⟩
  | tup xs => obtain ⟨z, its, r, ob, e, c⟩ := x; exact ⟨z, its, r, ob, k _ _ (.inl rfl) e, c⟩
  | dK kvs => obtain ⟨z, y, vs, r, ob, es, ep, e, c⟩ := x; exact ⟨z, y, vs, r, ob, es, ep, k _ _ (.inl rfl) e, c⟩
  | dT kvs =>
    obtain ⟨z, y, xs, r, ob, es, ep, e, c⟩ := x
    exact ⟨z, y, xs, Paired.mapP r fun p q z => ⟨z.1, ht _ _ z.2.1, z.2.2⟩, ob, es, ep, k _ _ (.inl rfl) e, c⟩
  | set S n => obtain ⟨ob, es, ep, t, e, c⟩ := x; exact ⟨ob, es, ep, t, k _ _ (.inl rfl) e, c⟩
  | ins C dx fs =>
    obtain ⟨d, z, ne, e, mA, ⟨od, es, ep, e2, c⟩, r⟩ := x
    exact ⟨ho _ d, z, ne, k _ _ (.inl rfl) e, mA, ⟨od, es, ep, k _ _ (.inr d) e2, c⟩, r⟩
  | own y => obtain ⟨ob, e⟩ := x; exact ⟨ob, k _ _ (.inl rfl) e⟩
  | xd fs => obtain ⟨mA, ⟨od, es, ep, e, c⟩, r⟩ := x; exact ⟨mA, ⟨od, es, ep, k _ _ (.inl rfl) e, c⟩, r⟩
  | rng lo hi => obtain ⟨t, u, v, e⟩ := x; exact ⟨t, u, v, k _ _ (.inl rfl) e⟩
  | frz ob u ih => obtain ⟨e, q⟩ := x; exact ⟨k _ _ (.inl rfl) e, ih q⟩
  | tbl ps =>
    have e : h.get? a = some { cls := .none, data := .fields ps } := x
    show h'.get? a = some { cls := .none, data := .fields ps }
    exact k a _ (.inl rfl) e
  | met f y =>
    have e : h.get? a = some (PySem.W.methodObj (.ref f) (.ref y)) := x
    show h'.get? a = some (PySem.W.methodObj (.ref f) (.ref y))
    exact k a _ (.inl rfl) e
  | ext φ => obtain ⟨p, ⟨o, e⟩, st⟩ := x; exact ⟨st _ _ p fun o q => k _ _ (.inl rfl) q, ⟨o, k _ _ (.inl rfl) e⟩, st⟩
theorem HOk.lt (x : HOk P w H h) (e : H a = some o) : a < h.objs.size := (x a o e).lt
theorem HOk.fresh (x : HOk P w H h) (e : h.objs.size ≤ a) : H a = none := by
  cases q : H a with
  | none => rfl
  | some u => exact absurd (Nat.lt_of_lt_of_le (x.lt q) e) (Nat.lt_irrefl _)
/-- every object of the heap is kept -/
theorem HOk.kept (x : HOk P w H h) (k : ∀ b u, h.get? b = some u → h'.get? b = some u) : HOk P w H h' := fun a o e =>
  (x a o e).stay (fun b u _ q => k b u q) (fun _ q => q) fun _ _ q => q
/-- a new object is laid and tracked -/
theorem HOk.laid (x : HOk P w H h) (k : ∀ b u, h.get? b = some u → h'.get? b = some u) (hp : h.objs.size ≤ a) (new : ObjOk P w (upd H a o) h' a o) : HOk P w (upd H a o) h' := fun b u e => by
  have hn := x.fresh hp
  by_cases hb : b = a
  · subst hb; rw [upd_same] at e; cases e; exact new
  · rw [upd_ne hb] at e
    exact (x b u e).stay (fun c v _ q => k c v q) (fun c q => by rw [upd_ne (ne_of_none q hn)]; exact q) fun c xs q => by rw [upd_ne (ne_of_none q hn)]; exact q
end

/-- what may be read as u: it is u, or a known u -/
def Rd (H : Hp) (a : Addr) (u : HO) : Prop := H a = some u ∨ ∃ o, H a = some (.frz o u)
theorem Rd.ok {P : Program} {w : World} {H : Hp} {h : Heap} {a : Addr} {u : HO} (r : Rd H a u) (x : HOk P w H h) : ObjOk P w H h a u := by
  rcases r with r | ⟨o, r⟩
  · exact x a u r
  · obtain ⟨_, q⟩ := x a _ r
    exact q
/-- what may be written -/
def Mut : Option HO → Prop
  | some (.lst _) => True
  | some (.dK _) => True
  | some (.dT _) => True
  | some (.set _ _) => True
  | some (.ins _ _ _) => True
  | some (.ext _) => True
  | _ => False
section
variable {P : Program} {w : World} {H : Hp} {h h' : Heap} {x e : Addr} {o' : HO}
/-- the object at e is changed: x itself, or the dict of the instance x -/
theorem HOk.write (ok : HOk P w H h) (mu : Mut (H x)) (he : e = x ∨ H e = some (.own x)) (k : ∀ b u, b ≠ e → h.get? b = some u → h'.get? b = some u) (heo : ∃ u, h'.get? e = some u)
    (new : ObjOk P w (upd H x o') h' x o') : HOk P w (upd H x o') h' := fun b u q => by
  have nown : ∀ c y, H c = some (.own y) → c ≠ x := fun c y r z => by subst z; rw [r] at mu; exact mu
  have ntup : ∀ c xs, H c = some (.tup xs) → c ≠ x := fun c xs r z => by subst z; rw [r] at mu; exact mu
  by_cases hb : b = x
  · subst hb; rw [upd_same] at q; cases q; exact new
  · rw [upd_ne hb] at q
    by_cases hbe : b = e
    · have q' : H b = some (.own x) := by
        rcases he with z | z
        · exact absurd (hbe.trans z) hb
        · rw [hbe]; exact z
      rw [q] at q'; cases q'
      obtain ⟨v, hv⟩ := heo
      exact ⟨v, by rw [hbe]; exact hv⟩
    · refine (ok b u q).stay (fun c v hc r => k c v ?_ r) (fun c r => by rw [upd_ne (nown c b r)]; exact r) fun c xs r => by rw [upd_ne (ntup c xs r)]; exact r
      rcases hc with rfl | hc
      · exact hbe
      · rintro rfl
        rcases he with z | z
        · exact nown c b hc z
        · rw [hc] at z; cases z; exact hb rfl
end

/-! ### kept unless tracked; of the frames at fs (the callers') the slots may change (an exception that passes writes there); of the records at ex (iterators) nothing is said -/
structure Un (fs ex : List Addr) (H H' : Hp) (h h' : Heap) : Prop where
  keep : ∀ b o, h.get? b = some o → H b = none → b ∉ fs → b ∉ ex → h'.get? b = some o
  slot : ∀ b o, h.get? b = some o → H b = none → b ∈ fs → b ∉ ex → ∃ sl, h'.get? b = some { o with slots := sl }
  free : ∀ b o, h.get? b = some o → H b = none → b ∉ ex → H' b = none
  there : ∀ b o, h.get? b = some o → b ∉ ex → ∃ o', h'.get? b = some o'
  tups : ∀ b xs, H b = some (.tup xs) → H' b = some (.tup xs)
  frzs : ∀ b o u, H b = some (.frz o u) → H' b = some (.frz o u)
  tbls : ∀ b ps, H b = some (.tbl ps) → ∃ more, H' b = some (.tbl (ps ++ more))
section
variable {fs fs' ex ex' : List Addr} {H H1 H2 : Hp} {h h1 h2 h' : Heap} {a x e : Addr} {o : HO}
theorem Un.any (u : Un fs ex H H1 h h1) {b : Addr} {ob : Obj} (q : h.get? b = some ob) (n : H b = none) (hx : b ∉ ex) : ∃ sl, h1.get? b = some { ob with slots := sl } := by
  by_cases hb : b ∈ fs
  · exact u.slot b ob q n hb hx
  · exact ⟨ob.slots, u.keep b ob q n hb hx⟩
theorem Un.kept (k : ∀ b u, h.get? b = some u → h'.get? b = some u) : Un fs ex H H h h' :=
  ⟨fun b ob q _ _ _ => k b ob q, fun b ob q _ _ _ => ⟨ob.slots, k b ob q⟩, fun _ _ _ n _ => n, fun b ob q _ => ⟨ob, k b ob q⟩, fun _ _ q => q, fun _ _ _ q => q, fun _ ps q => ⟨#[], by rw [q]; simp⟩⟩
theorem Un.refl : Un fs ex H H h h := Un.kept fun _ _ q => q
theorem Un.laid (k : ∀ b u, h.get? b = some u → h'.get? b = some u) (hp : h.objs.size ≤ a) (hn : H a = none) : Un fs ex H (upd H a o) h h' where
  keep := fun b u q _ _ _ => k b u q
  slot := fun b u q _ _ _ => ⟨u.slots, k b u q⟩
  free := fun b u q n _ => by rw [upd_ne (Nat.ne_of_lt (Nat.lt_of_lt_of_le (Heap.lt_size q) hp))]; exact n
  there := fun b u q _ => ⟨u, k b u q⟩
  tups := fun b xs q => by rw [upd_ne (ne_of_none q hn)]; exact q
  frzs := fun b u xs q => by rw [upd_ne (ne_of_none q hn)]; exact q
  tbls := fun b ps q => ⟨#[], by rw [upd_ne (ne_of_none q hn), q]; simp⟩
theorem Un.write (mu : Mut (H x)) (he : e = x ∨ H e = some (.own x)) (k : ∀ b u, b ≠ e → h.get? b = some u → h'.get? b = some u) (heo : ∃ u, h'.get? e = some u) : Un fs ex H (upd H x o) h h' := by
  have hx : ∀ b, H b = none → b ≠ x := fun b n z => by subst z; rw [n] at mu; exact mu
  have hb : ∀ b, H b = none → b ≠ e := fun b n z => by
    subst z
    rcases he with r | r
    · exact hx b n r
    · rw [n] at r; cases r
  have hm : ∀ b u, H b = some u → ¬ Mut (some u) → b ≠ x := fun b u q nm z => by subst z; rw [q] at mu; exact nm mu
  refine ⟨fun b u q n _ _ => k b u (hb b n) q, fun b u q n _ _ => ⟨u.slots, k b u (hb b n) q⟩, fun b u q n _ => by rw [upd_ne (hx b n)]; exact n, fun b u q _ => ?_,
    fun b xs q => by rw [upd_ne (hm b _ q fun z => z)]; exact q, fun b u xs q => by rw [upd_ne (hm b _ q fun z => z)]; exact q, fun b ps q => ⟨#[], by rw [upd_ne (hm b _ q fun z => z), q]; simp⟩⟩
  by_cases hbe : b = e
  · subst hbe; exact heo
  · exact ⟨u, k b u hbe q⟩
end

/-! ### the heap without what is tracked -/
def trk (h : Heap) (H : Hp) : List Addr := (List.range h.objs.size).filter fun a => (H a).isSome
def hidT (h : Heap) (H : Hp) : Heap := PySem.W.hideAll h (trk h H)
theorem hidT_size (h : Heap) (H : Hp) : (hidT h H).objs.size = h.objs.size := PySem.W.hideAll_size _ _
theorem hidT_get {h : Heap} {H : Hp} {b : Addr} {o : Obj} (e : h.get? b = some o) (n : H b = none) : (hidT h H).get? b = some o :=
  PySem.W.hideAll_get _ e fun hm => by
    have q : (H b).isSome = true := (List.mem_filter.mp hm).2
    rw [n] at q; simp at q
theorem of_hidT {h : Heap} {H : Hp} {b : Addr} {o : Obj} (e : (hidT h H).get? b = some o) : h.get? b = some o ∧ H b = none := by
  have e' : h.get? b = some o := PySem.W.of_hideAll (trk h H) e
  refine ⟨e', ?_⟩
  cases q : H b with
  | none => rfl
  | some x =>
    have hm : b ∈ trk h H := List.mem_filter.mpr ⟨List.mem_range.mpr (Heap.lt_size e'), by simp [q]⟩
    have z : (hidT h H).get? b = none := PySem.W.hideAll_none (trk h H) hm
    rw [z] at e; cases e

/-! ### OpenK's ledger, filled with every new object but one -/
def allNews (g h : Heap) (L : Addr) : List (Addr × Obj) := (List.range h.objs.size).filterMap fun a => if a = L ∨ (g.get? a).isSome = true then none else (h.get? a).map fun o => (a, o)
def rest (g h : Heap) (L d : Addr) : List (Addr × Obj) := (allNews g h L).filter fun p => decide (p.1 ≠ d)
end L2

namespace L2
open PySem PySem.Spec PyProof.Rows

/-- the module's facts, over the base: the heap at the law's entry without what is tracked there -/
structure Mod (K : PySem.W.Frag) (mg : Str → Option Value) (base : Heap) : Prop where
  kin : K.In base
  glob : base.Ns mainGlobals mg
  blt : ∃ mb, base.Ns builtinsNs mb ∧ ∀ x : Str, x ≠ "__name__" → mb x = bootBuiltins x
  nolimit : base.NoLimit

/-- the context: a def's body (or a comprehension's block) running. base: fixed through the whole law; s₀, H₀: the entry; outer: the frames whose slots others may change (a def's callers); stack: all frames that run;
   ex: iterators that were made ahead of the entry and are walked here (a comprehension's); fn: the names whose cells were made at the entry (a def: all; a comprehension's block: its own); calm: not within an except suite; pn: pins that every state bears; xe: what is wanted of an exception that leaves the code -/
structure Cx where
  prog : Program
  w : World
  K : PySem.W.Frag
  mg : Str → Option Value
  base : Heap
  A : Around
  N : List Str
  s₀ : Shared
  H₀ : Hp
  env : Env
  outer : List Env
  stack : List Env
  ex : List Addr
  fn : Str → Bool
  calm : Bool
  pn : List (Addr × Obj)
  xe : Value → Shared → Prop
/-- the callers' frames -/
def frs (l : List Env) : List Addr := l.filterMap (·.frame)
abbrev Cx.fs (X : Cx) : List Addr := frs X.outer

def Vis (sc : Scope) (x : Str) : Prop := sc.names.lookup x = some .local ∨ sc.names.lookup x = some .cell ∨ sc.names.lookup x = some .free
def Loc (sc : Scope) (x : Str) : Prop := sc.names.lookup x = some .local ∨ sc.names.lookup x = some .cell
def Look (env : Env) (h : Heap) (m : Str → Option Value) (x : Str) (u : Value) : Prop :=
  (env.kindOf x = some .local ∧ m x = some u) ∨ ((env.kindOf x = some .cell ∨ env.kindOf x = some .free) ∧ ∃ c, env.cells.lookup x = some c ∧ h.IsCell c (some u))

structure Cx.Ok (X : Cx) : Prop where
  mod : Mod X.K X.mg X.base
  kind : X.env.scope.kind = .function
  glob : X.env.globals = mainGlobals
  blt : X.env.builtins = builtinsNs
  above : X.s₀.heap.objs.size ≤ X.env.locals
  inj : ∀ x y c, X.env.cells.lookup x = some c → X.env.cells.lookup y = some c → x = y
  has : ∀ x, (X.env.kindOf x = some .cell ∨ X.env.kindOf x = some .free) → ∃ c, X.env.cells.lookup x = some c
  cab : ∀ x c, X.fn x = true → X.env.cells.lookup x = some c → X.s₀.heap.objs.size ≤ c
  hd : X.calm = true → X.A.handled = none
  frames : X.A.frames = some X.stack
  stk : X.stack = X.outer ∨ (X.stack = X.env :: X.outer ∧ X.env.frame = some X.env.locals)
  exf : ∀ b ∈ X.ex, b ≠ X.env.locals ∧ ∀ x c, X.env.cells.lookup x = some c → c ≠ b
  bs : ∀ b o, X.base.get? b = some o → X.s₀.heap.get? b = some o ∧ X.H₀ b = none
  bsz : X.base.objs.size ≤ X.s₀.heap.objs.size
  noex : ∀ b o, X.base.get? b = some o → b ∉ X.ex
  exfs : ∀ b ∈ X.ex, b ∉ X.fs
  funs : X.s₀.heap.FunFrames X.base X.outer
  frf : ∀ b ∈ X.fs, X.H₀ b = none

structure Inv (X : Cx) (pins : List (Addr × Obj)) (σ : List (Option V)) (H : Hp) (s : Shared) : Prop where
  ok : X.Ok
  os : s.os = X.s₀.os
  bare : AllBare s.gens
  base : Un X.fs X.ex X.H₀ H X.s₀.heap s.heap
  loc : ∃ m, s.heap.Ns X.env.locals m ∧ ∀ (i : Nat) (x : Str) (v : V), X.N[i]? = some x → σ[i]? = some (some v) → Vis X.env.scope x → ∃ u, RelV v u ∧ Look X.env s.heap m x u
  cell : ∀ x c, X.env.cells.lookup x = some c → ∃ v, s.heap.IsCell c v
  free : H X.env.locals = none
  freeC : ∀ x c, X.env.cells.lookup x = some c → H c = none
  pin : ∀ p ∈ X.pn ++ pins, s.heap.get? p.1 = some p.2 ∧ H p.1 = none ∧ p.1 ≠ X.env.locals ∧ p.1 ∉ X.fs ∧ ∀ v, p.2.data ≠ .cell v
  hok : HOk X.prog X.w H s.heap
  len : σ.length = X.N.length

section
variable {X : Cx} {pins : List (Addr × Obj)} {σ : List (Option V)} {H H' : Hp} {s : Shared} {h' : Heap}

theorem Cx.Ok.nofr (ok : X.Ok) {b : Addr} {o : Obj} (e : X.base.get? b = some o) : b ∉ X.fs := fun hb => by
  have := (ok.funs.mem hb).1
  rw [e] at this; cases this
theorem Inv.bs (I : Inv X pins σ H s) : ∀ b o, X.base.get? b = some o → s.heap.get? b = some o ∧ H b = none := fun b o e =>
  ⟨I.base.keep b o (I.ok.bs b o e).1 (I.ok.bs b o e).2 (I.ok.nofr e) (I.ok.noex b o e), I.base.free b o (I.ok.bs b o e).1 (I.ok.bs b o e).2 (I.ok.noex b o e)⟩
theorem Inv.bk (I : Inv X pins σ H s) : ∀ b o, X.base.get? b = some o → s.heap.get? b = some o := fun b o e => (I.bs b o e).1
theorem Inv.mod (I : Inv X pins σ H s) : Mod X.K X.mg X.base := I.ok.mod
theorem Inv.kIn (I : Inv X pins σ H s) : X.K.In s.heap := I.ok.mod.kin.keeps I.bk
theorem Inv.lt (I : Inv X pins σ H s) : X.env.locals < s.heap.objs.size := let ⟨_, hn, _⟩ := I.loc; hn.lt
theorem Inv.sz (I : Inv X pins σ H s) : X.s₀.heap.objs.size ≤ s.heap.objs.size := Nat.le_trans I.ok.above (Nat.le_of_lt I.lt)
theorem Inv.nofs (I : Inv X pins σ H s) {a : Addr} (h : s.heap.objs.size ≤ a) : a ∉ X.fs := fun hb => by
  obtain ⟨_, o, ho, _⟩ := I.ok.funs.mem hb
  exact absurd (Nat.lt_of_lt_of_le (Heap.lt_size ho) (Nat.le_trans I.sz h)) (Nat.lt_irrefl _)
theorem Inv.cne (I : Inv X pins σ H s) : ∀ x c, X.env.cells.lookup x = some c → c ≠ X.env.locals := fun x c e z => by
  obtain ⟨v, o, ho, hd⟩ := I.cell x c e
  obtain ⟨m, ⟨o', es, ep, ho', hd', _⟩, _⟩ := I.loc
  rw [z, ho'] at ho; cases ho; rw [hd'] at hd; cases hd
theorem Inv.funs (I : Inv X pins σ H s) : s.heap.FunFrames X.base X.outer := by
  have all : ∀ (l : List Env), (∀ b ∈ frs l, b ∈ X.fs) → X.s₀.heap.FunFrames X.base l → s.heap.FunFrames X.base l := by
    intro l
    induction l with
    | nil => intro _ _; trivial
    | cons env r ih =>
      intro hs hl
      obtain ⟨hk, ⟨L, o, hf, hn, ho, hd⟩, hr⟩ := hl
      have hL : L ∈ X.fs := hs L (by unfold frs; rw [List.filterMap_cons, hf]; exact List.mem_cons_self)
      obtain ⟨sl, e⟩ := I.base.slot L o ho (I.ok.frf L hL) hL fun z => I.ok.exfs L z hL
      exact ⟨hk, ⟨L, _, hf, hn, e, hd⟩, ih (fun b hb => hs b (by unfold frs; rw [List.filterMap_cons, hf]; exact List.mem_cons_of_mem _ hb)) hr⟩
  exact all X.outer (fun _ hb => hb) I.ok.funs

/-- the frames that run, for a call -/
theorem Inv.stack (I : Inv X pins σ H s) : s.heap.FunFrames X.base X.stack := by
  rcases I.ok.stk with e | ⟨e, hf⟩
  · rw [e]; exact I.funs
  · rw [e]
    obtain ⟨m, hn, _⟩ := I.loc
    refine .cons (by rw [I.ok.kind]; decide) hf hn ?_ I.funs
    exact Heap.get?_none_of_le (Nat.le_trans I.ok.bsz I.ok.above)
theorem Inv.stkSub (I : Inv X pins σ H s) : ∀ b ∈ frs X.stack, b ∈ X.env.locals :: X.fs := fun b hb => by
  rcases I.ok.stk with e | ⟨e, hf⟩
  · rw [e] at hb; exact List.mem_cons_of_mem _ hb
  · rw [e] at hb
    unfold frs at hb
    rw [List.filterMap_cons, hf] at hb
    exact hb
theorem Inv.stkFree (I : Inv X pins σ H s) : ∀ b ∈ frs X.stack, H b = none := fun b hb => by
  rcases List.mem_cons.mp (I.stkSub b hb) with e | hb
  · rw [e]; exact I.free
  · obtain ⟨_, o, ho, _⟩ := I.ok.funs.mem hb
    exact I.base.free b o ho (I.ok.frf b hb) fun z => I.ok.exfs b z hb

/-- THE STEP: the untracked objects but the frame and the records at ch are kept (the callers' frames up to slots), the frame's map is kept, the new abstract heap is held -/
theorem Inv.step {g' : Array GenState} {t' : Nat} {d' : Drawn} {ch : List Addr} (I : Inv X pins σ H s)
    (hch : ∀ b ∈ ch, (b ∈ X.ex ∨ X.s₀.heap.objs.size ≤ b) ∧ b ≠ X.env.locals ∧ (∀ x c, X.env.cells.lookup x = some c → c ≠ b) ∧ ∀ p ∈ X.pn ++ pins, p.1 ≠ b)
    (keep : ∀ b o, b ≠ X.env.locals → b ∉ X.fs → b ∉ ch → s.heap.get? b = some o → H b = none → h'.get? b = some o)
    (slot : ∀ b o, b ≠ X.env.locals → b ∈ X.fs → b ∉ ch → s.heap.get? b = some o → H b = none → ∃ sl, h'.get? b = some { o with slots := sl }) (free : ∀ b o, b ∉ ch → s.heap.get? b = some o → H b = none → H' b = none)
    (there : ∀ b o, b ∉ ch → s.heap.get? b = some o → ∃ o', h'.get? b = some o')
    (tups : ∀ b xs, H b = some (.tup xs) → H' b = some (.tup xs)) (frzs : ∀ b o u, H b = some (.frz o u) → H' b = some (.frz o u)) (tbls : ∀ b ps, H b = some (.tbl ps) → ∃ more, H' b = some (.tbl (ps ++ more)))
    (ns : ∀ m, s.heap.Ns X.env.locals m → h'.Ns X.env.locals m) (hok : HOk X.prog X.w H' h') (hg : AllBare g') :
    Inv X pins σ H' { s with heap := h', gens := g', drawn := d', toks := t' } := by
  have neL : ∀ b o, X.s₀.heap.get? b = some o → b ≠ X.env.locals := fun b o e => Nat.ne_of_lt (Nat.lt_of_lt_of_le (Heap.lt_size e) I.ok.above)
  have neC : ∀ b o, X.s₀.heap.get? b = some o → b ∉ X.ex → b ∉ ch := fun b o e hx hb => by
    rcases (hch b hb).1 with z | z
    · exact hx z
    · exact absurd (Nat.lt_of_lt_of_le (Heap.lt_size e) z) (Nat.lt_irrefl _)
  have cellK : ∀ x c, X.env.cells.lookup x = some c → ∀ v, s.heap.IsCell c v → h'.IsCell c v := fun x c e v ⟨o, ho, hd⟩ => by
    have nch : c ∉ ch := fun z => (hch c z).2.2.1 x c e rfl
    by_cases hc : c ∈ X.fs
    · obtain ⟨sl, q⟩ := slot c o (I.cne x c e) hc nch ho (I.freeC x c e)
      exact ⟨_, q, hd⟩
    · exact ⟨o, keep c o (I.cne x c e) hc nch ho (I.freeC x c e), hd⟩
  refine ⟨I.ok, I.os, hg, ⟨fun b o e n hb hx => ?_, fun b o e n hb hx => ?_, fun b o e n hx => ?_, fun b o e hx => ?_, fun b xs e => tups b xs (I.base.tups b xs e), fun b o xs e => frzs b o xs (I.base.frzs b o xs e), fun b ps e => ?_⟩, ?_, fun x c e => ?_, ?_, fun x c e => ?_, fun p hp => ?_, hok, I.len⟩
  · exact keep b o (neL b o e) hb (neC b o e hx) (I.base.keep b o e n hb hx) (I.base.free b o e n hx)
  · obtain ⟨sl, e1⟩ := I.base.slot b o e n hb hx
    obtain ⟨sl', e2⟩ := slot b _ (neL b o e) hb (neC b o e hx) e1 (I.base.free b o e n hx)
    exact ⟨sl', e2⟩
  · obtain ⟨o', e1⟩ := I.base.there b o e hx
    exact free b o' (neC b o e hx) e1 (I.base.free b o e n hx)
  · obtain ⟨o', e1⟩ := I.base.there b o e hx
    exact there b o' (neC b o e hx) e1
  · obtain ⟨m1, e1⟩ := I.base.tbls b ps e
    obtain ⟨m2, e2⟩ := tbls b _ e1
    exact ⟨m1 ++ m2, by rw [e2, Array.append_assoc]⟩
  · obtain ⟨m, hn, hl⟩ := I.loc
    refine ⟨m, ns m hn, fun i x v e1 e2 e3 => ?_⟩
    obtain ⟨u, r, l⟩ := hl i x v e1 e2 e3
    refine ⟨u, r, ?_⟩
    rcases l with l | ⟨k, c, e, z⟩
    · exact .inl l
    · exact .inr ⟨k, c, e, cellK x c e _ z⟩
  · obtain ⟨v, z⟩ := I.cell x c e
    exact ⟨v, cellK x c e v z⟩
  · obtain ⟨m, ⟨o, _, _, ho, _⟩, _⟩ := I.loc
    exact free _ o (fun z => (hch _ z).2.1 rfl) ho I.free
  · obtain ⟨v, o, ho, hd⟩ := I.cell x c e
    exact free c o (fun z => (hch c z).2.2.1 x c e rfl) ho (I.freeC x c e)
  · obtain ⟨e, n, ne, nf, d⟩ := I.pin p hp
    have nch : p.1 ∉ ch := fun z => (hch p.1 z).2.2.2 p hp rfl
    exact ⟨keep p.1 p.2 ne nf nch e n, free p.1 p.2 nch e n, ne, nf, d⟩
/-- .. where the frame's own object is kept too -/
theorem Inv.un {t' : Nat} (I : Inv X pins σ H s) (u : Un X.fs [] H H' s.heap h') (hok : HOk X.prog X.w H' h') : Inv X pins σ H' { s with heap := h', toks := t' } := by
  obtain ⟨m, ⟨o, es, ep, ho, r⟩, _⟩ := id I.loc
  obtain ⟨sl, hL⟩ := u.any ho I.free (by simp)
  exact I.step (g' := s.gens) (d' := s.drawn) (ch := []) (fun _ z => nomatch z) (fun b o _ hb _ e n => u.keep b o e n hb (by simp)) (fun b o _ hb _ e n => u.slot b o e n hb (by simp)) (fun b o _ e n => u.free b o e n (by simp)) (fun b o _ e => u.there b o e (by simp)) u.tups u.frzs u.tbls (fun m' hm => by
    obtain ⟨o', es', ep', ho', r'⟩ := hm
    rw [ho] at ho'; cases ho'
    exact ⟨_, es', ep', hL, r'⟩) hok I.bare
/-- behind a call (or a comprehension's block): the slots of this frame may have changed too, the records at ch may have turned -/
theorem Inv.call {g' : Array GenState} {t' : Nat} {d' : Drawn} {ch : List Addr} (I : Inv X pins σ H s) (u : Un (frs X.stack) ch H H' s.heap h') (hok : HOk X.prog X.w H' h') (hg : AllBare g')
    (hch : ∀ b ∈ ch, (b ∈ X.ex ∨ X.s₀.heap.objs.size ≤ b) ∧ b ≠ X.env.locals ∧ (∀ x c, X.env.cells.lookup x = some c → c ≠ b) ∧ ∀ p ∈ X.pn ++ pins, p.1 ≠ b) :
    Inv X pins σ H' { s with heap := h', gens := g', drawn := d', toks := t' } := by
  obtain ⟨m, ⟨o, es, ep, ho, r⟩, _⟩ := id I.loc
  obtain ⟨sl, hL⟩ := u.any ho I.free fun z => (hch _ z).2.1 rfl
  exact I.step (ch := ch) hch (fun b o hL hb hc e n => u.keep b o e n (fun z => (List.mem_cons.mp (I.stkSub b z)).elim hL hb) hc) (fun b o _ _ hc e n => u.any e n hc) (fun b o hc e n => u.free b o e n hc) (fun b o hc e => u.there b o e hc) u.tups u.frzs u.tbls (fun m' hm => by
    obtain ⟨o', es', ep', ho', r'⟩ := hm
    rw [ho] at ho'; cases ho'
    exact ⟨_, es', ep', hL, r'⟩) hok hg
/-- an untracked record of ours (an iterator) has turned -/
theorem Inv.turned {t' : Nat} {it : Addr} (I : Inv X pins σ H s) (k : ∀ b o, b ≠ it → s.heap.get? b = some o → h'.get? b = some o) (hn : H it = none) (hL : it ≠ X.env.locals)
    (h1 : it ∈ X.ex ∨ X.s₀.heap.objs.size ≤ it) (h2 : ∀ x c, X.env.cells.lookup x = some c → c ≠ it) (h3 : ∀ p ∈ X.pn ++ pins, p.1 ≠ it) : Inv X pins σ H { s with heap := h', toks := t' } := by
  have nit : ∀ b u, H b = some u → b ≠ it := fun b u e z => by rw [z, hn] at e; cases e
  refine I.step (g' := s.gens) (d' := s.drawn) (ch := [it]) (fun b hb => ?_) (fun b o _ _ hc e _ => k b o (fun z => hc (by simp [z])) e) (fun b o _ _ hc e _ => ⟨o.slots, k b o (fun z => hc (by simp [z])) e⟩) (fun _ _ _ _ n => n)
    (fun b o hc e => ⟨o, k b o (fun z => hc (by simp [z])) e⟩) (fun _ _ e => e) (fun _ _ _ e => e) (fun b ps e => ⟨#[], by rw [e]; simp⟩) (fun m hm => ?_) (fun b u e => ?_) I.bare
  · have e : b = it := by simpa using hb
    subst e
    exact ⟨h1, hL, h2, h3⟩
  · obtain ⟨o, es, ep, ho, r⟩ := hm
    exact ⟨o, es, ep, k _ o (Ne.symm hL) ho, r⟩
  · refine (I.hok b u e).stay (fun c v hc q => k c v ?_ q) (fun _ q => q) fun _ _ q => q
    rcases hc with z | z
    · rw [z]; exact nit b u e
    · exact nit c _ z
theorem Inv.tok (I : Inv X pins σ H s) (t : Nat) : Inv X pins σ H { s with toks := t } := I.un (h' := s.heap) (t' := t) Un.refl I.hok
/-- all objects kept -/
theorem Inv.kept {t' : Nat} (I : Inv X pins σ H s) (k : ∀ b u, s.heap.get? b = some u → h'.get? b = some u) : Inv X pins σ H { s with heap := h', toks := t' } := I.un (Un.kept k) (I.hok.kept k)
/-- a new object laid and tracked -/
theorem Inv.laid {a : Addr} {o : HO} {t' : Nat} (I : Inv X pins σ H s) (k : ∀ b u, s.heap.get? b = some u → h'.get? b = some u) (hp : s.heap.objs.size ≤ a) (new : ObjOk X.prog X.w (upd H a o) h' a o) :
    Inv X pins σ (upd H a o) { s with heap := h', toks := t' } := I.un (Un.laid k hp (I.hok.fresh hp)) (I.hok.laid k hp new)
/-- an object written -/
theorem Inv.write {x e : Addr} {o : HO} {t' : Nat} (I : Inv X pins σ H s) (mu : Mut (H x)) (he : e = x ∨ H e = some (.own x)) (k : ∀ b u, b ≠ e → s.heap.get? b = some u → h'.get? b = some u) (heo : ∃ u, h'.get? e = some u)
    (new : ObjOk X.prog X.w (upd H x o) h' x o) : Inv X pins σ (upd H x o) { s with heap := h', toks := t' } := I.un (Un.write mu he k heo) (I.hok.write mu he k heo new)
/-- forgetting slots, pins -/
theorem Inv.weak {σ' : List (Option V)} (I : Inv X pins σ H s) (hl : σ'.length = σ.length) (w : ∀ (i : Nat) v, σ'[i]? = some (some v) → σ[i]? = some (some v)) : Inv X pins σ' H s :=
  ⟨I.ok, I.os, I.bare, I.base, let ⟨m, hn, hl'⟩ := I.loc; ⟨m, hn, fun i x v e1 e2 e3 => hl' i x v e1 (w i v e2) e3⟩, I.cell, I.free, I.freeC, I.pin, I.hok, hl.trans I.len⟩
theorem Inv.pins_of {pins' : List (Addr × Obj)} (I : Inv X pins σ H s) (h : ∀ p ∈ pins', s.heap.get? p.1 = some p.2 ∧ H p.1 = none ∧ p.1 ≠ X.env.locals ∧ p.1 ∉ X.fs ∧ ∀ v, p.2.data ≠ .cell v) : Inv X pins' σ H s :=
  ⟨I.ok, I.os, I.bare, I.base, I.loc, I.cell, I.free, I.freeC, fun p hp => (List.mem_append.mp hp).elim (fun z => I.pin p (List.mem_append_left _ z)) (h p), I.hok, I.len⟩

theorem nodup_ix {N : List Str} (hN : N.Nodup) {i j : Nat} {x : Str} (a : N[i]? = some x) (b : N[j]? = some x) : i = j := by
  obtain ⟨h1, e1⟩ := List.getElem?_eq_some_iff.mp a
  obtain ⟨h2, e2⟩ := List.getElem?_eq_some_iff.mp b
  exact (List.getElem_inj hN).mp (e1.trans e2.symm)

/-- a name is stored; what changed -/
theorem store_ok2 {M : Model} {A : Around} {E : Value → Shared → Prop} {i : Nat} {x : Str} {v : V} {u : Value} {Q : Unit → Shared → Prop} (I : Inv X pins σ H s) (hN : X.N.Nodup) (hi : X.N[i]? = some x) (hx : Loc X.env.scope x) (r : RelV v u)
    (h : ∀ s', Inv X pins (σ.set i (some v)) H s' → (∃ a, Heap.SameBut a s.heap s'.heap ∧ (a = X.env.locals ∨ X.env.cells.lookup x = some a)) → Q () s') (hf : X.fn x = true ∨ X.env.scope.names.lookup x = some .local := by first | exact .inl rfl | exact .inr rfl | assumption) : wpAny M A (storeName X.env x u) Q E s := by
  obtain ⟨m, hn, hl⟩ := id I.loc
  have hcls : (X.env.scope.kind == .class || (X.env.scope.kind == .module && X.env.locals != X.env.globals)) = false := by rw [I.ok.kind]; rfl
  have hiσ : i < σ.length := by rw [I.len]; exact (List.getElem?_eq_some_iff.mp hi).1
  have cne := I.cne
  have tracked : ∀ {a : Addr} {h' : Heap}, (∃ o, s.heap.get? a = some o ∧ H a = none) → Heap.SameBut a s.heap h' → HOk X.prog X.w H h' := fun {a h'} ha hs b ob e => by
    obtain ⟨_, _, hfree⟩ := ha
    refine (I.hok b ob e).stay (fun c w' hc q => (hs.2 c ?_).trans q) (fun _ q => q) fun _ _ q => q
    rintro rfl
    rcases hc with rfl | hc
    · rw [hfree] at e; cases e
    · rw [hfree] at hc; cases hc
  rcases hx with hk | hk
  · refine wpAny_storeName_local hk hn (fun h' hn' hs => ?_) hcls
    obtain ⟨oL, _, _, hoL, _⟩ := id hn
    refine h _ ⟨I.ok, I.os, I.bare, ⟨fun b o e n hb hx => ?_, fun b o e n hb hx => ?_, I.base.free, fun b o e hx => ?_, I.base.tups, I.base.frzs, I.base.tbls⟩, ⟨_, hn', fun j y v' e1 e2 e3 => ?_⟩, fun y c e => ?_, I.free, I.freeC, fun p hp => ?_, tracked ⟨oL, hoL, I.free⟩ hs, by simpa using I.len⟩ ⟨_, hs, .inl rfl⟩
    · exact (hs.2 b (Nat.ne_of_lt (Nat.lt_of_lt_of_le (Heap.lt_size e) I.ok.above))).trans (I.base.keep b o e n hb hx)
    · obtain ⟨sl, e1⟩ := I.base.slot b o e n hb hx
      exact ⟨sl, (hs.2 b (Nat.ne_of_lt (Nat.lt_of_lt_of_le (Heap.lt_size e) I.ok.above))).trans e1⟩
    · obtain ⟨o', e1⟩ := I.base.there b o e hx
      exact ⟨o', (hs.2 b (Nat.ne_of_lt (Nat.lt_of_lt_of_le (Heap.lt_size e) I.ok.above))).trans e1⟩
    · by_cases hj : j = i
      · subst hj
        rw [hi] at e1; cases e1
        rw [List.getElem?_set_self hiσ] at e2
        cases e2
        exact ⟨u, r, .inl ⟨hk, by simp⟩⟩
      · rw [List.getElem?_set_ne (Ne.symm hj)] at e2
        obtain ⟨u', r', q⟩ := hl j y v' e1 e2 e3
        refine ⟨u', r', ?_⟩
        rcases q with ⟨k, e⟩ | ⟨k, c, e, z⟩
        · refine .inl ⟨k, ?_⟩
          have : y ≠ x := fun e => hj (nodup_ix hN e1 (e ▸ hi))
          simp [this, e]
        · exact .inr ⟨k, c, e, z.sameBut hs (cne y c e)⟩
    · obtain ⟨w', z⟩ := I.cell y c e
      exact ⟨w', z.sameBut hs (cne y c e)⟩
    · obtain ⟨e, n, ne, nf, d⟩ := I.pin p hp
      exact ⟨(hs.2 p.1 ne).trans e, n, ne, nf, d⟩
  · have hfn : X.fn x = true := by
      rcases hf with z | z
      · exact z
      · rw [z] at hk; cases hk
    obtain ⟨c, hc⟩ := I.ok.has x (.inl hk)
    obtain ⟨w', z⟩ := I.cell x c hc
    refine wpAny_storeName_cell I.ok.kind hk hc z (fun h' hc' hs => ?_)
    obtain ⟨oc, hoc, hocd⟩ := id z
    refine h { s with heap := h' } ⟨I.ok, I.os, I.bare, ⟨fun b o e n hb hx => ?_, fun b o e n hb hx => ?_, I.base.free, fun b o e hx => ?_, I.base.tups, I.base.frzs, I.base.tbls⟩, ⟨m, hn.sameBut hs (Ne.symm (cne x c hc)), fun j y v' e1 e2 e3 => ?_⟩, fun y c' e => ?_, I.free, I.freeC, fun p hp => ?_, tracked ⟨oc, hoc, I.freeC x c hc⟩ hs, by simpa using I.len⟩ ⟨c, hs, .inr hc⟩
    · exact (hs.2 b (Nat.ne_of_lt (Nat.lt_of_lt_of_le (Heap.lt_size e) (I.ok.cab x c hfn hc)))).trans (I.base.keep b o e n hb hx)
    · obtain ⟨sl, e1⟩ := I.base.slot b o e n hb hx
      exact ⟨sl, (hs.2 b (Nat.ne_of_lt (Nat.lt_of_lt_of_le (Heap.lt_size e) (I.ok.cab x c hfn hc)))).trans e1⟩
    · obtain ⟨o', e1⟩ := I.base.there b o e hx
      exact ⟨o', (hs.2 b (Nat.ne_of_lt (Nat.lt_of_lt_of_le (Heap.lt_size e) (I.ok.cab x c hfn hc)))).trans e1⟩
    · by_cases hj : j = i
      · subst hj
        rw [hi] at e1; cases e1
        rw [List.getElem?_set_self hiσ] at e2
        cases e2
        exact ⟨u, r, .inr ⟨.inl hk, c, hc, hc'⟩⟩
      · rw [List.getElem?_set_ne (Ne.symm hj)] at e2
        obtain ⟨u', r', q⟩ := hl j y v' e1 e2 e3
        refine ⟨u', r', ?_⟩
        rcases q with q | ⟨k, c', e, z'⟩
        · exact .inl q
        · refine .inr ⟨k, c', e, z'.sameBut hs ?_⟩
          rintro rfl
          exact hj (nodup_ix hN e1 (I.ok.inj _ _ _ e hc ▸ hi))
    · by_cases hcc : c' = c
      · subst hcc; exact ⟨_, hc'⟩
      · obtain ⟨w2, z2⟩ := I.cell y c' e
        exact ⟨w2, z2.sameBut hs hcc⟩
    · obtain ⟨e, n, ne, nf, d⟩ := I.pin p hp
      refine ⟨(hs.2 p.1 ?_).trans e, n, ne, nf, d⟩
      intro q
      rw [q, hoc] at e
      have q' : oc = p.2 := Option.some.inj e
      exact d w' (by rw [← q']; exact hocd)
theorem store_ok {M : Model} {A : Around} {E : Value → Shared → Prop} {i : Nat} {x : Str} {v : V} {u : Value} {Q : Unit → Shared → Prop} (I : Inv X pins σ H s) (hN : X.N.Nodup) (hi : X.N[i]? = some x) (hx : Loc X.env.scope x) (r : RelV v u)
    (h : ∀ s', Inv X pins (σ.set i (some v)) H s' → Q () s') (hf : X.fn x = true ∨ X.env.scope.names.lookup x = some .local := by first | exact .inl rfl | exact .inr rfl | assumption) : wpAny M A (storeName X.env x u) Q E s :=
  store_ok2 I hN hi hx r (fun s' I' _ => h s' I') hf
/-- behind a call or a block, the state as it is -/
theorem Inv.call' {s' : Shared} {ch : List Addr} (I : Inv X pins σ H s) (ho : s'.os = s.os) (u : Un (frs X.stack) ch H H' s.heap s'.heap) (hok : HOk X.prog X.w H' s'.heap) (hg : AllBare s'.gens)
    (hch : ∀ b ∈ ch, (b ∈ X.ex ∨ X.s₀.heap.objs.size ≤ b) ∧ b ≠ X.env.locals ∧ (∀ x c, X.env.cells.lookup x = some c → c ≠ b) ∧ ∀ p ∈ X.pn ++ pins, p.1 ≠ b) : Inv X pins σ H' s' := by
  obtain ⟨h', g', d', t', o'⟩ := s'
  have e : o' = s.os := ho
  subst e
  exact I.call (g' := g') (t' := t') (d' := d') u hok hg hch
end

/-! ### the judgements -/
/-- an exception: its class, its own dict's address (where it has one), the abstract heap behind it -/
abbrev XK := Value → Option Addr → Hp → Prop
abbrev St := List (Option V)
abbrev VK := V → Hp → Prop
/-- an expression's reading; a test's; an argument list's -/
abbrev TE := St → Hp → VK → Prop
abbrev TT := St → Hp → (Bool → Hp → Prop) → Prop
abbrev TA := St → Hp → (List V → Hp → Prop) → Prop
/-- what is wanted behind a statement -/
structure Ends where
  nx : St → Hp → Prop
  rt : VK
  bk : St → Hp → Prop := fun _ _ => False
  ct : St → Hp → Prop := fun _ _ => False
abbrev TS := Ends → St → Hp → Prop

def EP (X : Cx) (pins : List (Addr × Obj)) (σ : St) (Q : VK) (u : Value) (s' : Shared) : Prop := ∃ v H', Inv X pins σ H' s' ∧ RelV v u ∧ Q v H'
def TP (X : Cx) (pins : List (Addr × Obj)) (σ : St) (Q : Bool → Hp → Prop) (b : Bool) (s' : Shared) : Prop := ∃ H', Inv X pins σ H' s' ∧ Q b H'
def AP (X : Cx) (pins : List (Addr × Obj)) (σ : St) (Q : List V → Hp → Prop) (us : List Value) (s' : Shared) : Prop := ∃ vs H', Inv X pins σ H' s' ∧ Vals vs us ∧ Q vs H'
def SP (X : Cx) (pins : List (Addr × Obj)) (D : Ends) (f : Flow) (s' : Shared) : Prop :=
  match f with
  | .next => ∃ σ' H', Inv X pins σ' H' s' ∧ D.nx σ' H'
  | .brk => ∃ σ' H', Inv X pins σ' H' s' ∧ D.bk σ' H'
  | .cont => ∃ σ' H', Inv X pins σ' H' s' ∧ D.ct σ' H'
  | .ret u => ∃ v σ' H', Inv X pins σ' H' s' ∧ RelV v u ∧ D.rt v H'

def PE (X : Cx) (e : Expr) (t : TE) : Prop :=
  ∀ (pins : List (Addr × Obj)) (s : Shared) (σ : St) (H : Hp) (Q : VK), Inv X pins σ H s → t σ H Q → wpAny (model X.prog X.w) X.A (eval e X.env) (EP X pins σ Q) X.xe s
def PT (X : Cx) (e : Expr) (t : TT) : Prop :=
  ∀ (pins : List (Addr × Obj)) (s : Shared) (σ : St) (H : Hp) (Q : Bool → Hp → Prop), Inv X pins σ H s → t σ H Q → wpAny (model X.prog X.w) X.A (isTrue e X.env (eval e X.env)) (TP X pins σ Q) X.xe s
/-- a test whatever its 'whole' is (and, or) -/
def PW (X : Cx) (e : Expr) (t : TT) : Prop :=
  ∀ (whole : Sem Value) (pins : List (Addr × Obj)) (s : Shared) (σ : St) (H : Hp) (Q : Bool → Hp → Prop), Inv X pins σ H s → t σ H Q → wpAny (model X.prog X.w) X.A (isTrue e X.env whole) (TP X pins σ Q) X.xe s
theorem PW.pt {X : Cx} {e : Expr} {t : TT} (h : PW X e t) : PT X e t := h _
/-- an argument list (no star), from the left -/
def PA (X : Cx) (es : List Expr) (t : TA) : Prop :=
  ∀ (pos : Pos) (pins : List (Addr × Obj)) (s : Shared) (σ : St) (H : Hp) (Q : List V → Hp → Prop), Inv X pins σ H s → t σ H Q → wpAny (model X.prog X.w) X.A (spliced (backTo pos (starEach es X.env))) (AP X pins σ Q) X.xe s
def PS (X : Cx) (st : Stmt) (t : TS) : Prop :=
  ∀ (pins : List (Addr × Obj)) (s : Shared) (σ : St) (H : Hp) (D : Ends), Inv X pins σ H s → t D σ H → wpAny (model X.prog X.w) X.A (exec st X.env) (SP X pins D) X.xe s
def PSs (X : Cx) (st : List Stmt) (t : TS) : Prop :=
  ∀ (pins : List (Addr × Obj)) (s : Shared) (σ : St) (H : Hp) (D : Ends), Inv X pins σ H s → t D σ H → wpAny (model X.prog X.w) X.A (execs st X.env) (SP X pins D) X.xe s
/-- weaken the end -/
theorem thn {α : Type} {t : Sem α} {Q Q' : α → Shared → Prop} {M : Model} {A : Around} {E : Value → Shared → Prop} {s : Shared} (h : wpAny M A t Q E s) (hQ : ∀ a s, Q a s → Q' a s) : wpAny M A t Q' E s := wpAny_mono h hQ fun _ _ x => x
end L2

namespace L2
open PySem PySem.Spec PyProof.Rows
section
variable {X : Cx}

/-! ### names and constants -/
def tVar (i : Nat) : TE := fun σ H Q => ∃ v, σ[i]? = some (some v) ∧ Q v H
def tC (v : V) : TE := fun _ H Q => Q v H
theorem pe_var {i : Nat} {x : Str} {pos : Pos} (hN : X.N[i]? = some x) (hv : Vis X.env.scope x) (hd : (x == ("__debug__" : Str)) = false := by decide) (hcd : (x == ("__classdict__" : Str)) = false := by decide) : PE X (.Name x pos) (tVar i) := by
  intro pins s σ H Q I h
  obtain ⟨v, e, h⟩ := h
  obtain ⟨m, hn, hl⟩ := I.loc
  obtain ⟨u, r, l⟩ := hl i x v hN e hv
  have fin : EP X pins σ Q u s := ⟨v, H, I, r, h⟩
  rcases l with ⟨hk, hm⟩ | ⟨hk, c, hc, hcell⟩
  · exact wpAny_Name (wpAny_loadName_local I.ok.kind hk hn hm fin) hd
  · rcases hk with hk | hk
    · exact wpAny_Name (wpAny_loadName_cell I.ok.kind hk hc hcell fin) hd
    · exact wpAny_Name (wpAny_loadName_free I.ok.kind hk hc hcell fin hcd) hd
theorem pe_int {i j pos} : PE X (.Constant (.int i) j pos) (tC (.int i)) := fun _ _ _ H _ I h => wpAny_Constant_int ⟨.int i, H, I.tok _, ⟨_, rfl⟩, h⟩
theorem pe_bl {b j pos} : PE X (.Constant (.bool b) j pos) (tC (.bl b)) := fun _ _ _ H _ I h => Constant_bool ⟨.bl b, H, I, rfl, h⟩
theorem pe_non {j pos} : PE X (.Constant .none j pos) (tC .non) := fun _ _ _ H _ I h => Constant_none ⟨.non, H, I, rfl, h⟩
theorem pe_str {x j pos} : PE X (.Constant (.str x) j pos) (tC (.str x)) := fun _ _ _ H _ I h => Calls.Constant_str ⟨.str x, H, I.tok _, ⟨_, rfl⟩, h⟩

/-- a global name of the def -/
def Gl (X : Cx) (x : Str) : Prop := X.env.kindOf x = some .globalImplicit
theorem ld_glob {E : Value → Shared → Prop} {pins : List (Addr × Obj)} {s : Shared} {σ : St} {H : Hp} {x : Str} {u : Value} {pos : Pos} {Q : Value → Shared → Prop} (I : Inv X pins σ H s) (hg : Gl X x) (hm : X.mg x = some u) (h : Q u s)
    (hd : (x == ("__debug__" : Str)) = false := by decide) : wpAny (model X.prog X.w) X.A (eval (.Name x pos) X.env) Q E s :=
  Calls.Name_function_global I.ok.kind hg (Calls.loadGlobal_global (by rw [I.ok.glob]; exact I.mod.glob.keeps I.bk) hm h) hd
theorem ld_blt {E : Value → Shared → Prop} {pins : List (Addr × Obj)} {s : Shared} {σ : St} {H : Hp} {x : Str} {u : Value} {pos : Pos} {Q : Value → Shared → Prop} (I : Inv X pins σ H s) (hg : Gl X x) (hm : X.mg x = none) (hv : bootBuiltins x = some u) (h : Q u s)
    (hn : x ≠ "__name__" := by decide) (hd : (x == ("__debug__" : Str)) = false := by decide) : wpAny (model X.prog X.w) X.A (eval (.Name x pos) X.env) Q E s := by
  obtain ⟨mb, h1, h2⟩ := I.mod.blt
  exact Calls.Name_function_global I.ok.kind hg (Calls.loadGlobal_builtin (by rw [I.ok.glob]; exact I.mod.glob.keeps I.bk) hm (by rw [I.ok.blt]; exact h1.keeps I.bk) ((h2 x hn).trans hv) h) hd
/-- a module's constant, a class, a function, as a value -/
theorem pe_glob {x : Str} {v : V} {u : Value} {pos : Pos} (hg : Gl X x) (hm : X.mg x = some u) (r : RelV v u) (hd : (x == ("__debug__" : Str)) = false := by decide) : PE X (.Name x pos) (tC v) :=
  fun _ _ _ H _ I h => ld_glob I hg hm ⟨v, H, I, r, h⟩ hd
theorem pe_bltn {x : Str} {v : V} {u : Value} {pos : Pos} (hg : Gl X x) (hm : X.mg x = none) (hv : bootBuiltins x = some u) (r : RelV v u) (hn : x ≠ "__name__" := by decide) (hd : (x == ("__debug__" : Str)) = false := by decide) : PE X (.Name x pos) (tC v) :=
  fun _ _ _ H _ I h => ld_blt I hg hm hv ⟨v, H, I, r, h⟩ hn hd

/-! ### arithmetic -/
/-- two ints -/
def t2I (ta tb : TE) (k : Int → Int → Hp → Prop) : St → Hp → Prop := fun σ H => ta σ H fun x H1 => tb σ H1 fun y H2 => ∃ i j, x = .int i ∧ y = .int j ∧ k i j H2
def tAdd (ta tb : TE) : TE := fun σ H Q => t2I ta tb (fun i j H2 => Q (.int (i + j)) H2) σ H
def tSub (ta tb : TE) : TE := fun σ H Q => t2I ta tb (fun i j H2 => Q (.int (i - j)) H2) σ H
/-- the left factor below 2^64 -/
def tMul (ta tb : TE) : TE := fun σ H Q => t2I ta tb (fun i j H2 => (-(2 ^ 64) < i ∧ i < 2 ^ 64) ∧ Q (.int (i * j)) H2) σ H
variable {a b : Expr} {ta tb : TE} {pos : Pos}
/-! ### comparisons -/
def PC (X : Cx) (op : CmpOp) (a b : Expr) (t : TE) : Prop :=
  ∀ (pins : List (Addr × Obj)) (s : Shared) (σ : St) (H : Hp) (Q : VK), Inv X pins σ H s → t σ H Q →
    wpAny (model X.prog X.w) X.A (eval a X.env) (fun v s₁ => wpAny (model X.prog X.w) X.A (eval b X.env) (fun u s₂ => wpAny (model X.prog X.w) X.A (compareOp op v u) (EP X pins σ Q) X.xe s₂) X.xe s₁) X.xe s
def tCmp (p : Int → Int → Bool) (ta tb : TE) : TE := fun σ H Q => t2I ta tb (fun i j H2 => Q (.bl (p i j)) H2) σ H
abbrev tLt : TE → TE → TE := tCmp fun i j => decide (i < j)
abbrev tLe : TE → TE → TE := tCmp fun i j => decide (i ≤ j)
abbrev tGt : TE → TE → TE := tCmp fun i j => decide (j < i)
abbrev tGe : TE → TE → TE := tCmp fun i j => decide (j ≤ i)
abbrev tEqI : TE → TE → TE := tCmp fun i j => decide (i = j)
abbrev tNeI : TE → TE → TE := tCmp fun i j => !decide (i = j)
/-- is None -/
def tIsN (ta : TE) : TE := fun σ H Q => ta σ H fun x H1 => Q (.bl (decide (x = .non))) H1
def tNotN (ta : TE) : TE := fun σ H Q => ta σ H fun x H1 => Q (.bl (!decide (x = .non))) H1
/-- a comparison as a value, as a test -/
def tB (t : TE) : TT := fun σ H Q => t σ H fun x H1 => ∃ c, x = .bl c ∧ Q c H1
/-- an expression whose value is a bool, as a test -/
theorem pt_val {e : Expr} {t : TE} (h : PE X e t) (he : ∀ whole, isTrue e X.env whole = (do let v ← whole; standAt e.pos; holding [v] (truthy v)) := by intro _; rfl) : PT X e (tB t) := by
  intro pins s σ H Q I hw
  refine isTrue_plain (thn (h pins s σ H _ I hw) fun v s1 ⟨x, H1, I1, r1, q1⟩ => ?_) (he _)
  obtain ⟨d, rfl, q⟩ := q1
  cases r1
  exact wpAny_truthy_bool ⟨H1, I1, q⟩

/-! ### and, or, not -/
variable {tA tB' : TT} {rest : List Expr}
def tAnd (t u : TT) : TT := fun σ H Q => t σ H fun c H1 => if c = true then u σ H1 Q else Q false H1
def tOr (t u : TT) : TT := fun σ H Q => t σ H fun c H1 => if c = true then Q true H1 else u σ H1 Q
def tNot (t : TT) : TT := fun σ H Q => t σ H fun c H1 => Q (!c) H1
theorem pw_and1 (ha : PT X a tA) : PW X (.BoolOp .And [a] pos) tA := by
  intro wh pins s σ H Q I h
  refine isTrue_and (thn (ha pins s σ H Q I h) fun c s1 e => ?_)
  cases c with
  | true => exact isTrue_and_nil e
  | false => exact e
theorem pw_or1 (ha : PT X a tA) : PW X (.BoolOp .Or [a] pos) tA := by
  intro wh pins s σ H Q I h
  refine isTrue_or (thn (ha pins s σ H Q I h) fun c s1 e => ?_)
  cases c with
  | false => exact isTrue_or_nil e
  | true => exact e
theorem pw_and (ha : PT X a tA) (hb : PW X (.BoolOp .And (b :: rest) pos) tB') : PW X (.BoolOp .And (a :: b :: rest) pos) (tAnd tA tB') := by
  intro wh pins s σ H Q I h
  refine isTrue_and (thn (ha pins s σ H _ I h) fun c s1 ⟨H1, I1, q1⟩ => ?_)
  cases c with
  | true => exact hb wh pins s1 σ H1 Q I1 q1
  | false => exact ⟨H1, I1, q1⟩
theorem pw_or (ha : PT X a tA) (hb : PW X (.BoolOp .Or (b :: rest) pos) tB') : PW X (.BoolOp .Or (a :: b :: rest) pos) (tOr tA tB') := by
  intro wh pins s σ H Q I h
  refine isTrue_or (thn (ha pins s σ H _ I h) fun c s1 ⟨H1, I1, q1⟩ => ?_)
  cases c with
  | true => exact ⟨H1, I1, q1⟩
  | false => exact hb wh pins s1 σ H1 Q I1 q1
theorem pt_not (ha : PT X a tA) : PT X (.UnaryOp .Not a pos) (tNot tA) := by
  intro pins s σ H Q I h
  exact isTrue_not (ha pins s σ H (fun c H1 => Q (!c) H1) I h)
/-- .. as values (bools) -/
def tAndV (ta tb : TE) : TE := fun σ H Q => ta σ H fun x H1 => ∃ c, x = .bl c ∧ if c = true then tb σ H1 Q else Q (.bl false) H1
def tOrV (ta tb : TE) : TE := fun σ H Q => ta σ H fun x H1 => ∃ c, x = .bl c ∧ if c = true then Q (.bl true) H1 else tb σ H1 Q
def tNotV (ta : TE) : TE := fun σ H Q => ta σ H fun x H1 => ∃ c, x = .bl c ∧ Q (.bl (!c)) H1
theorem pe_one {op} {t : TE} (h : PE X a t) : PE X (.BoolOp op [a] pos) t := fun pins s σ H Q I hw => BoolOp_one (h pins s σ H Q I hw)
theorem pe_and (ha : PE X a ta) (hb : PE X (.BoolOp .And (b :: rest) pos) tb) : PE X (.BoolOp .And (a :: b :: rest) pos) (tAndV ta tb) := by
  intro pins s σ H Q I h
  refine BoolOp_and (thn (ha pins s σ H _ I h) fun v s1 ⟨x, H1, I1, r1, q1⟩ => ?_)
  obtain ⟨c, rfl, q1⟩ := q1
  cases r1
  refine wpAny_truthy_bool ?_
  cases c with
  | true => exact hb pins s1 σ H1 Q I1 q1
  | false => exact ⟨.bl false, H1, I1, rfl, q1⟩
theorem pe_or (ha : PE X a ta) (hb : PE X (.BoolOp .Or (b :: rest) pos) tb) : PE X (.BoolOp .Or (a :: b :: rest) pos) (tOrV ta tb) := by
  intro pins s σ H Q I h
  refine BoolOp_or (thn (ha pins s σ H _ I h) fun v s1 ⟨x, H1, I1, r1, q1⟩ => ?_)
  obtain ⟨c, rfl, q1⟩ := q1
  cases r1
  refine wpAny_truthy_bool ?_
  cases c with
  | false => exact hb pins s1 σ H1 Q I1 q1
  | true => exact ⟨.bl true, H1, I1, rfl, q1⟩
theorem pe_not (ha : PE X a ta) : PE X (.UnaryOp .Not a pos) (tNotV ta) := by
  intro pins s σ H Q I h
  refine UnaryOp_ (thn (ha pins s σ H _ I h) fun v s1 ⟨x, H1, I1, r1, q1⟩ => ?_)
  obtain ⟨c, rfl, q1⟩ := q1
  cases r1
  exact not_of (wpAny_truthy_bool ⟨.bl (!c), H1, I1, rfl, q1⟩)
/-- a if t else b -/
def tIf (t : TT) (ta tb : TE) : TE := fun σ H Q => t σ H fun c H1 => if c = true then ta σ H1 Q else tb σ H1 Q
theorem pe_ifExp {c : Expr} (hc : PT X c tA) (ha : PE X a ta) (hb : PE X b tb) : PE X (.IfExp c a b pos) (tIf tA ta tb) := by
  intro pins s σ H Q I h
  refine wpAny_IfExp (thn (hc pins s σ H _ I h) fun d s1 ⟨H1, I1, q1⟩ => ?_)
  cases d with
  | true => exact ha pins s1 σ H1 Q I1 q1
  | false => exact hb pins s1 σ H1 Q I1 q1
end
end L2

namespace L2
open PySem PySem.Spec PyProof.Rows

/-! ### a list, a tuple that is read: tracked, frozen, or an object of the module -/
def SqL (K : PySem.W.Frag) (H : Hp) (a : Addr) (xs : List V) : Prop :=
  Rd H a (.lst xs) ∨
    ∃ (o : Obj) (its : Array Value) (n : Nat), K.lookup a = some o ∧ o.cls = .type "list" ∧ o.dict = none ∧ o.data = .seq its n ∧ its.size ≤ sizeLine ∧ Vals xs its.toList
def SqT (K : PySem.W.Frag) (H : Hp) (a : Addr) (xs : List V) : Prop :=
  Rd H a (.tup xs) ∨
    ∃ (o : Obj) (its : Array Value) (n : Nat), K.lookup a = some o ∧ o.cls = .type "tuple" ∧ o.data = .seq its n ∧ its.size ≤ sizeLine ∧ Vals xs its.toList
def absV : Value → Option V
  | .none => some .non
  | .bool b => some (.bl b)
  | .int i _ => some (.int i)
  | .str x _ => some (.str x)
  | .bytes b _ => some (.byt b)
  | .float b _ => some (.flt b)
  | .ref a => some (.ref a)
  | .type n => some (.ty n)
  | _ => none
theorem RelV.abs {x : V} {u : Value} (r : RelV x u) : absV u = some x := by
  cases x with
  | non => cases r; rfl
  | bl _ => cases r; rfl
  | int _ => obtain ⟨t, rfl⟩ := r; rfl
  | str _ => obtain ⟨t, rfl⟩ := r; rfl
  | byt _ => obtain ⟨t, rfl⟩ := r; rfl
  | flt _ => obtain ⟨t, rfl⟩ := r; rfl
  | ref _ => cases r; rfl
  | ty _ => cases r; rfl
theorem RelV.inj {x y : V} {u : Value} (r : RelV x u) (q : RelV y u) : x = y := Option.some.inj (r.abs.symm.trans q.abs)
theorem Vals.inj : ∀ {xs ys : List V} {us : List Value}, Vals xs us → Vals ys us → xs = ys
  | _, _, _, .nil, .nil => rfl
  | _, _, _, .cons r t, .cons r' t' => by rw [r.inj r', Vals.inj t t']
section
variable {X : Cx} {pins : List (Addr × Obj)} {σ : St} {H : Hp} {s : Shared} {a : Addr} {xs ys : List V}
theorem SqL.of {K : PySem.W.Frag} (h : H a = some (.lst xs)) : SqL K H a xs := .inl (.inl h)
theorem SqT.of {K : PySem.W.Frag} (h : H a = some (.tup xs)) : SqT K H a xs := .inl (.inl h)
theorem Inv.list (I : Inv X pins σ H s) (h : SqL X.K H a xs) : ∃ its : List Value, Vals xs its ∧ PlainL s.heap a its.toArray ∧ xs.length ≤ sizeLine := by
  rcases h with h | ⟨o, its, n, hk, hc, hd, hs, hz, r⟩
  · obtain ⟨z, its, n, r, e⟩ := h.ok I.hok
    exact ⟨its, r, ⟨_, n, e, rfl, rfl, rfl⟩, z⟩
  · refine ⟨its.toList, r, ⟨o, n, I.kIn a o hk, hc, hd, by simpa using hs⟩, ?_⟩
    have e := r.length
    simp only [Array.length_toList] at e
    omega
theorem Inv.tuple (I : Inv X pins σ H s) (h : SqT X.K H a xs) : ∃ its : List Value, Vals xs its ∧ IsTup s.heap a its.toArray ∧ xs.length ≤ sizeLine := by
  rcases h with h | ⟨o, its, n, hk, hc, hs, hz, r⟩
  · obtain ⟨z, its, r, p⟩ := h.ok I.hok
    exact ⟨its, r, p, z⟩
  · refine ⟨its.toList, r, ⟨o, I.kIn a o hk, hc, n, by simpa using hs⟩, ?_⟩
    have e := r.length
    simp only [Array.length_toList] at e
    omega
theorem Inv.list_inj (I : Inv X pins σ H s) (h : SqL X.K H a xs) (h' : SqL X.K H a ys) : xs = ys := by
  obtain ⟨its, r, ⟨o, n, e, _, _, d⟩, _⟩ := I.list h
  obtain ⟨its', r', ⟨o', n', e', _, _, d'⟩, _⟩ := I.list h'
  rw [e] at e'; cases e'
  rw [d] at d'
  injection d' with d1 _
  have : its = its' := by simpa using congrArg Array.toList d1
  subst this
  exact r.inj r'
theorem Inv.tuple_inj (I : Inv X pins σ H s) (h : SqT X.K H a xs) (h' : SqT X.K H a ys) : xs = ys := by
  obtain ⟨its, r, ⟨o, e, _, n, d⟩, _⟩ := I.tuple h
  obtain ⟨its', r', ⟨o', e', _, n', d'⟩, _⟩ := I.tuple h'
  rw [e] at e'; cases e'
  rw [d] at d'
  injection d' with d1 _
  have : its = its' := by simpa using congrArg Array.toList d1
  subst this
  exact r.inj r'
end

/-! ### another wish about exceptions -/
abbrev Cx.wish (X : Cx) (E : Value → Shared → Prop) : Cx := { X with xe := E }
/-- no exception leaves -/
abbrev Cx.nox (X : Cx) : Cx := X.wish fun _ _ => False
theorem Cx.Ok.wish {X : Cx} (ok : X.Ok) (E : Value → Shared → Prop) : (X.wish E).Ok :=
  ⟨ok.mod, ok.kind, ok.glob, ok.blt, ok.above, ok.inj, ok.has, ok.cab, ok.hd, ok.frames, ok.stk, ok.exf, ok.bs, ok.bsz, ok.noex, ok.exfs, ok.funs, ok.frf⟩
theorem Cx.Ok.unwish {X : Cx} {E : Value → Shared → Prop} (ok : (X.wish E).Ok) : X.Ok :=
  ⟨ok.mod, ok.kind, ok.glob, ok.blt, ok.above, ok.inj, ok.has, ok.cab, ok.hd, ok.frames, ok.stk, ok.exf, ok.bs, ok.bsz, ok.noex, ok.exfs, ok.funs, ok.frf⟩
section
variable {X : Cx} {pins : List (Addr × Obj)} {σ : St} {H : Hp} {s : Shared} {E : Value → Shared → Prop}
theorem Inv.wish (I : Inv X pins σ H s) (E : Value → Shared → Prop) : Inv (X.wish E) pins σ H s := ⟨I.ok.wish E, I.os, I.bare, I.base, I.loc, I.cell, I.free, I.freeC, I.pin, I.hok, I.len⟩
theorem Inv.unwish (I : Inv (X.wish E) pins σ H s) : Inv X pins σ H s := ⟨I.ok.unwish, I.os, I.bare, I.base, I.loc, I.cell, I.free, I.freeC, I.pin, I.hok, I.len⟩
theorem SP.unwish {D : Ends} {f : Flow} {s' : Shared} (h : SP (X.wish E) pins D f s') : SP X pins D f s' := by
  cases f with
  | next => obtain ⟨σ', H', I, q⟩ := h; exact ⟨σ', H', I.unwish, q⟩
  | brk => obtain ⟨σ', H', I, q⟩ := h; exact ⟨σ', H', I.unwish, q⟩
  | cont => obtain ⟨σ', H', I, q⟩ := h; exact ⟨σ', H', I.unwish, q⟩
  | ret u => obtain ⟨v, σ', H', I, r, q⟩ := h; exact ⟨v, σ', H', I.unwish, r, q⟩
theorem PSs.nox {st : List Stmt} {t : TS} (h : PSs X.nox st t) : PSs X st t := fun pins s σ H D I hw =>
  wpAny_mono (h pins s σ H D (I.wish _) hw) (fun _ _ q => q.unwish) fun _ _ z => False.elim z
end

/-! ### blocks and small statements -/
section
variable {X : Cx} {st : Stmt} {rest : List Stmt} {t u : TS} {e : Expr} {te : TE} {pos : Pos}
def tNext : TS := fun D σ H => D.nx σ H
def tSeq (t u : TS) : TS := fun D σ H => t { D with nx := u D } σ H
theorem pss_nil : PSs X [] tNext := fun _ _ σ H _ I h => wpAny_execs_nil ⟨σ, H, I, h⟩
theorem pss_cons (h1 : PS X st t) (h2 : PSs X rest u) : PSs X (st :: rest) (tSeq t u) := by
  intro pins s σ H D I h
  refine wpAny_execs_cons (thn (h1 pins s σ H { D with nx := u D } I h) fun f s1 q => ?_)
  cases f with
  | next =>
    obtain ⟨σ', H', I', q⟩ := q
    exact h2 pins s1 σ' H' D I' q
  | ret v => exact q
  | brk => exact q
  | cont => exact q
theorem pss_one (h1 : PS X st t) : PSs X [st] t := by
  intro pins s σ H D I h
  refine wpAny_execs_cons (thn (h1 pins s σ H D I h) fun f s1 q => ?_)
  cases f with
  | next => exact wpAny_execs_nil q
  | ret v => exact q
  | brk => exact q
  | cont => exact q
def tBreak : TS := fun D σ H => D.bk σ H
def tCont : TS := fun D σ H => D.ct σ H
/-- in a def's body nothing is shown -/
theorem Inv.quiet {pins : List (Addr × Obj)} {σ : St} {H : Hp} {s : Shared} (I : Inv X pins σ H s) : interactive X.env = false := by simp [interactive, I.ok.kind]
/-- an expression whose value is dropped -/
def tDrop (te : TE) : TS := fun D σ H => te σ H fun _ H1 => D.nx σ H1
theorem ps_expr (he : PE X e te) (hs : swapsWith e none pos.line X.env = pure false := by rfl) : PS X (.Expr e pos) (tDrop te) := by
  intro pins s σ H D I h
  exact wpAny_Expr_any (thn (he pins s σ H _ I h) fun v s1 ⟨x, H1, I1, r1, q1⟩ => ⟨σ, H1, I1, q1⟩) I.quiet hs
def tRet (te : TE) : TS := fun D σ H => te σ H D.rt
theorem ps_ret (he : PE X e te) : PS X (.Return (some e) pos) (tRet te) := by
  intro pins s σ H D I h
  exact wpAny_Return_some (thn (he pins s σ H _ I h) fun v s1 ⟨x, H1, I1, r1, q1⟩ => ⟨x, σ, H1, I1, r1, q1⟩)
def tRetN : TS := fun D _ H => D.rt .non H
def tIfS (c : TT) (t u : TS) : TS := fun D σ H => c σ H fun b H1 => if b = true then t D σ H1 else u D σ H1
theorem ps_if {c : Expr} {a b : List Stmt} {tc : TT} (hc : PT X c tc) (ha : PSs X a t) (hb : PSs X b u) : PS X (.If c a b pos) (tIfS tc t u) := by
  intro pins s σ H D I h
  refine wpAny_If (thn (hc pins s σ H _ I h) fun d s1 ⟨H1, I1, q1⟩ => ?_)
  cases d with
  | true => exact ha pins s1 σ H1 D I1 q1
  | false => exact hb pins s1 σ H1 D I1 q1
/-- code that the proof never comes to -/
def tNever : TS := fun _ _ _ => False
end

/-! ### targets -/
abbrev TG := V → St → Hp → (St → Hp → Prop) → Prop
abbrev TGs := List V → St → Hp → (St → Hp → Prop) → Prop
def PG (X : Cx) (target : Expr) (t : TG) : Prop :=
  ∀ (pins : List (Addr × Obj)) (s : Shared) (σ : St) (H : Hp) (v : V) (u : Value) (Q : St → Hp → Prop), Inv X pins σ H s → RelV v u → t v σ H Q →
    wpAny (model X.prog X.w) X.A (assign target X.env u) (fun _ s' => ∃ σ' H', Inv X pins σ' H' s' ∧ Q σ' H') X.xe s
/-- several targets, one after another -/
def PGs (X : Cx) (ts : List Expr) (t : TGs) : Prop :=
  ∀ (pins : List (Addr × Obj)) (s : Shared) (σ : St) (H : Hp) (vs : List V) (us : List Value) (Q : St → Hp → Prop), Inv X pins σ H s → Vals vs us → t vs σ H Q →
    wpAny (model X.prog X.w) X.A (assignInOrder ((assignEach ts X.env).map (·.2)) us) (fun _ s' => ∃ σ' H', Inv X pins σ' H' s' ∧ Q σ' H') X.xe s
/-- o[i] = v, by values -/
abbrev TSet := V → V → V → Hp → (Hp → Prop) → Prop
def PSet (X : Cx) (t : TSet) : Prop :=
  ∀ (pins : List (Addr × Obj)) (s : Shared) (σ : St) (H : Hp) (o i v : V) (ov iv u : Value) (Q : Hp → Prop), Inv X pins σ H s → RelV o ov → RelV i iv → RelV v u → t o i v H Q →
    wpAny (model X.prog X.w) X.A (setItem ov iv u) (fun _ s' => ∃ H', Inv X pins σ H' s' ∧ Q H') X.xe s
/-- a op= b, by values -/
abbrev TIp := V → V → Hp → VK → Prop
def PIp (X : Cx) (op : Operator) (t : TIp) : Prop :=
  ∀ (pins : List (Addr × Obj)) (s : Shared) (σ : St) (H : Hp) (x y : V) (v u : Value) (Q : VK), Inv X pins σ H s → RelV x v → RelV y u → t x y H Q →
    wpAny (model X.prog X.w) X.A (inplaceOp op v u) (EP X pins σ Q) X.xe s
section
variable {X : Cx} {pos : Pos}
def gName (i : Nat) : TG := fun v σ H Q => Q (σ.set i (some v)) H
theorem pg_name {i : Nat} {x : Str} (hN : X.N.Nodup) (hi : X.N[i]? = some x) (hx : Loc X.env.scope x) (hf : X.fn x = true ∨ X.env.scope.names.lookup x = some .local := by first | exact .inl rfl | exact .inr rfl | assumption) : PG X (.Name x pos) (gName i) := by
  intro pins s σ H v u Q I r h
  exact wpAny_assign_Name (store_ok I hN hi hx r (fun s' I' => ⟨_, H, I', h⟩) hf)
def gNil : TGs := fun vs σ H Q => vs = [] ∧ Q σ H
def gCons (t : TG) (u : TGs) : TGs := fun vs σ H Q => ∃ v r, vs = v :: r ∧ t v σ H fun σ' H' => u r σ' H' Q
theorem pgs_nil : PGs X [] gNil := by
  intro pins s σ H vs us Q I r h
  obtain ⟨e, h⟩ := h
  subst e
  cases r
  exact assignInOrder_nil ⟨σ, H, I, h⟩
theorem pgs_cons {e : Expr} {es : List Expr} {t : TG} {u : TGs} (h1 : PG X e t) (h2 : PGs X es u)
    (hs : (assignEach (e :: es) X.env).map (·.2) = assign e X.env :: (assignEach es X.env).map (·.2) := by rfl) : PGs X (e :: es) (gCons t u) := by
  intro pins s σ H vs us Q I r h
  obtain ⟨v, vr, e1, h⟩ := h
  subst e1
  cases r with
  | cons r rr =>
    rw [hs]
    refine assignInOrder_cons (thn (h1 pins s σ H _ _ _ I r h) fun _ s1 ⟨σ1, H1, I1, q1⟩ => ?_)
    exact h2 pins s1 σ1 H1 _ _ Q I1 rr q1
/-- (a, b, ..) = a tuple of that length -/
def gTup (K : PySem.W.Frag) (n : Nat) (t : TGs) : TG := fun v σ H Q => ∃ a xs, v = .ref a ∧ SqT K H a xs ∧ xs.length = n ∧ t xs σ H Q
theorem pg_tup {es : List Expr} {k : Nat} {t : TGs} {n : Nat} (hc : X.calm = true) (h : PGs X es t)
    (hn : (assignEach es X.env).length = n := by rfl) (hst : (assignEach es X.env).findIdx? (·.1) = none := by rfl) : PG X (.Tuple es k pos) (gTup X.K n t) := by
  intro pins s σ H v u Q I r hw
  obtain ⟨a, xs, e1, hq, hl, hw⟩ := hw
  subst e1
  cases r
  obtain ⟨its, rv, ht, hz⟩ := I.tuple hq
  refine assign_Tuple_tuple (I.ok.hd hc) ht (by simp [hn, ← hl, rv.length]) hst fun h' hx => ?_
  have I1 : Inv X pins σ H { s with heap := h' } := I.kept (t' := s.toks) fun b o e => hx b o (Nat.ne_of_lt (Heap.lt_size e)) e
  exact h pins _ σ H xs _ Q I1 (by simpa using rv) hw
/-- o[i] = .. -/
def gSub (to ti : TE) (t : TSet) : TG := fun v σ H Q => to σ H fun o H1 => ti σ H1 fun i H2 => t o i v H2 fun H3 => Q σ H3
theorem pg_sub {o i : Expr} {to ti : TE} {t : TSet} (ho : PE X o to) (hi : PE X i ti) (hs : PSet X t)
    (ha : ∀ v, assign (.Subscript o i pos) X.env v = (do
      let ov ← holding [v] (eval o X.env)
      let iv ← holding [v, ov] (eval i X.env)
      standAt pos
      holding [v, ov, iv] (setItem ov iv v)
      release [v, ov, iv] []) := by intro _; rfl) : PG X (.Subscript o i pos) (gSub to ti t) := by
  intro pins s σ H v u Q I r h
  rw [ha]
  refine wpAny_bind (wpAny_holding (thn (ho pins s σ H _ I h) fun ov s1 ⟨x, H1, I1, r1, q1⟩ => ?_))
  refine wpAny_bind (wpAny_holding (thn (hi pins s1 σ H1 _ I1 q1) fun iv s2 ⟨y, H2, I2, r2, q2⟩ => ?_))
  refine wpAny_bind (wpAny_standAt (wpAny_bind (wpAny_holding (thn (hs pins s2 σ H2 x y v ov iv u _ I2 r1 r2 r q2) fun _ s3 ⟨H3, I3, q3⟩ => ?_))))
  exact wpAny_release ⟨σ, H3, I3, q3⟩
/-- target = value -/
def tAsg (te : TE) (g : TG) : TS := fun D σ H => te σ H fun x H1 => g x σ H1 D.nx
theorem ps_asg {tg e : Expr} {te : TE} {g : TG} (he : PE X e te) (hg : PG X tg g) (hs : swapsWithSole [tg] e pos.line X.env = pure false := by rfl) (hw : swappedStores [tg] e X.env = pure none := by rfl)
    (h1 : (assignEach [tg] X.env).map (·.2) = [assign tg X.env] := by rfl) : PS X (.Assign [tg] e pos) (tAsg te g) := by
  intro pins s σ H D I h
  refine wpAny_Assign_stores (thn (he pins s σ H _ I h) fun v s1 ⟨x, H1, I1, r1, q1⟩ => ?_) hs hw
  rw [h1]
  exact thn (hg pins s1 σ H1 x v _ I1 r1 q1) fun _ s2 q => q
/-- name = value -/
theorem ps_set {i : Nat} {x : Str} {e : Expr} {te : TE} {pos' : Pos} (hN : X.N.Nodup) (hi : X.N[i]? = some x) (hx : Loc X.env.scope x) (he : PE X e te) (hs : swapsWith e (some (.Name x pos')) pos.line X.env = pure false := by rfl) (hf : X.fn x = true ∨ X.env.scope.names.lookup x = some .local := by first | exact .inl rfl | exact .inr rfl | assumption) :
    PS X (.Assign [.Name x pos'] e pos) (tAsg te (gName i)) := by
  intro pins s σ H D I h
  refine wpAny_Assign_Name (thn (he pins s σ H _ I h) fun v s1 ⟨y, H1, I1, r1, q1⟩ => ?_) hs
  exact store_ok I1 hN hi hx r1 (fun s2 I2 => ⟨_, H1, I2, q1⟩) hf
/-- a, b = x, y with plain local names: stored from the right; the pair itself is not tracked (the opening rows as in PyProof/Rows/TupAssign.lean:23) -/
def tPar (i j : Nat) (ta : TA) : TS := fun D σ H => ta σ H fun vs H1 => ∃ v w, vs = [v, w] ∧ D.nx ((σ.set i (some v)).set j (some w)) H1
theorem ps_par {i j : Nat} {x y : Str} {a b : Expr} {ta : TA} {px py pt : Pos} {kt k2 pt2} (hc : X.calm = true) (hN : X.N.Nodup) (hi : X.N[i]? = some x) (hj : X.N[j]? = some y) (hij : i ≠ j)
    (hx : X.env.scope.names.lookup x = some .local) (hy : X.env.scope.names.lookup y = some .local) (ha : PA X [a, b] ta)
    (hw : swappedStores [.Tuple [.Name x px, .Name y py] kt pt] (.Tuple [a, b] k2 pt2) X.env = pure (some [x, y]))
    (hs : swapsWithSole [.Tuple [.Name x px, .Name y py] kt pt] (.Tuple [a, b] k2 pt2) pos.line X.env = pure false := by rfl) :
    PS X (.Assign [.Tuple [.Name x px, .Name y py] kt pt] (.Tuple [a, b] k2 pt2) pos) (tPar i j ta) := by
  intro pins s σ H D I h
  rw [exec_Assign_arm]
  refine wpAny_bind (wpAny_standAt ?_)
  rw [hs]
  refine wpAny_bind (wpAny_pure ?_)
  rw [if_neg (by decide)]
  refine wpAny_bind (Tuple_ (thn (ha _ pins s σ H _ I h) fun us s1 ⟨vs, H1, I1, r1, q1⟩ => ?_))
  obtain ⟨v, w, e1, q1⟩ := q1
  subst e1
  obtain ⟨u1, u2, rfl, rv, rw'⟩ : ∃ u1 u2, us = [u1, u2] ∧ RelV v u1 ∧ RelV w u2 := by
    cases r1 with
    | cons p q =>
      cases q with
      | cons p' q' =>
        cases q'
        exact ⟨_, _, rfl, p, p'⟩
  refine wpAny_newObj_type ?_ (by show 2 ≤ sizeLine; decide)
  have I2 : Inv X pins σ H1 { s1 with heap := s1.heap.push { cls := .type "tuple", data := .seq [u1, u2].toArray } } := I1.kept (t' := s1.toks) fun b o e => Heap.get?_push_of_some _ e
  rw [hw]
  refine wpAny_bind (wpAny_pure ?_)
  show wpAny (model X.prog X.w) X.A (do rule "assign.swapped-stores"; let items ← unpackItems (.ref s1.heap.objs.size) 2 none; assignInOrder [fun v => bindName X.env y v, fun v => bindName X.env x v] items.reverse; pure Flow.next) _ _ _
  refine wpAny_bind (wpAny_rule (wpAny_bind (unpackItems_tuple (items := #[u1, u2]) (I.ok.hd hc) (IsTup.new s1.heap _) fun h' hx' => ?_)))
  have I3 := I2.kept (h' := h') (t' := s1.toks) fun b o e => hx' b o (Nat.ne_of_lt (Heap.lt_size e)) e
  show wpAny _ _ (assignInOrder [fun v => bindName X.env y v, fun v => bindName X.env x v] [u2, u1] >>= fun _ => pure Flow.next) _ _ _
  refine wpAny_bind (assignInOrder_cons (wpAny_bindName (store_ok I3 hN hj (.inl hy) rw' (fun s2 I4 => ?_) (.inr hy))))
  refine assignInOrder_cons (wpAny_bindName (store_ok I4 hN hi (.inl hx) rv (fun s3 I5 => assignInOrder_nil (wpAny_pure ?_)) (.inr hx)))
  rw [List.set_comm _ _ (Ne.symm hij)] at I5
  exact ⟨_, H1, I5, q1⟩
/-- name op= e -/
def tAug (i : Nat) (te : TE) (ti : TIp) : TS := fun D σ H => ∃ x, σ[i]? = some (some x) ∧ te σ H fun y H1 => ti x y H1 fun z H2 => D.nx (σ.set i (some z)) H2
/-- o[i] op= e -/
def tAugS (to ti te : TE) (tget : V → V → Hp → VK → Prop) (tip : TIp) (tset : TSet) : TS := fun D σ H => to σ H fun o H1 => ti σ H1 fun i H2 => tget o i H2 fun x H3 => te σ H3 fun y H4 => tip x y H4 fun z H5 => tset o i z H5 fun H6 => D.nx σ H6
/-- o[i], by values -/
def PGet (X : Cx) (t : V → V → Hp → VK → Prop) : Prop :=
  ∀ (pins : List (Addr × Obj)) (s : Shared) (σ : St) (H : Hp) (o i : V) (ov iv : Value) (Q : VK), Inv X pins σ H s → RelV o ov → RelV i iv → t o i H Q →
    wpAny (model X.prog X.w) X.A (getItem ov iv) (EP X pins σ Q) X.xe s
theorem ps_augS {o i e : Expr} {to ti te : TE} {tget : V → V → Hp → VK → Prop} {tip : TIp} {tset : TSet} {op : Operator} {tpos : Pos} (ho : PE X o to) (hi : PE X i ti) (hg : PGet X tget) (he : PE X e te) (hp : PIp X op tip) (hs : PSet X tset)
    (ha : ∀ ov iv new, augStore i ov iv new = (do holding [new, ov, iv] (setItem ov iv new); release [new, ov, iv] []; pure .next) := by intros; rfl) : PS X (.AugAssign (.Subscript o i tpos) op e pos) (tAugS to ti te tget tip tset) := by
  intro pins s σ H D I h
  refine wpAny_AugAssign_SubscriptAny (thn (ho pins s σ H _ I h) fun ov s1 ⟨x1, H1, I1, r1, q1⟩ => ?_) ha
  refine thn (hi pins s1 σ H1 _ I1 q1) fun iv s2 ⟨x2, H2, I2, r2, q2⟩ => ?_
  refine thn (hg pins s2 σ H2 x1 x2 ov iv _ I2 r1 r2 q2) fun old s3 ⟨x3, H3, I3, r3, q3⟩ => ?_
  refine thn (he pins s3 σ H3 _ I3 q3) fun v s4 ⟨x4, H4, I4, r4, q4⟩ => ?_
  refine thn (hp pins s4 σ H4 x3 x4 old v _ I4 r3 r4 q4) fun new s5 ⟨x5, H5, I5, r5, q5⟩ => ?_
  exact thn (hs pins s5 σ H5 x1 x2 x5 ov iv new _ I5 r1 r2 r5 q5) fun _ s6 ⟨H6, I6, q6⟩ => ⟨σ, H6, I6, q6⟩
/-- ints -/
def ipI (f : Int → Int → Int) : TIp := fun x y H Q => ∃ i j, x = .int i ∧ y = .int j ∧ Q (.int (f i j)) H
theorem ip_add : PIp X .Add (ipI fun i j => i + j) := by
  intro pins s σ H x y v u Q I r1 r2 h
  obtain ⟨i, j, e1, e2, q⟩ := h
  subst e1; subst e2
  obtain ⟨t, rfl⟩ := r1
  obtain ⟨t', rfl⟩ := r2
  exact iadd_int ⟨.int _, H, I.tok _, ⟨_, rfl⟩, q⟩
end

/-! ### while -/
section
variable {X : Cx} {pos : Pos}
/-- the invariant W with its measure -/
def tWhile (c : TT) (tb : TS) : TS := fun D σ H => ∃ W : Nat → St → Hp → Prop, (∃ m, W m σ H) ∧ ∀ m σ H, W m σ H →
  c σ H fun b H1 => if b = true then ∃ N : St → Hp → Prop, (∀ σ' H', N σ' H' → ∃ m', m' < m ∧ W m' σ' H') ∧ tb { D with nx := N, ct := N, bk := D.nx } σ H1 else D.nx σ H1
theorem ps_while {c : Expr} {body : List Stmt} {tc : TT} {tb : TS} (hp : PassesOwn (model X.prog X.w) X.A X.env X.xe) (hc : PT X c tc) (hb : PSs X body tb) : PS X (.While c body [] pos) (tWhile tc tb) := by
  intro pins s σ H D I h
  obtain ⟨W, ⟨m0, w0⟩, turn⟩ := h
  refine wpAny_While (codeAny_whileLoop (fun n s' => ∃ σ' H', Inv X pins σ' H' s' ∧ W n σ' H') ?_ m0 ⟨σ, H, I, w0⟩)
  rintro n s1 ⟨σ1, H1, I1, w1⟩
  refine wpAny_passesOwn hp (thn (hc pins s1 σ1 H1 _ I1 (turn n σ1 H1 w1)) fun b s2 ⟨H2, I2, q2⟩ => ?_)
  cases b with
  | true =>
    obtain ⟨N, hN, q2⟩ := q2
    rw [if_pos rfl]
    refine wpAny_passesOwn hp (thn (hb pins s2 σ1 H2 _ I2 q2) fun f s3 q3 => ?_)
    cases f with
    | next =>
      obtain ⟨σ3, H3, I3, n3⟩ := q3
      obtain ⟨m', hm, w3⟩ := hN σ3 H3 n3
      exact ⟨m', hm, σ3, H3, I3, w3⟩
    | cont =>
      obtain ⟨σ3, H3, I3, n3⟩ := q3
      obtain ⟨m', hm, w3⟩ := hN σ3 H3 n3
      exact ⟨m', hm, σ3, H3, I3, w3⟩
    | brk => exact q3
    | ret v => exact q3
  | false =>
    rw [if_neg Bool.false_ne_true]
    exact wpAny_execs_nil ⟨σ1, H2, I2, q2⟩
end

/-! ### what a loop or a comprehension walks -/
/-- at turn i: it yields x (the heap may grow), or it stops -/
structure It where
  go : Nat → Hp → Prop
  yld : Nat → Hp → V → Hp → Prop
  stop : Nat → Hp → Prop
/-- the iterator's own objects may turn: they are not the frame's, not pinned, younger than the entry (or a comprehension's own) -/
def FpOk (X : Cx) (pins : List (Addr × Obj)) (H : Hp) (b : Addr) : Prop :=
  H b = none ∧ b ≠ X.env.locals ∧ b ∉ X.fs ∧ (b ∈ X.ex ∨ X.s₀.heap.objs.size ≤ b) ∧ (∀ x c, X.env.cells.lookup x = some c → c ≠ b) ∧ ∀ p ∈ X.pn ++ pins, p.1 ≠ b
theorem Inv.fpOk {X : Cx} {pins : List (Addr × Obj)} {σ : St} {H H' : Hp} {s : Shared} {b : Addr} (I : Inv X pins σ H s) (hb : s.heap.objs.size ≤ b) (hn : H' b = none) : FpOk X pins H' b := by
  refine ⟨hn, Nat.ne_of_gt (Nat.lt_of_lt_of_le I.lt hb), I.nofs hb, .inr (Nat.le_trans I.sz hb), fun x c e z => ?_, fun p hp z => ?_⟩
  · obtain ⟨v, q⟩ := I.cell x c e
    exact absurd (Nat.lt_of_lt_of_le q.lt (by rw [z]; exact hb)) (Nat.lt_irrefl _)
  · exact absurd (Nat.lt_of_lt_of_le (Heap.lt_size (I.pin p hp).1) (by rw [z]; exact hb)) (Nat.lt_irrefl _)
structure Turn (P : Program) (w : World) (K : PySem.W.Frag) (tg : Expr) (J : It) (fp : List Addr) (it : Addr) (tn : Nat → Heap → Prop) : Prop where
  mem : it ∈ fp
  obj : ∀ i h, tn i h → ∀ b ∈ fp, ∃ o, h.get? b = some o ∧ ∀ v, o.data ≠ .cell v
  keep : ∀ i h h', tn i h → (∀ b ∈ fp, ∀ o, h.get? b = some o → h'.get? b = some o) → tn i h'
  item : ∀ (X : Cx), X.prog = P → X.w = w → X.K = K → X.calm = true → ∀ (i : Nat) (pins : List (Addr × Obj)) (s : Shared) (σ : St) (H : Hp) (E : Value → Shared → Prop), Inv X pins σ H s → (∀ b ∈ fp, FpOk X pins H b) → tn i s.heap → J.go i H →
    wpAny (model P w) X.A (pyNext (.ref it)) (fun r s1 => ∃ u, r = some u ∧
      wpAny (model P w) X.A (letOwnedTupleGo tg (.ref it) u) (fun _ s2 => ∃ x H', Inv X pins σ H' s2 ∧ RelV x u ∧ J.yld i H x H' ∧ tn (i + 1) s2.heap ∧ ∀ b ∈ fp, H' b = none) E s1) E s
  done : ∀ (X : Cx), X.prog = P → X.w = w → X.K = K → X.calm = true → ∀ (i : Nat) (pins : List (Addr × Obj)) (s : Shared) (σ : St) (H : Hp) (E : Value → Shared → Prop), Inv X pins σ H s → (∀ b ∈ fp, FpOk X pins H b) → tn i s.heap → J.stop i H →
    wpAny (model P w) X.A (pyNext (.ref it)) (fun r s1 => r = none ∧ Inv X pins σ H s1) E s
  self : ∀ (A : Around) (i : Nat) (s : Shared) (Q : Value → Shared → Prop) (E : Value → Shared → Prop), tn i s.heap → Q (.ref it) s → wpAny (model P w) A (pyIter (.ref it)) Q E s
abbrev TI := St → Hp → (It → Hp → Prop) → Prop
/-- an iterator has come -/
def PIE (X : Cx) (pins : List (Addr × Obj)) (σ : St) (tg : Expr) (R : It → Hp → Prop) (itv : Value) (s2 : Shared) : Prop :=
  ∃ (it : Addr) (fp : List Addr) (tn : Nat → Heap → Prop) (J : It) (H' : Hp), itv = .ref it ∧ Inv X pins σ H' s2 ∧ Turn X.prog X.w X.K tg J fp it tn ∧ tn 0 s2.heap ∧ (∀ b ∈ fp, FpOk X pins H' b) ∧ R J H'
def PI (X : Cx) (tg iter : Expr) (wi : TI) : Prop :=
  ∀ (pins : List (Addr × Obj)) (s : Shared) (σ : St) (H : Hp) (R : It → Hp → Prop), Inv X pins σ H s → wi σ H R →
    wpAny (model X.prog X.w) X.A (eval iter X.env) (fun v s1 => wpAny (model X.prog X.w) X.A (pyIter v) (PIE X pins σ tg R) X.xe s1) X.xe s

/-- the step ahead of the store is nothing for an iterator that keeps no tuple -/
theorem go_of {M : Model} {A : Around} {E : Value → Shared → Prop} {s : Shared} {tg : Expr} {it : Addr} {u : Value} {o : Obj} {n : String} {vs : Array Value} {Q : Unit → Shared → Prop} (ho : s.heap.get? it = some o) (hc : o.cls = .type n) (hd : o.data = .fields vs)
    (hn : ["enumerate", "zip", "dict_itemiterator", "dict_reverseitemiterator", "odict_iterator", "itertools.zip_longest", "itertools.pairwise"].contains n = false) (hQ : Q () s) : wpAny M A (letOwnedTupleGo tg (.ref it) u) Q E s := by
  unfold letOwnedTupleGo
  cases tg <;> first
    | exact wpAny_pure hQ
    | (cases u <;> first
        | exact wpAny_pure hQ
        | (refine wpAny_bind (wpAny_load ho ?_)
           rw [hc, hd]
           show wpAny M A (if (["enumerate", "zip", "dict_itemiterator", "dict_reverseitemiterator", "odict_iterator", "itertools.zip_longest", "itertools.pairwise"].contains n && vs[0]? == some (rawInt _)) = true then _ else _) Q E s
           rw [if_neg (by intro h; rw [hn, Bool.false_and] at h; cases h)]
           exact wpAny_pure hQ))

/-- the list at a, as it stands at each turn (a loop may append to it) -/
def Itl (K : PySem.W.Frag) (a : Addr) : It :=
  ⟨fun i H => ∃ xs x, SqL K H a xs ∧ xs[i]? = some x, fun i H x H' => H' = H ∧ ∀ xs, SqL K H a xs → xs[i]? = some x, fun i H => ∃ xs, SqL K H a xs ∧ xs.length ≤ i⟩
def Itt (K : PySem.W.Frag) (a : Addr) : It :=
  ⟨fun i H => ∃ xs x, SqT K H a xs ∧ xs[i]? = some x, fun i H x H' => H' = H ∧ ∀ xs, SqT K H a xs → xs[i]? = some x, fun i H => ∃ xs, SqT K H a xs ∧ xs.length ≤ i⟩
/-- lo, lo + 1, .. (n of them) -/
def Itr (lo : Int) (n : Nat) : It := ⟨fun i _ => i < n, fun i H x H' => H' = H ∧ x = .int (lo + i), fun i _ => n ≤ i⟩
theorem turn_list {P : Program} {w : World} {K : PySem.W.Frag} {tg : Expr} (a it : Addr) : Turn P w K tg (Itl K a) [it] it (fun i h => h.IsListIter it a i) where
  mem := by simp
  obj := fun i h st b hb => by
    have e : b = it := by simpa using hb
    subst e
    obtain ⟨o, e, c, d⟩ := st
    exact ⟨o, e, fun v z => by rw [d] at z; cases z⟩
  keep := fun i h h' st k => st.at fun o e => k it (by simp) o e
  item := by
    intro X hP hw hK hc i pins s σ H E I hf st hg
    subst hP hw hK
    obtain ⟨xs, x, hq, hx⟩ := hg
    obtain ⟨its, rv, p, hz⟩ := I.list hq
    obtain ⟨u, hu, ru⟩ := rv.get hx
    obtain ⟨f0, f1, f2, f3, f4, f5⟩ := hf it (by simp)
    refine wpAny_pyNext_list_item st p.isList (x := u) (by simpa using hu) fun h' st' sb => ?_
    have I1 : Inv X pins σ H { s with heap := h' } := I.turned (t' := s.toks) (fun b o hb e => (sb.2 b hb).trans e) f0 f1 f3 f4 f5
    obtain ⟨o, e, c, d⟩ := id st'
    exact ⟨u, rfl, go_of (s := { s with heap := h' }) e c d (by decide) ⟨x, H, I1, ru, ⟨rfl, fun ys hy => by rw [I.list_inj hy hq]; exact hx⟩, st', fun b hb => (hf b hb).1⟩⟩
  done := by
    intro X hP hw hK hc i pins s σ H E I hf st hg
    subst hP hw hK
    obtain ⟨xs, hq, hx⟩ := hg
    obtain ⟨its, rv, p, hz⟩ := I.list hq
    obtain ⟨f0, f1, f2, f3, f4, f5⟩ := hf it (by simp)
    have hl := rv.length
    exact wpAny_pyNext_list_end (I.ok.hd hc) st p.isList (by simp; omega) fun h' eb => ⟨rfl, I.turned (t' := s.toks) (fun b o hb e => eb b o hb e) f0 f1 f3 f4 f5⟩
  self := fun _ _ _ _ _ st h => wpAny_pyIter_listiter st h
theorem turn_tuple {P : Program} {w : World} {K : PySem.W.Frag} {tg : Expr} (a it : Addr) : Turn P w K tg (Itt K a) [it] it (fun i h => h.IsTupleIter it a i) where
  mem := by simp
  obj := fun i h st b hb => by
    have e : b = it := by simpa using hb
    subst e
    obtain ⟨o, e, c, d⟩ := st
    exact ⟨o, e, fun v z => by rw [d] at z; cases z⟩
  keep := fun i h h' st k => st.at fun o e => k it (by simp) o e
  item := by
    intro X hP hw hK hc i pins s σ H E I hf st hg
    subst hP hw hK
    obtain ⟨xs, x, hq, hx⟩ := hg
    obtain ⟨its, rv, p, hz⟩ := I.tuple hq
    obtain ⟨u, hu, ru⟩ := rv.get hx
    obtain ⟨f0, f1, f2, f3, f4, f5⟩ := hf it (by simp)
    refine wpAny_pyNext_tuple_item st (show s.heap.IsTuple a its.toArray from p) (x := u) (by simpa using hu) fun h' st' sb => ?_
    have I1 : Inv X pins σ H { s with heap := h' } := I.turned (t' := s.toks) (fun b o hb e => (sb.2 b hb).trans e) f0 f1 f3 f4 f5
    obtain ⟨o, e, c, d⟩ := id st'
    exact ⟨u, rfl, go_of (s := { s with heap := h' }) e c d (by decide) ⟨x, H, I1, ru, ⟨rfl, fun ys hy => by rw [I.tuple_inj hy hq]; exact hx⟩, st', fun b hb => (hf b hb).1⟩⟩
  done := by
    intro X hP hw hK hc i pins s σ H E I hf st hg
    subst hP hw hK
    obtain ⟨xs, hq, hx⟩ := hg
    obtain ⟨its, rv, p, hz⟩ := I.tuple hq
    obtain ⟨f0, f1, f2, f3, f4, f5⟩ := hf it (by simp)
    have hl := rv.length
    exact wpAny_pyNext_tuple_end (I.ok.hd hc) st (show s.heap.IsTuple a its.toArray from p) (by simp; omega) fun h' eb => ⟨rfl, I.turned (t' := s.toks) (fun b o hb e => eb b o hb e) f0 f1 f3 f4 f5⟩
  self := fun _ _ _ _ _ st h => wpAny_pyIter_tupleiter st h
theorem turn_range {P : Program} {w : World} {K : PySem.W.Frag} {tg : Expr} (it : Addr) (lo : Int) (n : Nat) : Turn P w K tg (Itr lo n) [it] it (fun i h => IsRangeIter h it (lo + (i : Nat) * 1) ((n : Int) - (i : Nat)) 1) where
  mem := by simp
  obj := fun i h st b hb => by
    have e : b = it := by simpa using hb
    subst e
    exact ⟨_, st, fun v z => by
      have z' : Data.fields _ = Data.cell v := z
      cases z'⟩
  keep := fun i h h' st k => k it (by simp) _ st
  item := by
    intro X hP hw hK hc i pins s σ H E I hf st hg
    subst hP hw hK
    obtain ⟨f0, f1, f2, f3, f4, f5⟩ := hf it (by simp)
    have W := Walks.range (prog := X.prog) (w := X.w) (I.ok.hd hc) it lo 1 n
    refine W.item i s _ _ hg st fun v h' tk hv st' kk => ?_
    obtain ⟨t, rfl⟩ := hv
    have I1 : Inv X pins σ H { s with heap := h', toks := tk } := I.turned (fun b o hb e => kk b o (by simpa using hb) e) f0 f1 f3 f4 f5
    refine ⟨_, rfl, go_of (s := { s with heap := h', toks := tk }) (n := "range_iterator") st' rfl rfl (by decide) ⟨.int (lo + i), H, I1, ⟨t, ?_⟩, ⟨rfl, rfl⟩, st', fun b hb => (hf b hb).1⟩⟩
    rw [Int.mul_one]
  done := by
    intro X hP hw hK hc i pins s σ H E I hf st hg
    subst hP hw hK
    obtain ⟨f0, f1, f2, f3, f4, f5⟩ := hf it (by simp)
    exact wpAny_pyNext_range_end (I.ok.hd hc) st (by have : n ≤ i := hg; omega) fun h' eb => ⟨rfl, I.turned (t' := s.toks) (fun b o hb e => eb b o hb e) f0 f1 f3 f4 f5⟩
  self := fun _ _ _ _ _ st h => wpAny_pyIter_rangeiter st h
end L2

namespace L2
open PySem PySem.Spec PyProof.Rows
section
variable {X : Cx} {tg : Expr}
def iList (K : PySem.W.Frag) (tl : TE) : TI := fun σ H R => tl σ H fun x H1 => ∃ a, x = .ref a ∧ (∃ xs, SqL K H1 a xs) ∧ R (Itl K a) H1
def iTup (K : PySem.W.Frag) (tl : TE) : TI := fun σ H R => tl σ H fun x H1 => ∃ a, x = .ref a ∧ (∃ xs, SqT K H1 a xs) ∧ R (Itt K a) H1
theorem pi_list {l : Expr} {tl : TE} (hl : PE X l tl) : PI X tg l (iList X.K tl) := by
  intro pins s σ H R I h
  refine thn (hl pins s σ H _ I h) fun v s1 ⟨x, H1, I1, r1, q1⟩ => ?_
  obtain ⟨a, e, ⟨xs, hq⟩, q⟩ := q1
  subst e
  cases r1
  obtain ⟨its, rv, p, hz⟩ := I1.list hq
  refine wpAny_pyIter_list p.isList ?_
  refine ⟨s1.heap.objs.size, [s1.heap.objs.size], _, _, H1, rfl, I1.kept (t' := s1.toks) fun b o e => Heap.get?_push_of_some _ e, turn_list a _, ⟨_, Heap.get?_push_size _ rfl, rfl, rfl⟩, fun b hb => ?_, q⟩
  have e : b = s1.heap.objs.size := by simpa using hb
  subst e
  exact I1.fpOk (Nat.le_refl _) (I1.hok.fresh (Nat.le_refl _))
theorem pi_tup {l : Expr} {tl : TE} (hl : PE X l tl) : PI X tg l (iTup X.K tl) := by
  intro pins s σ H R I h
  refine thn (hl pins s σ H _ I h) fun v s1 ⟨x, H1, I1, r1, q1⟩ => ?_
  obtain ⟨a, e, ⟨xs, hq⟩, q⟩ := q1
  subst e
  cases r1
  obtain ⟨its, rv, p, hz⟩ := I1.tuple hq
  refine wpAny_pyIter_tuple (show s1.heap.IsTuple a its.toArray from p) ?_
  refine ⟨s1.heap.objs.size, [s1.heap.objs.size], _, _, H1, rfl, I1.kept (t' := s1.toks) fun b o e => Heap.get?_push_of_some _ e, turn_tuple a _, ⟨_, Heap.get?_push_size _ rfl, rfl, rfl⟩, fun b hb => ?_, q⟩
  have e : b = s1.heap.objs.size := by simpa using hb
  subst e
  exact I1.fpOk (Nat.le_refl _) (I1.hok.fresh (Nat.le_refl _))
/-- a range object just made, walked -/
theorem range_it {pins : List (Addr × Obj)} {σ : St} {H : Hp} {s : Shared} {R : It → Hp → Prop} {E : Value → Shared → Prop} {lo hi : Int} {t u v : Tok} {tk : Nat} (I : Inv X pins σ H s) (h1 : -(2 ^ 62) ≤ lo) (h2 : lo < 2 ^ 62) (h3 : -(2 ^ 62) ≤ hi) (h4 : hi < 2 ^ 62)
    (q : R (Itr lo (hi - lo).toNat) H) : wpAny (model X.prog X.w) X.A (pyIter (.ref s.heap.objs.size)) (PIE X pins σ tg R) E { s with heap := s.heap.push { cls := .type "range", data := .fields #[.int lo t, .int hi u, .int 1 v] }, toks := tk } := by
  refine wpAny_pyIter_range (IsRange.new ..) (small_one h1 h2 h3 h4) ?_
  have I1 : Inv X pins σ H { s with heap := s.heap.push { cls := .type "range", data := .fields #[.int lo t, .int hi u, .int 1 v] }, toks := tk } := I.kept fun b o e => Heap.get?_push_of_some _ e
  refine ⟨(s.heap.push { cls := .type "range", data := .fields #[.int lo t, .int hi u, .int 1 v] }).objs.size, [(s.heap.push { cls := .type "range", data := .fields #[.int lo t, .int hi u, .int 1 v] }).objs.size], _, _, H, rfl,
    I1.kept (t' := tk) fun b o e => Heap.get?_push_of_some _ e, turn_range _ lo (hi - lo).toNat, ?_, fun b hb => ?_, q⟩
  · have e1 : lo + ((0 : Nat) : Int) * 1 = lo := by simp
    have e2 : (((hi - lo).toNat : Nat) : Int) - ((0 : Nat) : Int) = Builtin.Range.rangeSize lo hi 1 := by rw [rangeSize_one]; split <;> omega
    show IsRangeIter _ _ (lo + ((0 : Nat) : Int) * 1) ((((hi - lo).toNat : Nat) : Int) - ((0 : Nat) : Int)) 1
    rw [e1, e2]
    exact Heap.get?_push_size _ rfl
  · have e : b = (s.heap.push { cls := .type "range", data := .fields #[.int lo t, .int hi u, .int 1 v] }).objs.size := by simpa using hb
    subst e
    exact I1.fpOk (Nat.le_refl _) (I1.hok.fresh (Nat.le_refl _))
def iRng1 (ta : TA) : TI := fun σ H R => ta σ H fun vs H1 => ∃ j : Int, vs = [.int j] ∧ -(2 ^ 62) ≤ j ∧ j < 2 ^ 62 ∧ R (Itr 0 j.toNat) H1
def iRng2 (ta : TA) : TI := fun σ H R => ta σ H fun vs H1 => ∃ i j : Int, vs = [.int i, .int j] ∧ (-(2 ^ 62) ≤ i ∧ i < 2 ^ 62 ∧ -(2 ^ 62) ≤ j ∧ j < 2 ^ 62) ∧ R (Itr i (j - i).toNat) H1
theorem pi_range1 {a : Expr} {ta : TA} {p pos : Pos} (hg : Gl X "range") (hm : X.mg "range" = none) (ha : PA X [a] ta) (hs : starEach [a] X.env = [(false, eval a X.env)] := by rfl) : PI X tg (.Call (.Name "range" p) [a] [] pos) (iRng1 ta) := by
  intro pins s σ H R I h
  refine Call_ (ld_blt I hg hm boot_range (PyProof.Rows.callWith_type1 (thn (ha pos pins s σ H _ I h) fun us s1 ⟨vs, H1, I1, r1, q1⟩ => ?_) hs rfl))
  obtain ⟨j, e, q1, q2, q⟩ := q1
  subst e
  cases r1 with
  | cons r rr =>
    cases rr
    obtain ⟨t, rfl⟩ := r
    exact call_range_1 (range_it I1 (by omega) (by omega) q1 q2 (by simpa using q))
/-! ### for -/
/-- W: the invariant by the turn and a measure; N: what the body is to reach -/
def tFor (wi : TI) (g : TG) (tb : TS) : TS := fun D σ H => wi σ H fun J H1 => ∃ W : Nat → Nat → St → Hp → Prop, (∃ m, W 0 m σ H1) ∧ ∀ i m σ H, W i m σ H →
  (J.stop i H ∧ D.nx σ H) ∨ (J.go i H ∧ ∃ N : St → Hp → Prop, (∀ σ' H', N σ' H' → ∃ m', m' < m ∧ W (i + 1) m' σ' H') ∧ ∀ x H', J.yld i H x H' → g x σ H' fun σ2 H2 => tb { D with nx := N, ct := N, bk := D.nx } σ2 H2)
/-- the records at fp as they stand -/
def pinsAt (fp : List Addr) (h : Heap) : List (Addr × Obj) := fp.filterMap fun b => (h.get? b).map fun o => (b, o)
theorem mem_pinsAt {fp : List Addr} {h : Heap} {b : Addr} {o : Obj} (hb : b ∈ fp) (e : h.get? b = some o) : (b, o) ∈ pinsAt fp h := List.mem_filterMap.mpr ⟨b, hb, by rw [e]; rfl⟩
theorem of_pinsAt {fp : List Addr} {h : Heap} {p : Addr × Obj} (hp : p ∈ pinsAt fp h) : p.1 ∈ fp ∧ h.get? p.1 = some p.2 := by
  obtain ⟨b, hb, e⟩ := List.mem_filterMap.mp hp
  cases q : h.get? b with
  | none => rw [q] at e; cases e
  | some o =>
    rw [q] at e
    have e' : (b, o) = p := Option.some.inj e
    subst e'
    exact ⟨hb, q⟩
theorem Inv.pinned {pins : List (Addr × Obj)} {σ : St} {H : Hp} {s : Shared} {fp : List Addr} (I : Inv X pins σ H s) (hf : ∀ b ∈ fp, FpOk X pins H b) (ho : ∀ b ∈ fp, ∃ o, s.heap.get? b = some o ∧ ∀ v, o.data ≠ .cell v) : Inv X (pins ++ pinsAt fp s.heap) σ H s :=
  I.pins_of fun p hp => (List.mem_append.mp hp).elim (fun z => I.pin p (List.mem_append_right _ z)) fun z => by
    obtain ⟨hb, e⟩ := of_pinsAt z
    obtain ⟨f0, f1, f2, _⟩ := hf p.1 hb
    obtain ⟨o, e', d⟩ := ho p.1 hb
    rw [e] at e'; cases e'
    exact ⟨e, f0, f1, f2, d⟩
theorem Inv.unpinned {pins pl : List (Addr × Obj)} {σ : St} {H : Hp} {s : Shared} (I : Inv X (pins ++ pl) σ H s) : Inv X pins σ H s := I.pins_of fun p hp => I.pin p (List.mem_append_right _ (List.mem_append_left _ hp))
theorem ps_for {iter : Expr} {body : List Stmt} {wi : TI} {g : TG} {tb : TS} {pos : Pos} (hp : PassesOwn (model X.prog X.w) X.A X.env X.xe) (hc : X.calm = true) (hi : PI X tg iter wi) (hg : PG X tg g) (hb : PSs X body tb)
    (hs : ∀ x, foldedSetIterable iter X.env x = pure x := by intro _; rfl) : PS X (.For tg iter body [] pos) (tFor wi g tb) := by
  intro pins s σ H D I h
  refine wpAny_For (thn (hi pins s σ H _ I h) fun v s1 h1 => thn h1 fun itv s2 h2 => ?_) hs
  obtain ⟨it, fp, tn, J, H2, e, I2, T, st2, f2, W, ⟨m0, w0⟩, turn⟩ := h2
  subst e
  -- what stays true of the iterator's objects through the loop
  have stat : ∀ {H' : Hp}, (∀ b ∈ fp, H' b = none) → ∀ b ∈ fp, FpOk X pins H' b := fun hn b hb => ⟨hn b hb, (f2 b hb).2⟩
  refine codeAny_forLoop_any (fun n s' => ∃ i σ' H', Inv X pins σ' H' s' ∧ tn i s'.heap ∧ (∀ b ∈ fp, H' b = none) ∧ W i n σ' H') ?_ m0 ⟨0, σ, H2, I2, st2, fun b hb => (f2 b hb).1, w0⟩
  rintro n s3 ⟨i, σ3, H3, I3, st3, fr3, w3⟩
  rcases turn i n σ3 H3 w3 with ⟨stop, qn⟩ | ⟨go, N, hN, step⟩
  · refine wpAny_passesOwn hp (thn (T.done X rfl rfl rfl hc i pins s3 σ3 H3 X.xe I3 (stat fr3) st3 stop) fun r s4 ⟨hr, I4⟩ => ?_)
    subst hr
    exact wpAny_execs_nil ⟨σ3, H3, I4, qn⟩
  · refine wpAny_passesOwn hp (thn (T.item X rfl rfl rfl hc i pins s3 σ3 H3 X.xe I3 (stat fr3) st3 go) fun r s4 ⟨u, hr, h4⟩ => ?_)
    subst hr
    refine wpAny_passesOwn hp (thn h4 fun _ s5 ⟨x, H5, I5, r5, y5, st5, fr5⟩ => ?_)
    have I5' := I5.pinned (stat fr5) (T.obj _ _ st5)
    refine wpAny_passesOwn hp (thn (hg _ s5 σ3 H5 x u _ I5' r5 (step x H5 y5)) fun _ s6 ⟨σ6, H6, I6, q6⟩ => ?_)
    refine wpAny_passesOwn hp (thn (hb _ s6 σ6 H6 _ I6 q6) fun f s7 q7 => ?_)
    have again : ∀ {σ7 : St} {H7 : Hp}, Inv X (pins ++ pinsAt fp s5.heap) σ7 H7 s7 → N σ7 H7 → ∃ m, m < n ∧ ∃ i σ' H', Inv X pins σ' H' s7 ∧ tn i s7.heap ∧ (∀ b ∈ fp, H' b = none) ∧ W i m σ' H' := fun {σ7 H7} I7 n7 => by
      obtain ⟨m', hm, w7⟩ := hN σ7 H7 n7
      refine ⟨m', hm, i + 1, σ7, H7, I7.unpinned, T.keep _ _ _ st5 fun b hb o e => (I7.pin (b, o) (List.mem_append_right _ (List.mem_append_right _ (mem_pinsAt hb e)))).1, fun b hb => ?_, w7⟩
      obtain ⟨o, e, d⟩ := T.obj _ _ st5 b hb
      exact (I7.pin (b, o) (List.mem_append_right _ (List.mem_append_right _ (mem_pinsAt hb e)))).2.1
    cases f with
    | next => obtain ⟨σ7, H7, I7, n7⟩ := q7; exact again I7 n7
    | cont => obtain ⟨σ7, H7, I7, n7⟩ := q7; exact again I7 n7
    | brk => obtain ⟨σ7, H7, I7, q7⟩ := q7; exact ⟨σ7, H7, I7.unpinned, q7⟩
    | ret v => obtain ⟨x7, σ7, H7, I7, r7, q7⟩ := q7; exact ⟨x7, σ7, H7, I7.unpinned, r7, q7⟩
end

/-! ### the forms one uses -/
theorem for_tup {K : PySem.W.Frag} {a : Addr} {xs : List V} {g : TG} {tb : TS} {D : Ends} {σ : St} {H : Hp} (Pv : Nat → St → Hp → Prop) (h0 : Pv 0 σ H) (hl : ∀ i σ H, i ≤ xs.length → Pv i σ H → SqT K H a xs)
    (hs : ∀ i x σ H, xs[i]? = some x → Pv i σ H → g x σ H fun σ2 H2 => tb { D with nx := Pv (i + 1), ct := Pv (i + 1), bk := D.nx } σ2 H2) (hd : ∀ σ H, Pv xs.length σ H → D.nx σ H) :
    ∃ W : Nat → Nat → St → Hp → Prop, (∃ m, W 0 m σ H) ∧ ∀ i m σ H, W i m σ H →
      ((Itt K a).stop i H ∧ D.nx σ H) ∨ ((Itt K a).go i H ∧ ∃ N : St → Hp → Prop, (∀ σ' H', N σ' H' → ∃ m', m' < m ∧ W (i + 1) m' σ' H') ∧ ∀ x H', (Itt K a).yld i H x H' → g x σ H' fun σ2 H2 => tb { D with nx := N, ct := N, bk := D.nx } σ2 H2) := by
  refine ⟨fun i m σ H => m = xs.length - i ∧ i ≤ xs.length ∧ Pv i σ H, ⟨xs.length, by simp, Nat.zero_le _, h0⟩, ?_⟩
  rintro i m σ H ⟨rfl, hi, p⟩
  have q := hl i σ H hi p
  by_cases hlt : i < xs.length
  · refine .inr ⟨⟨xs, xs[i], q, by simp [hlt]⟩, Pv (i + 1), fun σ' H' p' => ⟨xs.length - (i + 1), by omega, rfl, hlt, p'⟩, fun x H' y => ?_⟩
    obtain ⟨e, y⟩ := y
    subst e
    exact hs i x σ _ (y xs q) p
  · have e : i = xs.length := by omega
    subst e
    exact .inl ⟨⟨xs, q, Nat.le_refl _⟩, hd σ H p⟩
theorem for_range {lo : Int} {n : Nat} {g : TG} {tb : TS} {D : Ends} {σ : St} {H : Hp} (Pv : Nat → St → Hp → Prop) (h0 : Pv 0 σ H)
    (hs : ∀ i σ H, i < n → Pv i σ H → g (.int (lo + i)) σ H fun σ2 H2 => tb { D with nx := Pv (i + 1), ct := Pv (i + 1), bk := D.nx } σ2 H2) (hd : ∀ σ H, Pv n σ H → D.nx σ H) :
    ∃ W : Nat → Nat → St → Hp → Prop, (∃ m, W 0 m σ H) ∧ ∀ i m σ H, W i m σ H →
      ((Itr lo n).stop i H ∧ D.nx σ H) ∨ ((Itr lo n).go i H ∧ ∃ N : St → Hp → Prop, (∀ σ' H', N σ' H' → ∃ m', m' < m ∧ W (i + 1) m' σ' H') ∧ ∀ x H', (Itr lo n).yld i H x H' → g x σ H' fun σ2 H2 => tb { D with nx := N, ct := N, bk := D.nx } σ2 H2) := by
  refine ⟨fun i m σ H => m = n - i ∧ i ≤ n ∧ Pv i σ H, ⟨n, by simp, Nat.zero_le _, h0⟩, ?_⟩
  rintro i m σ H ⟨rfl, hi, p⟩
  by_cases hlt : i < n
  · refine .inr ⟨hlt, Pv (i + 1), fun σ' H' p' => ⟨n - (i + 1), by omega, rfl, hlt, p'⟩, fun x H' y => ?_⟩
    obtain ⟨e, y⟩ := y
    subst e y
    exact hs i σ _ hlt p
  · have e : i = n := by omega
    subst e
    exact .inl ⟨Nat.le_refl _, hd σ H p⟩
end L2

namespace L2
open PySem PySem.Spec PyProof.Rows

abbrev R2 := V → V → Hp → VK → Prop
/-- a two-place operation on values: f is binaryOp op, inplaceOp op or compareOp op -/
def OpR (X : Cx) (f : Value → Value → Sem Value) (r : R2) : Prop :=
  ∀ (pins : List (Addr × Obj)) (s : Shared) (σ : St) (H : Hp) (x y : V) (v u : Value) (Q : VK), Inv X pins σ H s → RelV x v → RelV y u → r x y H Q →
    wpAny (model X.prog X.w) X.A (f v u) (EP X pins σ Q) X.xe s
/-- a one-place operation -/
def UnR (X : Cx) (f : Value → Sem Value) (r : V → Hp → VK → Prop) : Prop :=
  ∀ (pins : List (Addr × Obj)) (s : Shared) (σ : St) (H : Hp) (x : V) (v : Value) (Q : VK), Inv X pins σ H s → RelV x v → r x H Q →
    wpAny (model X.prog X.w) X.A (f v) (EP X pins σ Q) X.xe s
/-- a call of a value that is known (a builtin, a type) with values -/
def CallR (X : Cx) (f : Value) (r : List V → Hp → VK → Prop) : Prop :=
  ∀ (pins : List (Addr × Obj)) (s : Shared) (σ : St) (H : Hp) (xs : List V) (us : List Value) (Q : VK), Inv X pins σ H s → Vals xs us → r xs H Q →
    wpAny (model X.prog X.w) X.A (call f us) (EP X pins σ Q) X.xe s
/-- a value's truth -/
def TruR (X : Cx) (r : V → Hp → (Bool → Hp → Prop) → Prop) : Prop :=
  ∀ (pins : List (Addr × Obj)) (s : Shared) (σ : St) (H : Hp) (x : V) (v : Value) (Q : Bool → Hp → Prop), Inv X pins σ H s → RelV x v → r x H Q →
    wpAny (model X.prog X.w) X.A (truthy v) (TP X pins σ Q) X.xe s

def tOp (r : R2) (ta tb : TE) : TE := fun σ H Q => ta σ H fun x H1 => tb σ H1 fun y H2 => r x y H2 Q
def tUn (r : V → Hp → VK → Prop) (ta : TE) : TE := fun σ H Q => ta σ H fun x H1 => r x H1 Q
/-- ints in, under C, and a value out -/
def rI (C : Int → Int → Prop) (g : Int → Int → V) : R2 := fun x y H Q => ∃ i j, x = .int i ∧ y = .int j ∧ C i j ∧ Q (g i j) H
def rI0 (g : Int → Int → V) : R2 := fun x y H Q => ∃ i j, x = .int i ∧ y = .int j ∧ Q (g i j) H
def rU (g : Int → V) : V → Hp → VK → Prop := fun x H Q => ∃ i, x = .int i ∧ Q (g i) H

section
variable {X : Cx} {a b c : Expr} {ta tb tc : TE} {pos : Pos}

theorem binT (ha : PE X a ta) (hb : PE X b tb) {pins : List (Addr × Obj)} {s : Shared} {σ : St} {H : Hp} {R : V → V → Hp → Prop} (I : Inv X pins σ H s)
    (h : ta σ H fun x H1 => tb σ H1 fun y H2 => R x y H2) {Q : Value → Shared → Prop} {f : Value → Value → Sem Value}
    (hf : ∀ v u s2 x y H2, Inv X pins σ H2 s2 → RelV x v → RelV y u → R x y H2 → wpAny (model X.prog X.w) X.A (f v u) Q X.xe s2) :
    wpAny (model X.prog X.w) X.A (eval a X.env) (fun v s₁ => wpAny (model X.prog X.w) X.A (eval b X.env) (fun u s₂ => wpAny (model X.prog X.w) X.A (f v u) Q X.xe s₂) X.xe s₁) X.xe s := by
  refine thn (ha pins s σ H _ I h) fun v s1 ⟨x, H1, I1, r1, q1⟩ => ?_
  refine thn (hb pins s1 σ H1 _ I1 q1) fun u s2 ⟨y, H2, I2, r2, q2⟩ => ?_
  exact hf v u s2 x y H2 I2 r1 r2 q2

theorem pe_op {op : Operator} {r : R2} (ho : OpR X (binaryOp op) r) (ha : PE X a ta) (hb : PE X b tb) : PE X (.BinOp a op b pos) (tOp r ta tb) := by
  intro pins s σ H Q I h
  exact wpAny_BinOp (binT ha hb I h fun v u s2 x y H2 I2 rx ry q => ho pins s2 σ H2 x y v u Q I2 rx ry q)
/-! ### ints -/
theorem opI {f : Value → Value → Sem Value} {C : Int → Int → Prop} {g : Int → Int → Int}
    (rule : ∀ (i j : Int) (t u : Tok) (s : Shared) (Q : Value → Shared → Prop) (E : Value → Shared → Prop), C i j → Q (.int (g i j) s.toks) { s with toks := s.toks + 1 } → wpAny (model X.prog X.w) X.A (f (.int i t) (.int j u)) Q E s) :
    OpR X f (rI C fun i j => .int (g i j)) := by
  intro pins s σ H x y v u Q I rx ry h
  obtain ⟨i, j, rfl, rfl, hc, q⟩ := h
  obtain ⟨t, rfl⟩ := rx
  obtain ⟨t', rfl⟩ := ry
  exact rule i j t t' s _ _ hc ⟨.int (g i j), H, I.tok _, ⟨_, rfl⟩, q⟩
theorem opI0 {f : Value → Value → Sem Value} {g : Int → Int → Int}
    (rule : ∀ (i j : Int) (t u : Tok) (s : Shared) (Q : Value → Shared → Prop) (E : Value → Shared → Prop), Q (.int (g i j) s.toks) { s with toks := s.toks + 1 } → wpAny (model X.prog X.w) X.A (f (.int i t) (.int j u)) Q E s) :
    OpR X f (rI0 fun i j => .int (g i j)) := by
  intro pins s σ H x y v u Q I rx ry h
  obtain ⟨i, j, rfl, rfl, q⟩ := h
  obtain ⟨t, rfl⟩ := rx
  obtain ⟨t', rfl⟩ := ry
  exact rule i j t t' s _ _ ⟨.int (g i j), H, I.tok _, ⟨_, rfl⟩, q⟩
theorem opB0 {f : Value → Value → Sem Value} {g : Int → Int → Bool}
    (rule : ∀ (i j : Int) (t u : Tok) (s : Shared) (Q : Value → Shared → Prop) (E : Value → Shared → Prop), Q (.bool (g i j)) s → wpAny (model X.prog X.w) X.A (f (.int i t) (.int j u)) Q E s) :
    OpR X f (rI0 fun i j => .bl (g i j)) := by
  intro pins s σ H x y v u Q I rx ry h
  obtain ⟨i, j, rfl, rfl, q⟩ := h
  obtain ⟨t, rfl⟩ := rx
  obtain ⟨t', rfl⟩ := ry
  exact rule i j t t' s _ _ ⟨.bl (g i j), H, I, rfl, q⟩

def CDiv (i j : Int) : Prop := 0 < j ∧ j < 1073741824
def CDivN (i j : Int) : Prop := j ≠ 0 ∧ j.natAbs < 1073741824
def CPow (i j : Int) : Prop := 0 ≤ j ∧ j ≤ 1000000 ∧ i.natAbs < 2 ^ 64
def CMul (i j : Int) : Prop := (-(2 ^ 64) < i ∧ i < 2 ^ 64) ∨ (-(2 ^ 64) < j ∧ j < 2 ^ 64)
theorem CMul.ok {i j : Int} (h : CMul i j) : IntMulOk i j := by
  rcases h with ⟨h1, h2⟩ | ⟨h1, h2⟩
  · exact .of_left (intBits_le_64 h1 h2)
  · exact .of_right (intBits_le_64 h1 h2)
theorem op_add : OpR X (binaryOp .Add) (rI0 fun i j => .int (i + j)) := opI0 fun _ _ _ _ _ _ _ q => add_int q
theorem op_sub : OpR X (binaryOp .Sub) (rI0 fun i j => .int (i - j)) := opI0 fun _ _ _ _ _ _ _ q => sub_int q
/-- % by a positive divisor of any size -/
theorem op_mod : OpR X (binaryOp .Mod) (rI (fun _ j => 0 < j) fun i j => .int (i % j)) := opI fun i j _ _ _ _ _ hc q => by
  have h1 : (0 : Int) < j := hc
  exact mod_int' (by omega) (by rw [Int.fmod_eq_emod_of_nonneg i (by omega)]; exact q)
/-! ### bools among ints: n += (a < b) -/
end

/-! ### comparisons -/
/-- the scalars that == tells apart as data does -/
def scal : V → V → Bool
  | .non, .non => true | .non, .int _ => true | .int _, .non => true | .non, .bl _ => true | .bl _, .non => true | .non, .str _ => true | .str _, .non => true
  | .int _, .int _ => true | .bl _, .bl _ => true | .str _, .str _ => true | .byt _, .byt _ => true
  | .int _, .str _ => true | .str _, .int _ => true | .bl _, .str _ => true | .str _, .bl _ => true
  | _, _ => false
def rEq : R2 := fun x y H Q => scal x y = true ∧ Q (.bl (decide (x = y))) H
def rNe : R2 := fun x y H Q => scal x y = true ∧ Q (.bl (!decide (x = y))) H

theorem dec_int {i j : Int} : decide (V.int i = V.int j) = (i == j) := by
  rw [Bool.eq_iff_iff]
  simp
theorem dec_bl {i j : Bool} : decide (V.bl i = V.bl j) = (i == j) := by
  rw [Bool.eq_iff_iff]
  simp
theorem dec_str {i j : Str} : decide (V.str i = V.str j) = (i == j) := by
  rw [Bool.eq_iff_iff]
  simp
theorem dec_byt {i j : Array UInt8} : decide (V.byt i = V.byt j) = (i.toList == j.toList) := by
  rw [Bool.eq_iff_iff]
  cases i
  cases j
  simp

section
variable {X : Cx} {a b c : Expr} {ta tb tc : TE} {pos : Pos}
theorem fin_bl {pins : List (Addr × Obj)} {σ : St} {H : Hp} {s : Shared} {Q : VK} {k k' : Bool} (I : Inv X pins σ H s) (q : Q (.bl k) H) (e : k = k') : EP X pins σ Q (.bool k') s := by
  subst e
  exact ⟨.bl k, H, I, rfl, q⟩
theorem op_eq : OpR X (compareOp .Eq) rEq := by
  intro pins s σ H x y v u Q I rx ry h
  obtain ⟨hs, q⟩ := h
  cases x with
  | non =>
    cases rx
    cases y with
    | non => cases ry; exact PySem.EqNone.eq_none_none (fin_bl I q (by simp))
    | bl j => cases ry; exact PySem.EqNone.eq_none_bool (fin_bl I q (by simp))
    | int j => obtain ⟨t', rfl⟩ := ry; exact PySem.EqNone.eq_none_int (fin_bl I q (by simp))
    | str j => obtain ⟨t', rfl⟩ := ry; exact PySem.EqNone.eq_none_str (fin_bl I q (by simp))
    | _ => exact absurd (show false = true from hs) Bool.false_ne_true
  | bl i =>
    cases rx
    cases y with
    | non => cases ry; exact PySem.EqNone.eq_bool_none (fin_bl I q (by simp))
    | bl j => cases ry; exact eq_bool (fin_bl I q dec_bl)
    | str j => obtain ⟨t', rfl⟩ := ry; exact PySem.EqMixed.eq_bool_str (fin_bl I q (by simp))
    | _ => exact absurd (show false = true from hs) Bool.false_ne_true
  | int i =>
    obtain ⟨t, rfl⟩ := rx
    cases y with
    | non => cases ry; exact PySem.EqNone.eq_int_none (fin_bl I q (by simp))
    | int j => obtain ⟨t', rfl⟩ := ry; exact eq_int (fin_bl I q dec_int)
    | str j => obtain ⟨t', rfl⟩ := ry; exact PySem.EqMixed.eq_int_str (fin_bl I q (by simp))
    | _ => exact absurd (show false = true from hs) Bool.false_ne_true
  | str i =>
    obtain ⟨t, rfl⟩ := rx
    cases y with
    | non => cases ry; exact PySem.EqNone.eq_str_none (fin_bl I q (by simp))
    | bl j => cases ry; exact PySem.EqMixed.eq_str_bool (fin_bl I q (by simp))
    | int j => obtain ⟨t', rfl⟩ := ry; exact PySem.EqMixed.eq_str_int (fin_bl I q (by simp))
    | str j => obtain ⟨t', rfl⟩ := ry; exact eq_str (fin_bl I q dec_str)
    | _ => exact absurd (show false = true from hs) Bool.false_ne_true
  | byt i =>
    obtain ⟨t, rfl⟩ := rx
    cases y with
    | byt j => obtain ⟨t', rfl⟩ := ry; exact PySem.W.eq_bytes (fin_bl I q dec_byt)
    | _ => exact absurd (show false = true from hs) Bool.false_ne_true
  | _ => cases y <;> exact absurd (show false = true from hs) Bool.false_ne_true
theorem op_ne : OpR X (compareOp .NotEq) rNe := by
  intro pins s σ H x y v u Q I rx ry h
  obtain ⟨hs, q⟩ := h
  cases x with
  | non =>
    cases rx
    cases y with
    | non => cases ry; exact PySem.EqNone.ne_none_none (fin_bl I q (by simp))
    | bl j => cases ry; exact PySem.EqNone.ne_none_bool (fin_bl I q (by simp))
    | int j => obtain ⟨t', rfl⟩ := ry; exact PySem.EqNone.ne_none_int (fin_bl I q (by simp))
    | str j => obtain ⟨t', rfl⟩ := ry; exact PySem.EqNone.ne_none_str (fin_bl I q (by simp))
    | _ => exact absurd (show false = true from hs) Bool.false_ne_true
  | bl i =>
    cases rx
    cases y with
    | non => cases ry; exact PySem.EqNone.ne_bool_none (fin_bl I q (by simp))
    | bl j => cases ry; exact ne_bool (fin_bl I q (congrArg not dec_bl))
    | str j => obtain ⟨t', rfl⟩ := ry; exact PySem.EqMixed.ne_bool_str (fin_bl I q (by simp))
    | _ => exact absurd (show false = true from hs) Bool.false_ne_true
  | int i =>
    obtain ⟨t, rfl⟩ := rx
    cases y with
    | non => cases ry; exact PySem.EqNone.ne_int_none (fin_bl I q (by simp))
    | int j => obtain ⟨t', rfl⟩ := ry; exact ne_int (fin_bl I q (congrArg not dec_int))
    | str j => obtain ⟨t', rfl⟩ := ry; exact PySem.EqMixed.ne_int_str (fin_bl I q (by simp))
    | _ => exact absurd (show false = true from hs) Bool.false_ne_true
  | str i =>
    obtain ⟨t, rfl⟩ := rx
    cases y with
    | non => cases ry; exact PySem.EqNone.ne_str_none (fin_bl I q (by simp))
    | bl j => cases ry; exact PySem.EqMixed.ne_str_bool (fin_bl I q (by simp))
    | int j => obtain ⟨t', rfl⟩ := ry; exact PySem.EqMixed.ne_str_int (fin_bl I q (by simp))
    | str j => obtain ⟨t', rfl⟩ := ry; exact ne_str (fin_bl I q (congrArg not dec_str))
    | _ => exact absurd (show false = true from hs) Bool.false_ne_true
  | byt i =>
    obtain ⟨t, rfl⟩ := rx
    cases y with
    | byt j => obtain ⟨t', rfl⟩ := ry; exact PySem.W.ne_bytes (fin_bl I q (congrArg not dec_byt))
    | _ => exact absurd (show false = true from hs) Bool.false_ne_true
  | _ => cases y <;> exact absurd (show false = true from hs) Bool.false_ne_true

theorem op_lt : OpR X (compareOp .Lt) (rI0 fun i j => .bl (decide (i < j))) := opB0 fun _ _ _ _ _ _ _ q => lt_int q
theorem op_le : OpR X (compareOp .LtE) (rI0 fun i j => .bl (decide (i ≤ j))) := opB0 fun _ _ _ _ _ _ _ q => le_int q
theorem op_gt : OpR X (compareOp .Gt) (rI0 fun i j => .bl (decide (j < i))) := opB0 fun _ _ _ _ _ _ _ q => gt_int q
/-- is None, is not None: the right side a value none -/
theorem op_isN : OpR X (compareOp .Is) (fun x y H Q => y = .non ∧ Q (.bl (decide (x = .non))) H) := by
  intro pins s σ H x y v u Q I rx ry h
  obtain ⟨rfl, q⟩ := h
  cases ry
  refine is_none_gen (fin_bl I q ?_)
  cases x <;> first
    | (cases rx; rfl)
    | (obtain ⟨t, rfl⟩ := rx; rfl)
theorem op_notN : OpR X (compareOp .IsNot) (fun x y H Q => y = .non ∧ Q (.bl (!decide (x = .non))) H) := by
  intro pins s σ H x y v u Q I rx ry h
  obtain ⟨rfl, q⟩ := h
  cases ry
  refine isnot_none_gen (fin_bl I q ?_)
  cases x <;> first
    | (cases rx; rfl)
    | (obtain ⟨t, rfl⟩ := rx; rfl)

/-- is, is not of two objects that are tracked lists or instances -/
def isObj : HO → Bool
  | .lst _ => true
  | .ins _ _ _ => true
  | _ => false
theorem nomark (b : Expr) {op : CmpOp} (h : op ≠ .In := by decide) (h2 : op ≠ .NotIn := by decide) : behindInMarks op b = false := by
  have e1 : (op == CmpOp.In) = false := by cases op <;> first | rfl | exact absurd rfl h
  have e2 : (op == CmpOp.NotIn) = false := by cases op <;> first | rfl | exact absurd rfl h2
  cases b <;> simp [behindInMarks, e1, e2]
/-- a comparison as a value; hm: nomark b, or (for in, not in) by with_unfolding_all rfl -/
theorem pe_cmpR {op : CmpOp} {r : R2} (ho : OpR X (compareOp op) r) (ha : PE X a ta) (hb : PE X b tb) (hm : behindInMarks op b = false) : PE X (.Compare a [op] [b] pos) (tOp r ta tb) := by
  intro pins s σ H Q I h
  exact wpAny_Compare1 (binT ha hb I h fun v u s2 x y H2 I2 rx ry q => ho pins s2 σ H2 x y v u Q I2 rx ry q) hm
/-- a reading of a value as a test -/
def tTest (t : TE) : TT := fun σ H Q => t σ H fun x H' => ∃ k, x = .bl k ∧ Q k H'
theorem pt_cmpR {op : CmpOp} {r : R2} (ho : OpR X (compareOp op) r) (ha : PE X a ta) (hb : PE X b tb) (hm : behindInMarks op b = false) : PT X (.Compare a [op] [b] pos) (tTest (tOp r ta tb)) := by
  intro pins s σ H Q I h
  refine wpAny_isTrue_Compare1 (thn (ha pins s σ H _ I h) fun v s1 ⟨x, H1, I1, r1, q1⟩ => thn (hb pins s1 σ H1 _ I1 q1) fun u s2 ⟨y, H2, I2, r2, q2⟩ =>
    thn (ho pins s2 σ H2 x y v u _ I2 r1 r2 q2) fun c s3 ⟨z, H3, I3, r3, k, e, q3⟩ => ?_) hm
  subst e
  cases r3
  exact wpAny_truthy_bool ⟨H3, I3, q3⟩
/-- a op1 b op2 c -/
def tChain (r r' : R2) (ta tb tc : TE) : TE := fun σ H Q => ta σ H fun x H1 => tb σ H1 fun y H2 => r x y H2 fun z H3 => ∃ k, z = .bl k ∧
  (if k = true then tc σ H3 fun w' H4 => r' y w' H4 Q else Q (.bl false) H3)
/-! ### truth -/
/-- a value's truth by the abstract heap -/
def TruV (K : PySem.W.Frag) (x : V) (H : Hp) (k : Bool) : Prop :=
  match x with
  | .non => k = false
  | .bl b => k = b
  | .int i => k = (i != 0)
  | .str y => y.length ≤ sizeLine ∧ k = ((y.length : Int) != 0)
  | .byt y => y.size ≤ sizeLine ∧ k = ((y.size : Int) != 0)
  | .ref p => (∃ xs, SqL K H p xs ∧ k = !xs.isEmpty) ∨ (∃ xs, SqT K H p xs ∧ k = !xs.isEmpty) ∨ ∃ kvs, H p = some (.dK kvs) ∧ k = !kvs.isEmpty
  | _ => False
theorem line63 : (sizeLine : Nat) < 2 ^ 63 := by rw [sizeLine_eq]; decide
/-! ### strs and bytes -/
def PlainIxT (b : Expr) : Prop := ∀ o i, subscripted b false o i = operate [o, i] (getItem o i)
/-! ### scalar builtins, by CallR -/
theorem vals1 {x : V} {us : List Value} (r : Vals [x] us) : ∃ u, us = [u] ∧ RelV x u := by
  cases r with
  | cons r1 r2 => cases r2; exact ⟨_, rfl, r1⟩
theorem vals2 {x y : V} {us : List Value} (r : Vals [x, y] us) : ∃ u w', us = [u, w'] ∧ RelV x u ∧ RelV y w' := by
  cases r with
  | cons r1 r2 =>
    cases r2 with
    | cons r3 r4 => cases r4; exact ⟨_, _, rfl, r1, r3⟩
/-- len of a str, a bytes, a list, a tuple -/
def LenV (K : PySem.W.Frag) (x : V) (H : Hp) (n : Nat) : Prop :=
  match x with
  | .str y => y.length ≤ sizeLine ∧ n = y.length
  | .byt y => y.size ≤ sizeLine ∧ n = y.size
  | .ref p => (∃ xs, SqL K H p xs ∧ n = xs.length) ∨ ∃ xs, SqT K H p xs ∧ n = xs.length
  | _ => False
end
end L2

namespace L2
open PySem PySem.Spec PyProof.Rows

/-! ### an instance, its attributes a map -/
structure ObjM (h : Heap) (x dx C : Addr) (mA : Str → Option Value) : Prop where
  obj : h.get? x = some (PySem.W.instObj C dx)
  ns : h.Ns1 dx mA
  ne : dx ≠ x

theorem lookIn_ns {h : Heap} {dx : Addr} {mA : Str → Option Value} (n : h.Ns1 dx mA) : ∃ od, h.get? dx = some od ∧ ∀ name, PySem.W.lookIn name od = some (mA name) := by
  obtain ⟨o, es, ep, ho, hd, hk, _, hm⟩ := n
  refine ⟨o, ho, fun name => ?_⟩
  have e := hm name
  unfold nsFind findBy at e
  rw [← Array.find?_toList] at e
  unfold PySem.W.lookIn
  rw [hd]
  dsimp only
  split
  · rename_i y q
    rw [q] at e
    exact congrArg some e
  · rename_i q
    rw [q] at e
    have a : es.toList.any (·.refKey) = false := by
      rw [List.any_eq_false]
      intro y hy
      obtain ⟨z, t, hkey⟩ := hk y (Array.mem_toList_iff.mp hy)
      simp [DictEntry.refKey, hkey]
    have a' : ¬ es.toList.any (·.refKey) = true := by rw [a]; exact Bool.false_ne_true
    rw [if_neg a']
    exact congrArg some e

theorem ObjM.look {h : Heap} {x dx C : Addr} {mA : Str → Option Value} (I : ObjM h x dx C mA) : ∃ od, PySem.W.InstAt h x (PySem.W.instObj C dx) C (some od) ∧ ∀ name, PySem.W.lookIn name od = some (mA name) :=
  let ⟨od, ho, hl⟩ := lookIn_ns I.ns
  ⟨od, ⟨I.obj, rfl, rfl, ho⟩, hl⟩

section
variable {prog : Program} {w : World} {A : Around} {E : Value → Shared → Prop} {s : Shared} {K : PySem.W.Frag} {x dx C f : Addr} {mA : Str → Option Value} {name : Str} {v : Value}

theorem get_map {expr : Bool} {Q : Value → Shared → Prop} (X : K.In s.heap) (I : ObjM s.heap x dx C mA) (hg : PySem.W.plainGet K C name = true) (hh : PySem.W.hasDictIn K C = true)
    (ha : PySem.W.findIn K (.ref C) name = some none) (hv : mA name = some v) (hv' : PySem.W.handedIn v = true) (h : Q v { s with toks := s.toks + 1 }) :
    wpAny (model prog w) A (getAttr (.ref x) name expr) Q E s := by
  obtain ⟨od, J, hl⟩ := I.look
  exact PySem.W.get_value X J (PySem.W.plainGet_of hg).1 (PySem.W.findObj_own hh ha rfl (by rw [hl, hv])) hv' h

theorem get_meth {pl : Sem Bool} {Q : Value × List Value → Shared → Prop} (X : K.In s.heap) (I : ObjM s.heap x dx C mA) (hg : PySem.W.plainGet K C name = true)
    (hf : PySem.W.findIn K (.ref C) name = some (some (.ref f))) (ht : PySem.W.isFn K (.ref f) = true) (hv : mA name = none) (h : Q (.ref f, [.ref x]) s) :
    wpAny (model prog w) A (getMethod (.ref x) name pl) Q E s := by
  obtain ⟨od, J, hl⟩ := I.look
  exact PySem.W.method_fn X J (PySem.W.plainGet_of hg).1 (PySem.W.plainGet_of hg).2 hf (beq_iff_eq.mp ht) (by show (PySem.W.lookIn name od).map (·.isSome) = some false; rw [hl, hv]; rfl) h

theorem set_map {ns : List Str} {Q : Unit → Shared → Prop} (X : K.In s.heap) (I : ObjM s.heap x dx C mA)
    (hs : PySem.W.findIn K (.ref C) "__setattr__" = some (some (.builtin "object.__setattr__"))) (hp : PySem.W.plainOver K C = true) (ht : PySem.W.takerIn K C name = some none) (hh : PySem.W.hasDictIn K C = true)
    (hw : PySem.Within mA ns) (hsz : ns.length ≤ sizeLine)
    (h : ∀ h', ObjM h' x dx C (fun y => if y = name then some v else mA y) → Heap.SameBut dx s.heap h' → Q () { s with heap := h', toks := s.toks + 2 }) :
    wpAny (model prog w) A (setAttr (.ref x) name v) Q E s := by
  obtain ⟨od, J, hl⟩ := I.look
  refine PySem.W.set_plain X J hs (PySem.W.osa_open (s := { s with toks := s.toks + 1 }) (r := none) X J hp ht fun b => ?_)
  obtain ⟨cd, hc, hd'⟩ := PySem.W.any_some hh
  have hx : s.heap.get? x = some ⟨.ref C, some dx, .plain, #[]⟩ := I.obj
  refine wpAny_bind (wpAny_pure (wpAny_bind (wpAny_bind (wpAny_loadPart hx (wpAny_bind (PySem.W.Looks.here (s := { s with toks := s.toks + 1 }) (PySem.W.looks_clsIn X hc) ?_))))))
  rw [hd']
  refine wpAny_pure (a := some dx) (wpAny_bind (wpAny_pure (wpAny_bind ?_)))
  refine wpAny_nsSet1 (s := { s with toks := s.toks + 1 }) I.ns fun h' hn2 hs2 => ?_
  obtain ⟨oD, esD, epD, hoD, hdD, hcD⟩ := hn2.count (PySem.Within.cons name v hw)
  refine wpAny_bind (wpAny_lookBehind hoD (by rw [hdD]; exact pastItsLine_dict (Nat.le_trans hcD (by rw [List.length_cons]; omega))) ?_)
  exact wpAny_pure (h _ ⟨(hs2.2 _ (Ne.symm I.ne)).trans I.obj, hn2, I.ne⟩ hs2)

/-- C(..): the dict at the heap's end, the instance behind it; then its __init__ -/
theorem make_map {R : Result → Shared → Prop} {vs : List Value} {kw : List (Str × Value)} (X : K.In s.heap) (hm : PySem.W.makesIn K C = true)
    (hi : PySem.W.findIn K (.ref C) "__init__" = some (some (.ref f))) (hf : PySem.W.typeIn K (.ref f) = some (.type "function"))
    (h : codeAny (model prog w) (A.under (.builtin "type.__call__" ⟨.ref C :: vs, kw⟩)) (.call (.ref f) ⟨.ref (s.heap.objs.size + 1) :: vs, kw⟩) (PySem.W.InitBack (s.heap.objs.size + 1) R)
      { s with heap := (s.heap.push PySem.W.emptyDict).push (PySem.W.instObj C s.heap.objs.size) }) :
    codeAny (model prog w) A (.call (.ref C) ⟨vs, kw⟩) R s := by
  obtain ⟨hh, g, d, t, os⟩ := s
  exact PySem.W.make_core (PySem.W.makes_of X hm) (PySem.W.looks_findIn X hi) (fun self => PySem.W.bind_fn X self hf) (.inl rfl) h
end

/-! ### the attributes as a list of pairs -/
def putF (f : Str) (v : V) : List (Str × V) → List (Str × V)
  | [] => [(f, v)]
  | (g, x) :: r => if g = f then (g, v) :: r else (g, x) :: putF f v r
theorem lookup_putF (f g : Str) (v : V) : ∀ fs : List (Str × V), (putF f v fs).lookup g = if g = f then some v else fs.lookup g
  | [] => by
    show List.lookup g [(f, v)] = _
    by_cases h : g = f
    · have hb : (g == f) = true := beq_iff_eq.mpr h
      simp only [List.lookup, hb, if_pos h]
    · have hb : (g == f) = false := beq_eq_false_iff_ne.mpr h
      simp only [List.lookup, hb, if_neg h]
  | (k, x) :: r => by
    have ih := lookup_putF f g v r
    rw [show putF f v ((k, x) :: r) = (if k = f then (k, v) :: r else (k, x) :: putF f v r) from rfl]
    by_cases hk : k = f
    · rw [if_pos hk]
      by_cases h : g = k
      · have hb : (g == k) = true := beq_iff_eq.mpr h
        simp only [List.lookup, hb, if_pos (h.trans hk)]
      · have hb : (g == k) = false := beq_eq_false_iff_ne.mpr h
        simp only [List.lookup, hb, if_neg (fun e : g = f => h (e.trans hk.symm))]
    · rw [if_neg hk]
      by_cases h : g = k
      · have hb : (g == k) = true := beq_iff_eq.mpr h
        simp only [List.lookup, hb, if_neg (fun e : g = f => hk (h.symm.trans e))]
      · have hb : (g == k) = false := beq_eq_false_iff_ne.mpr h
        simp only [List.lookup, hb]
        exact ih
theorem keys_putF (f : Str) (v : V) : ∀ fs : List (Str × V), f ∈ (putF f v fs).map (·.1) ∧ ∀ g, g ∈ fs.map (·.1) → g ∈ (putF f v fs).map (·.1)
  | [] => ⟨by simp [putF], fun g h => by simp at h⟩
  | (k, x) :: r => by
    obtain ⟨i1, i2⟩ := keys_putF f v r
    rw [show putF f v ((k, x) :: r) = (if k = f then (k, v) :: r else (k, x) :: putF f v r) from rfl]
    by_cases hk : k = f
    · rw [if_pos hk]
      subst hk
      exact ⟨by simp, fun g h => by simpa using h⟩
    · rw [if_neg hk]
      refine ⟨?_, fun g h => ?_⟩
      · rw [List.map_cons]
        exact List.mem_cons_of_mem _ i1
      · rw [List.map_cons] at h ⊢
        rcases List.mem_cons.mp h with e | e
        · exact List.mem_cons.mpr (.inl e)
        · exact List.mem_cons_of_mem _ (i2 g e)
theorem length_putF (f : Str) (v : V) : ∀ fs : List (Str × V), (putF f v fs).length ≤ fs.length + 1
  | [] => by simp [putF]
  | (k, x) :: r => by
    have ih := length_putF f v r
    rw [show putF f v ((k, x) :: r) = (if k = f then (k, v) :: r else (k, x) :: putF f v r) from rfl]
    by_cases hk : k = f
    · rw [if_pos hk, List.length_cons, List.length_cons]; omega
    · rw [if_neg hk, List.length_cons, List.length_cons]; omega

theorem RelO.some_of {v : V} {o : Option Value} (r : RelO (some v) o) : ∃ u, o = some u ∧ RelV v u := by
  cases o with
  | none => exact (show False from r).elim
  | some u => exact ⟨u, rfl, r⟩
theorem RelO.none_of {o : Option Value} (r : RelO none o) : o = none := by
  cases o with
  | none => rfl
  | some u => exact (show False from r).elim
theorem handed_of {v : V} {u : Value} (r : RelV v u) : PySem.W.handedIn u = true := by
  cases v with
  | non => cases (show u = Value.none from r); rfl
  | bl b => cases (show u = Value.bool b from r); rfl
  | int i => obtain ⟨t, e⟩ := (show ∃ t, u = Value.int i t from r); cases e; rfl
  | str x => obtain ⟨t, e⟩ := (show ∃ t, u = Value.str x t from r); cases e; rfl
  | byt b => obtain ⟨t, e⟩ := (show ∃ t, u = Value.bytes b t from r); cases e; rfl
  | flt b => obtain ⟨t, e⟩ := (show ∃ t, u = Value.float b t from r); cases e; rfl
  | ref a => cases (show u = Value.ref a from r); rfl
  | ty n => cases (show u = Value.type n from r); rfl

section
variable {P : Program} {w : World} {H H' : Hp} {h h' : Heap} {a C dx : Addr} {fs fs' : List (Str × V)}
theorem ins_get (hok : HOk P w H h) (e : H a = some (.ins C dx fs)) : ∃ mA, ObjM h a dx C mA ∧ (∀ f, RelO (fs.lookup f) (mA f)) ∧ PySem.Within mA (fs.map (·.1)) ∧ fs.length ≤ 1000 ∧ H dx = some (.own a) := by
  obtain ⟨d, z, ne, ob, mA, n, r, q⟩ := (show ObjOk P w H h a (.ins C dx fs) from hok a _ e)
  exact ⟨mA, ⟨ob, n, ne⟩, r, q, z, d⟩
end

/-! ### what of the text a class must have -/
structure Cls (K : PySem.W.Frag) (C : Addr) : Prop where
  pg : PySem.W.plainGet K C Str.empty = true
  hd : PySem.W.hasDictIn K C = true
  po : PySem.W.plainOver K C = true
  sa : PySem.W.findIn K (.ref C) "__setattr__" = some (some (.builtin "object.__setattr__"))
theorem Cls.get {K : PySem.W.Frag} {C : Addr} (c : Cls K C) (f : Str) : PySem.W.plainGet K C f = true := c.pg
/-- no class of it has the name -/
def NoAttr (K : PySem.W.Frag) (C : Addr) (f : Str) : Prop := PySem.W.findIn K (.ref C) f = some none
theorem NoAttr.taker {K : PySem.W.Frag} {C : Addr} {f : Str} (n : NoAttr K C f) : PySem.W.takerIn K C f = some none := by
  unfold PySem.W.takerIn
  rw [show PySem.W.findIn K (.ref C) f = some none from n]
  rfl
/-- a constant of the class -/
structure Con (K : PySem.W.Frag) (C : Addr) (f : Str) (v : V) (u : Value) : Prop where
  at_ : PySem.W.findIn K (.ref C) f = some (some u)
  rel : RelV v u
  get : PySem.W.specialIn K u "__get__" = some none
  cp : PySem.W.copiedNames.contains f = false
/-- a method: a plain def of the class or of one above it -/
structure Meth (K : PySem.W.Frag) (C : Addr) (m : Str) (f : Addr) : Prop where
  at_ : PySem.W.findIn K (.ref C) m = some (some (.ref f))
  fn : PySem.W.isFn K (.ref f) = true
  kp : PySem.W.keepIn K (.ref f) = true

section
variable {X : Cx} {pins : List (Addr × Obj)} {σ : St} {H : Hp} {s : Shared} {a C dx : Addr} {fs : List (Str × V)} {f : Str} {v : V} {A : Around} {E : Value → Shared → Prop}

theorem getattr_ok {b : Bool} {Q : Value → Shared → Prop} (I : Inv X pins σ H s) (e : H a = some (.ins C dx fs)) (c : Cls X.K C) (n : NoAttr X.K C f) (l : fs.lookup f = some v)
    (h : ∀ u s', Inv X pins σ H s' → RelV v u → Q u s') : wpAny (model X.prog X.w) A (getAttr (.ref a) f b) Q E s := by
  obtain ⟨mA, O, r, _, _, _⟩ := ins_get I.hok e
  obtain ⟨u, hu, ru⟩ := RelO.some_of (v := v) (o := mA f) (by rw [← l]; exact r f)
  exact get_map I.kIn O (c.get f) c.hd n hu (handed_of ru) (h u _ (I.tok _) ru)

theorem getmeth_ok {m : Str} {g : Addr} {pl : Sem Bool} {Q : Value × List Value → Shared → Prop} (I : Inv X pins σ H s) (e : H a = some (.ins C dx fs)) (c : Cls X.K C) (k : Meth X.K C m g) (l : fs.lookup m = none)
    (h : Q (.ref g, [.ref a]) s) : wpAny (model X.prog X.w) A (getMethod (.ref a) m pl) Q E s := by
  obtain ⟨mA, O, r, _, _, _⟩ := ins_get I.hok e
  have hn : mA m = none := RelO.none_of (by rw [← l]; exact r m)
  exact get_meth I.kIn O (c.get m) k.at_ k.fn hn h

theorem setattr_ok {y : V} {u : Value} {Q : Unit → Shared → Prop} (I : Inv X pins σ H s) (e : H a = some (.ins C dx fs)) (c : Cls X.K C) (n : NoAttr X.K C f) (hl : fs.length < 1000) (ry : RelV y u)
    (h : ∀ s', Inv X pins σ (upd H a (.ins C dx (putF f y fs))) s' → Q () s') : wpAny (model X.prog X.w) A (setAttr (.ref a) f u) Q E s := by
  obtain ⟨mA, O, r, wi, _, ho⟩ := ins_get I.hok e
  have hz : (fs.map (·.1)).length ≤ sizeLine := by rw [List.length_map, sizeLine_eq]; omega
  refine set_map I.kIn O c.sa c.po n.taker c.hd wi hz fun h' O' sb => h _ ?_
  have hd : ∃ o, h'.get? dx = some o := let ⟨o, _, _, e', _⟩ := O'.ns; ⟨o, e'⟩
  refine I.write (x := a) (e := dx) (by rw [e]; exact True.intro) (.inr ho) (fun b q hb z => (sb.2 b hb).trans z) hd ?_
  refine ⟨by rw [upd_ne O.ne]; exact ho, ?_, O.ne, O'.obj, _, O'.ns, fun g => ?_, fun g hg => ?_⟩
  · have := length_putF f y fs; omega
  · show RelO ((putF f y fs).lookup g) (if g = f then some u else mA g)
    rw [lookup_putF]
    by_cases q : g = f
    · rw [if_pos q, if_pos q]; exact ry
    · rw [if_neg q, if_neg q]; exact r g
  · by_cases q : g = f
    · rw [q]; exact (keys_putF f y fs).1
    · refine (keys_putF f y fs).2 g (wi g fun z => hg ?_)
      show (if g = f then some u else mA g) = none
      rw [if_neg q]; exact z

/-- a new instance, tracked, without attributes -/
theorem Inv.made (I : Inv X pins σ H s) : Inv X pins σ (upd (upd H s.heap.objs.size (.own (s.heap.objs.size + 1))) (s.heap.objs.size + 1) (.ins C s.heap.objs.size []))
    { s with heap := (s.heap.push PySem.W.emptyDict).push (PySem.W.instObj C s.heap.objs.size) } := by
  have e1 : (s.heap.push PySem.W.emptyDict).get? s.heap.objs.size = some PySem.W.emptyDict := Heap.get?_push_size s.heap rfl
  have e2 : ((s.heap.push PySem.W.emptyDict).push (PySem.W.instObj C s.heap.objs.size)).get? (s.heap.objs.size + 1) = some (PySem.W.instObj C s.heap.objs.size) := by
    have := Heap.get?_push_size (s.heap.push PySem.W.emptyDict) (o := PySem.W.instObj C s.heap.objs.size) rfl
    rwa [Heap.size_push] at this
  have e3 : (s.heap.push PySem.W.emptyDict).Ns s.heap.objs.size (fun _ => none) := ⟨PySem.W.emptyDict, #[], _, e1, rfl, (fun e he => absurd he (by simp)), fun _ => rfl⟩
  have I1 := I.laid (a := s.heap.objs.size) (o := .own (s.heap.objs.size + 1)) (h' := s.heap.push PySem.W.emptyDict) (t' := s.toks) (fun b u q => Heap.get?_push_of_some _ q) (Nat.le_refl _) ⟨_, e1⟩
  refine I1.laid (a := s.heap.objs.size + 1) (o := .ins C s.heap.objs.size []) (t' := s.toks) (fun b u q => Heap.get?_push_of_some _ q) (Nat.le_of_eq (Heap.size_push _ _)) ?_
  have ne : s.heap.objs.size ≠ s.heap.objs.size + 1 := Nat.ne_of_lt (Nat.lt_succ_self _)
  refine ⟨by rw [upd_ne ne, upd_same], Nat.zero_le _, ne, e2, fun _ => none, (Heap.Ns1.of_empty e3).at fun o q => Heap.get?_push_of_some _ q, fun _ => True.intro, fun y hy => absurd rfl hy⟩

/-- e.f where nothing but the object is asked: through attributeBase (super) and the last hold -/
theorem attr_of {prog : Program} {w : World} {env : Env} {e : Expr} {f : Str} {pos : Pos} {s : Shared} {Q : Value → Shared → Prop} (hb : attributeBase e f env (eval e env) = eval e env)
    (h : wpAny (model prog w) A (eval e env) (fun o s₁ => wpAny (model prog w) A (getAttr o f true) Q E s₁) E s) : wpAny (model prog w) A (eval (.Attribute e f pos) env) Q E s :=
  Attribute_any_ h (by rw [arm_eval_Attribute, hb])
end

/-! ### readings and rules -/
/-- e.f, an attribute of the instance -/
def tFld (K : PySem.W.Frag) (ta : TE) (f : Str) : TE := fun σ H Q => ta σ H fun x H1 => ∃ a C dx fs v, x = .ref a ∧ H1 a = some (.ins C dx fs) ∧ Cls K C ∧ NoAttr K C f ∧ fs.lookup f = some v ∧ Q v H1
/-- e.f, a constant of the class -/
def tCon (K : PySem.W.Frag) (ta : TE) (f : Str) : TE := fun σ H Q => ta σ H fun x H1 => ∃ a C dx fs v u, x = .ref a ∧ H1 a = some (.ins C dx fs) ∧ Cls K C ∧ Con K C f v u ∧ fs.lookup f = none ∧ Q v H1
/-- e.f = value -/
def sFld (K : PySem.W.Frag) (ta tv : TE) (f : Str) : TS := fun D σ H => tv σ H fun y H1 => ta σ H1 fun x H2 => ∃ a C dx fs, x = .ref a ∧ H2 a = some (.ins C dx fs) ∧ Cls K C ∧ NoAttr K C f ∧ fs.length < 1000 ∧
  D.nx σ (upd H2 a (.ins C dx (putF f y fs)))
/-- an augmented operator on two values -/
def InOp (X : Cx) (op : Operator) (rd : V → V → Hp → VK → Prop) : Prop :=
  ∀ (pins : List (Addr × Obj)) (s : Shared) (σ : St) (H : Hp) (x y : V) (u v : Value) (Q : VK), Inv X pins σ H s → RelV x u → RelV y v → rd x y H Q → wpAny (model X.prog X.w) X.A (inplaceOp op u v) (EP X pins σ Q) X.xe s
/-- e.f op= value -/
def sFldAug (K : PySem.W.Frag) (ta tv : TE) (rd : V → V → Hp → VK → Prop) (f : Str) : TS := fun D σ H => ta σ H fun x H1 => ∃ a C dx fs v, x = .ref a ∧ H1 a = some (.ins C dx fs) ∧ Cls K C ∧ NoAttr K C f ∧ fs.lookup f = some v ∧
  tv σ H1 fun y H2 => rd v y H2 fun z H3 => ∃ dx' fs', H3 a = some (.ins C dx' fs') ∧ fs'.length < 1000 ∧ D.nx σ (upd H3 a (.ins C dx' (putF f z fs')))

section
variable {X : Cx} {o e value : Expr} {f : Str} {pos pos' tpos : Pos} {ta tv : TE}
theorem pe_fld (he : PE X e ta) (hb : attributeBase e f X.env (eval e X.env) = eval e X.env) : PE X (.Attribute e f pos) (tFld X.K ta f) := by
  intro pins s σ H Q I h
  refine attr_of hb (thn (he pins s σ H _ I h) fun u s1 ⟨x, H1, I1, rx, a, C, dx, fs, v, ex, ea, c, n, l, q⟩ => ?_)
  subst ex
  obtain rfl : u = Value.ref a := rx
  exact getattr_ok I1 ea c n l fun u' s2 I2 ru => ⟨v, H1, I2, ru, q⟩
theorem ps_fld (ha : PE X o ta) (hv : PE X value tv) (hs : swapsWith value (some (.Attribute o f pos')) pos.line X.env = pure false) : PS X (.Assign [.Attribute o f pos'] value pos) (sFld X.K ta tv f) := by
  intro pins s σ H D I h
  refine plainObj_wpAny_Assign_Attribute (thn (hv pins s σ H _ I h) fun u s1 ⟨y, H1, I1, ry, q⟩ => thn (ha pins s1 σ H1 _ I1 q) fun ov s2 ⟨x, H2, I2, rx, a, C, dx, fs, ex, ea, c, n, l, q2⟩ => ?_) hs
  subst ex
  obtain rfl : ov = Value.ref a := rx
  exact setattr_ok I2 ea c n l ry fun s3 I3 => ⟨σ, _, I3, q2⟩
def rAdd : V → V → Hp → VK → Prop := fun x y H Q => ∃ i j, x = .int i ∧ y = .int j ∧ Q (.int (i + j)) H
def rSub : V → V → Hp → VK → Prop := fun x y H Q => ∃ i j, x = .int i ∧ y = .int j ∧ Q (.int (i - j)) H
end

/-! ### isinstance -/
section
variable {X : Cx} {pins : List (Addr × Obj)} {σ : St} {H : Hp} {s : Shared} {A : Around} {E : Value → Shared → Prop} {Q : Value → Shared → Prop} {c : Value} {b : Bool}
/-- the type of a value, as the fragment's deciders take it; for an instance its class -/
inductive TyOf (K : PySem.W.Frag) (H : Hp) : V → Value → Prop where
  | non : TyOf K H .non (.type "NoneType")
  | bl (x : Bool) : TyOf K H (.bl x) (.type "bool")
  | int (i : Int) : TyOf K H (.int i) (.type "int")
  | str (x : Str) : TyOf K H (.str x) (.type "str")
  | flt (x : UInt64) : TyOf K H (.flt x) (.type "float")
  | lst {a : Addr} {xs : List V} (e : H a = some (.lst xs)) : TyOf K H (.ref a) (.type "list")
  | frz {a : Addr} {o : Obj} {xs : List V} (e : H a = some (.frz o (.lst xs))) : TyOf K H (.ref a) (.type "list")
  | tup {a : Addr} {xs : List V} (e : H a = some (.tup xs)) : TyOf K H (.ref a) (.type "tuple")
  | dK {a : Addr} {kvs : List (Key × V)} (e : H a = some (.dK kvs)) : TyOf K H (.ref a) (.type "dict")
  | dT {a : Addr} {kvs : List (List Key × V)} (e : H a = some (.dT kvs)) : TyOf K H (.ref a) (.type "dict")
  | ins {a C dx : Addr} {fs : List (Str × V)} (e : H a = some (.ins C dx fs)) (cl : Cls K C) (ha : PySem.W.findIn K (.ref C) "__class__" = some (some (.builtin "object.__class__")))
      (hn : PySem.W.specialIn K (.builtin "object.__class__") "__get__" = some (some (.builtin "getset_descriptor.__get__"))) (htk : PySem.W.takesIn K (.builtin "object.__class__") = some true)
      (hm : PySem.W.mroIn K C (.type "object") = some true) : TyOf K H (.ref a) (.ref C)
/-- isinstance(x, c) for one class c, a built-in or an own one: kitOne's answer -/
theorem isinst_ok {x : V} {u t : Value} (I : Inv X pins σ H s) (rx : RelV x u) (ty : TyOf X.K H x t) (e : PySem.W.kitOne X.K t c = some b) (h : ∀ tk, Q (.bool b) { s with toks := tk }) :
    wpAny (model X.prog X.w) A (call (.builtin "isinstance") [u, c]) Q E s := by
  cases ty with
  | non => cases (show u = Value.none from rx); exact PySem.W.kia_one PySem.W.kitx_none I.kIn True.intro e (fun z => nomatch z) h
  | bl y => cases (show u = Value.bool y from rx); exact PySem.W.kia_one PySem.W.kitx_bool I.kIn True.intro e (fun z => nomatch z) h
  | int i => obtain ⟨t, q⟩ := (show ∃ t, u = Value.int i t from rx); cases q; exact PySem.W.kia_one PySem.W.kitx_int I.kIn True.intro e (fun z => nomatch z) h
  | str y => obtain ⟨t, q⟩ := (show ∃ t, u = Value.str y t from rx); cases q; exact PySem.W.kia_one PySem.W.kitx_str I.kIn True.intro e (fun z => nomatch z) h
  | flt y => obtain ⟨t, q⟩ := (show ∃ t, u = Value.float y t from rx); cases q; exact PySem.W.kia_one PySem.W.kitx_float I.kIn True.intro e (fun z => nomatch z) h
  | @lst a xs ea =>
    cases (show u = Value.ref a from rx)
    obtain ⟨_, _, n, _, h1⟩ := (show ObjOk X.prog X.w H s.heap a (.lst xs) from I.hok a _ ea)
    exact PySem.W.kia_one PySem.W.kitx_list I.kIn ⟨_, h1, rfl⟩ e (fun z => nomatch z) h
  | @frz a ob xs ea =>
    cases (show u = Value.ref a from rx)
    obtain ⟨_, _, _, n, _, h1⟩ := (show ObjOk X.prog X.w H s.heap a (.frz ob (.lst xs)) from I.hok a _ ea)
    exact PySem.W.kia_one PySem.W.kitx_list I.kIn ⟨_, h1, rfl⟩ e (fun z => nomatch z) h
  | @tup a xs ea =>
    cases (show u = Value.ref a from rx)
    obtain ⟨_, _, _, p⟩ := (show ObjOk X.prog X.w H s.heap a (.tup xs) from I.hok a _ ea)
    obtain ⟨o, h1, h2, _⟩ := p
    exact PySem.W.kia_one PySem.W.kitx_tuple I.kIn ⟨o, h1, h2⟩ e (fun z => nomatch z) h
  | @dK a kvs ea =>
    cases (show u = Value.ref a from rx)
    obtain ⟨_, _, vs, _, p⟩ := (show ObjOk X.prog X.w H s.heap a (.dK kvs) from I.hok a _ ea)
    obtain ⟨o, es, ep, h1, h2, _⟩ := p
    exact PySem.W.kia_one PySem.W.kitx_dict I.kIn ⟨o, h1, h2.1⟩ e (fun z => nomatch z) h
  | @dT a kvs ea =>
    cases (show u = Value.ref a from rx)
    obtain ⟨_, _, xs, _, o, es, ep, h1, h2, _⟩ := (show ObjOk X.prog X.w H s.heap a (.dT kvs) from I.hok a _ ea)
    exact PySem.W.kia_one PySem.W.kitx_dict I.kIn ⟨o, h1, h2.1⟩ e (fun z => nomatch z) h
  | @ins a C dx fs ea cl ha hn htk hm =>
    cases (show u = Value.ref a from rx)
    obtain ⟨mA, O, _⟩ := ins_get I.hok ea
    obtain ⟨od, J, _⟩ := O.look
    exact PySem.W.kia_one (PySem.W.kitx_own (cl.get _) cl.hd ha hn htk hm) I.kIn J e (fun z => nomatch z) h
end
end L2

namespace L2
open PySem PySem.Spec PyProof.Rows

/-! ### room -/
structure Room (k : Nat) (A : Around) : Prop where
  hd : A.handled = none
  dp : A.depth + 3 * k + 5 < recursionLimit
  un : A.units + 16 * k + 200 < cLine
theorem Room.mono {j k : Nat} {A : Around} (r : Room k A) (h : j ≤ k) : Room j A := ⟨r.hd, by have := r.dp; omega, by have := r.un; omega⟩
theorem Room.deeper {k : Nat} {A : Around} (r : Room (k + 1) A) (env : Env) : Room k (A.deeper env) :=
  ⟨r.hd, by have := r.dp; show A.depth + 1 + 3 * k + 5 < _; omega, by have := r.un; show A.units + 3 + 16 * k + 200 < _; omega⟩
theorem make_depth {A : Around} {C : Addr} {us : List Value} {kw : List (Str × Value)} : (A.under (.builtin "type.__call__" ⟨.ref C :: us, kw⟩)).depth = A.depth + 1 := by
  first | rfl | simp [Around.under, Code.weight, Code.isCreation, Code.isGuard, Code.isCaller, Code.frames, Code.isFrame, guardIds]
theorem make_units {A : Around} {C : Addr} {us : List Value} {kw : List (Str × Value)} : (A.under (.builtin "type.__call__" ⟨.ref C :: us, kw⟩)).units = A.units + 1 := by
  first | rfl | simp [Around.under, Code.cUnits, Code.frames, Code.isFrame]
theorem Room.make {k : Nat} {A : Around} (r : Room (k + 1) A) (C : Addr) (us : List Value) (kw : List (Str × Value)) : Room k (A.under (.builtin "type.__call__" ⟨.ref C :: us, kw⟩)) :=
  ⟨r.hd, by have := r.dp; rw [make_depth]; omega, by have := r.un; rw [make_units]; omega⟩
theorem Room.depth {k : Nat} {A : Around} (r : Room k A) : A.depth < recursionLimit := by have := r.dp; omega
theorem Room.units {k : Nat} {A : Around} (r : Room k A) : A.units + 64 < cLine := by have := r.un; omega
/-! ### argument lists and displays -/
def tNil : TA := fun _ H Q => Q [] H
def tCons (ta : TE) (tr : TA) : TA := fun σ H Q => ta σ H fun x H1 => tr σ H1 fun xs H2 => Q (x :: xs) H2
section
variable {X : Cx} {e : Expr} {es : List Expr} {te : TE} {t : TA} {pos : Pos}
theorem pa_nil : PA X [] tNil := fun _ _ _ _ H Q I h => Calls.spliced_nil ⟨[], H, I, .nil, h⟩
theorem pa_cons (ha : PE X e te) (hr : PA X es t) (hs : starEach (e :: es) X.env = (false, eval e X.env) :: starEach es X.env := by rfl) : PA X (e :: es) (tCons te t) := by
  intro pos pins s σ H Q I h
  rw [hs]
  show wpAny _ _ (spliced ((false, eval e X.env) :: backTo pos (starEach es X.env))) _ _ s
  refine Calls.spliced_cons (thn (ha pins s σ H _ I h) fun u s1 ⟨x, H1, I1, r1, q1⟩ => ?_)
  exact thn (hr pos pins s1 σ H1 _ I1 q1) fun us s2 ⟨xs, H2, I2, r2, q2⟩ => ⟨x :: xs, H2, I2, .cons r1 r2, q2⟩

/-- a tuple, a list of written items -/
def tTup (t : TA) : TE := fun σ H Q => t σ H fun xs H1 => xs.length ≤ sizeLine ∧ ∀ p, H1 p = none → Q (.ref p) (upd H1 p (.tup xs))
def tLst (t : TA) : TE := fun σ H Q => t σ H fun xs H1 => xs.length ≤ sizeLine ∧ ∀ p, H1 p = none → Q (.ref p) (upd H1 p (.lst xs))
theorem pe_tup {x1} (h : PA X es t) : PE X (.Tuple es x1 pos) (tTup t) := by
  intro pins s σ H Q I hq
  refine wpAny_Tuple_spliced (thn (h pos pins s σ H _ I hq) fun us s1 ⟨xs, H1, I1, r, z, q⟩ => ⟨by rw [← r.length]; exact z, ?_⟩)
  have hf : H1 s1.heap.objs.size = none := I1.hok.fresh (Nat.le_refl _)
  refine ⟨.ref s1.heap.objs.size, upd H1 s1.heap.objs.size (.tup xs), I1.laid (t' := s1.toks) (fun b u e => Heap.get?_push_of_some _ e) (Nat.le_refl _) ?_, rfl, q _ hf⟩
  exact ⟨z, us, r, ⟨_, Heap.get?_push_size _ rfl, rfl, _, rfl⟩⟩
end

/-! ### what a def promises -/
/-- a def's promise: the bound arguments in the parameters' order, the heap, the wanted end, the wanted exception -/
abbrev Sp := List V → Hp → VK → XK → Prop
/-- how an exception lies behind a call (file 08 gives it): the callers' frames, abstract heap and state ahead of the call, the wish, the exception, the state -/
abbrev CXT := List Env → Hp → Shared → XK → Value → Shared → Prop

/-- the state at a call -/
structure Env0 (P : Program) (w : World) (K : PySem.W.Frag) (mg : Str → Option Value) (base : Heap) (A : Around) (outer : List Env) (s : Shared) (H : Hp) : Prop where
  frames : A.frames = some outer
  mod : Mod K mg base
  bs : ∀ b o, base.get? b = some o → s.heap.get? b = some o ∧ H b = none
  bsz : base.objs.size ≤ s.heap.objs.size
  funs : s.heap.FunFrames base outer
  frf : ∀ b ∈ frs outer, H b = none
  hok : HOk P w H s.heap
  bare : AllBare s.gens
/-- a call's end -/
def CE (outer : List Env) (P : Program) (w : World) (H : Hp) (s : Shared) (Q : VK) (u : Value) (s' : Shared) : Prop :=
  ∃ v H', s'.os = s.os ∧ AllBare s'.gens ∧ Un (frs outer) [] H H' s.heap s'.heap ∧ HOk P w H' s'.heap ∧ RelV v u ∧ Q v H'
def CR (CX : CXT) (outer : List Env) (P : Program) (w : World) (H : Hp) (s : Shared) (Q : VK) (E : XK) (r : Result) (s' : Shared) : Prop :=
  match r with
  | .ok (.ret u) => CE outer P w H s Q u s'
  | .ok _ => False
  | .error e => CX outer H s E e s'
structure FnOk (P : Program) (w : World) (K : PySem.W.Frag) (mg : Str → Option Value) (base : Heap) (CX : CXT) (k : Nat) (f : Addr) (fd : FuncData) (ps : List Str) (sp : Sp) : Prop where
  len : ∀ vs H Q E, sp vs H Q E → vs.length = ps.length
  run : ∀ (A : Around) (outer : List Env) (s : Shared) (H : Hp) (args : Args) (us : List Value) (vs : List V) (Q : VK) (E : XK), Room k A → Env0 P w K mg base A outer s H → BindsTo s fd args (ps.zip us) → Vals vs us → sp vs H Q E →
    codeAny (model P w) A (.call (.ref f) args) (CR CX outer P w H s Q E) s
theorem Env0.make {P : Program} {w : World} {K : PySem.W.Frag} {mg : Str → Option Value} {base : Heap} {A : Around} {outer : List Env} {s : Shared} {H : Hp} (e : Env0 P w K mg base A outer s H) (C : Addr) (us : List Value) (kw : List (Str × Value)) :
    Env0 P w K mg base (A.under (.builtin "type.__call__" ⟨.ref C :: us, kw⟩)) outer s H := ⟨by first | exact e.frames | (simpa [Around.under, Code.envs, Code.isFrame, pushEnvs] using e.frames), e.mod, e.bs, e.bsz, e.funs, e.frf, e.hok, e.bare⟩
section
variable {X : Cx} {pins : List (Addr × Obj)} {σ : St} {H : Hp} {s s' : Shared}
/-- from a body: what a callee wants -/
theorem Inv.env0 (I : Inv X pins σ H s) : Env0 X.prog X.w X.K X.mg X.base X.A X.stack s H :=
  ⟨I.ok.frames, I.ok.mod, I.bs, Nat.le_trans I.ok.bsz I.sz, I.stack, I.stkFree, I.hok, I.bare⟩
/-- behind a call -/
theorem Inv.after {Q : VK} {u : Value} (I : Inv X pins σ H s) (h : CE X.stack X.prog X.w H s Q u s') : EP X pins σ Q u s' := by
  obtain ⟨v, H', os, bare, un, hok, r, q⟩ := h
  obtain ⟨hh, g, d, t, os'⟩ := s'
  obtain rfl : os' = s.os := os
  exact ⟨v, H', I.call (h' := hh) (g' := g) (d' := d) (t' := t) (ch := []) un hok bare (fun b z => absurd z (by simp)), r, q⟩
end

/-! ### calls -/
/-- f(..): the written arguments, then the defaults dvs; E: what is wanted of an exception -/
def tCall (sp : Sp) (dvs : List V) (E : XK) (t : TA) : TE := fun σ H Q => t σ H fun vs H1 => sp (vs ++ dvs) H1 Q E
/-- o.m(..) of an instance of the class at C -/
def tMeth (C : Addr) (m : Str) (sp : Sp) (dvs : List V) (E : XK) (ta : TE) (t : TA) : TE := fun σ H Q => ta σ H fun x H1 => ∃ a dx fs, x = .ref a ∧ H1 a = some (.ins C dx fs) ∧ fs.lookup m = none ∧
  t σ H1 fun vs H2 => sp (x :: (vs ++ dvs)) H2 Q E
/-- C(..): a new instance and its dict, then __init__ -/
def tMake (C : Addr) (sp : Sp) (dvs : List V) (E : XK) (t : TA) : TE := fun σ H Q => t σ H fun vs H1 => ∀ x dx, H1 x = none → H1 dx = none → dx ≠ x →
  sp (.ref x :: (vs ++ dvs)) (upd (upd H1 dx (.own x)) x (.ins C dx [])) (fun v H2 => v = .non ∧ Q (.ref x) H2) E

/-- how the parameters are bound: us the positional arguments, kw the keywords' values by name, ds the defaults that fill up -/
def Binds (K : PySem.W.Frag) (fd : FuncData) (ps : List Str) (ds : List Value) : Prop :=
  ∀ (s : Shared) (us : List Value), K.In s.heap → (us ++ ds).length = ps.length → BindsTo s fd ⟨us, []⟩ (ps.zip (us ++ ds))
/-- every parameter is given -/
theorem Binds.all {K : PySem.W.Frag} {fd : FuncData} {ps : List Str} (h : ∀ us : List Value, us.length = ps.length → bindArgs fd ⟨us, []⟩ = pure (ps.zip us)) : Binds K fd ps [] := fun s us _ hl => by
  rw [List.append_nil] at hl ⊢
  exact .of_eq (h us hl)

/-- an exception of a callee reaches what this body wants of exceptions -/
def Passes (CX : CXT) (X : Cx) (E : XK) : Prop := ∀ (pins : List (Addr × Obj)) (σ : St) (H : Hp) (s : Shared) (e : Value) (s' : Shared), Inv X pins σ H s → CX X.stack H s E e s' → X.xe e s'

section
variable {X : Cx} {CX : CXT} {k : Nat} {f C : Addr} {fd : FuncData} {ps : List Str} {sp : Sp} {dvs : List V} {ds : List Value} {E : XK} {x m : Str} {p pos apos : Pos} {e o : Expr} {es : List Expr} {ta : TE} {t : TA}

/-- the callee runs -/
theorem run_fn {pins : List (Addr × Obj)} {σ : St} {H : Hp} {s : Shared} {Q : VK} {us : List Value} {vs : List V} (F : FnOk X.prog X.w X.K X.mg X.base CX k f fd ps sp) (hr : Room k X.A) (hb : Binds X.K fd ps ds) (hd : Vals dvs ds) (hx : Passes CX X E)
    (I : Inv X pins σ H s) (r : Vals vs us) (h : sp (vs ++ dvs) H Q E) : wpAny (model X.prog X.w) X.A (call (.ref f) us) (EP X pins σ Q) X.xe s := by
  have r2 : Vals (vs ++ dvs) (us ++ ds) := r.append hd
  have hl : (us ++ ds).length = ps.length := by rw [← r2.length]; exact F.len _ _ _ _ h
  refine wpAny_call (codeAny_mono (F.run X.A X.stack s H ⟨us, []⟩ (us ++ ds) (vs ++ dvs) Q E hr I.env0 (hb s us I.kIn hl) r2 h) fun r s' hq => ?_)
  cases r with
  | error e => exact hx pins σ H s e s' I hq
  | ok fl =>
    cases fl with
    | ret u => exact I.after hq
    | next => exact False.elim hq
    | brk => exact False.elim hq
    | cont => exact False.elim hq

theorem pe_call (F : FnOk X.prog X.w X.K X.mg X.base CX k f fd ps sp) (hr : Room k X.A) (hg : Gl X x) (hm : X.mg x = some (.ref f)) (hk : PySem.W.keepIn X.K (.ref f) = true) (hb : Binds X.K fd ps ds) (hd : Vals dvs ds) (hx : Passes CX X E)
    (ha : PA X (e :: es) t) (hdb : (x == ("__debug__" : Str)) = false := by decide) (he : starEach (e :: es) X.env = (false, eval e X.env) :: starEach es X.env := by rfl) (hpl : (backTo pos (starEach es X.env)).any (·.1) = false := by rfl) :
    PE X (.Call (.Name x p) (e :: es) [] pos) (tCall sp dvs E t) := by
  intro pins s σ H Q I h
  refine wpAny_Call_Name_kw (ld_glob I hg hm ?_ hdb)
  refine PySem.W.callWith_K (h₀ := X.base) I.ok.mod.kin hk (thn (ha pos pins s σ H _ I h) fun us s1 ⟨vs, H1, I1, r, q⟩ => ⟨I1.kIn, ?_⟩) he hpl
  exact run_fn F hr hb hd hx I1 r q
/-- what a class must have to be made -/
structure Mk (K : PySem.W.Frag) (C f : Addr) : Prop where
  makes : PySem.W.makesIn K C = true
  init : PySem.W.findIn K (.ref C) "__init__" = some (some (.ref f))
  fn : PySem.W.isFn K (.ref f) = true
  kp : PySem.W.keepIn K (.ref C) = true

theorem run_make {pins : List (Addr × Obj)} {σ : St} {H : Hp} {s : Shared} {Q : VK} {us : List Value} {vs : List V} (M : Mk X.K C f) (F : FnOk X.prog X.w X.K X.mg X.base CX k f fd ps sp) (hr : Room (k + 1) X.A) (hb : Binds X.K fd ps ds) (hd : Vals dvs ds)
    (hx : Passes CX X E) (I : Inv X pins σ H s) (r : Vals vs us)
    (h : ∀ x dx, H x = none → H dx = none → dx ≠ x → sp (.ref x :: (vs ++ dvs)) (upd (upd H dx (.own x)) x (.ins C dx [])) (fun v H2 => v = .non ∧ Q (.ref x) H2) E) :
    wpAny (model X.prog X.w) X.A (call (.ref C) us) (EP X pins σ Q) X.xe s := by
  have hq := h (s.heap.objs.size + 1) s.heap.objs.size (I.hok.fresh (Nat.le_succ _)) (I.hok.fresh (Nat.le_refl _)) (Nat.ne_of_lt (Nat.lt_succ_self _))
  have I2 := Inv.made (C := C) I
  have r2 : Vals (V.ref (s.heap.objs.size + 1) :: (vs ++ dvs)) (Value.ref (s.heap.objs.size + 1) :: (us ++ ds)) := .cons rfl (r.append hd)
  have hl : (Value.ref (s.heap.objs.size + 1) :: us ++ ds).length = ps.length := by
    have e := r2.length
    rw [F.len _ _ _ _ hq] at e
    exact e.symm
  refine wpAny_call (make_map (f := f) I.kIn M.makes M.init (beq_iff_eq.mp M.fn) (codeAny_mono (F.run _ X.stack _ _ ⟨Value.ref (s.heap.objs.size + 1) :: us, []⟩ (Value.ref (s.heap.objs.size + 1) :: (us ++ ds)) _ _ E (hr.make C us [])
    (I2.env0.make C us []) (hb _ (Value.ref (s.heap.objs.size + 1) :: us) I2.kIn hl) r2 hq) fun r s' hq' => ?_))
  cases r with
  | error e => exact hx pins σ _ _ e s' I2 hq'
  | ok fl =>
    cases fl with
    | ret u =>
      obtain ⟨v, H', I3, rv, ev, q3⟩ := I2.after hq'
      subst ev
      exact ⟨rv, ⟨V.ref (s.heap.objs.size + 1), H', I3, rfl, q3⟩⟩
    | next => exact False.elim hq'
    | brk => exact False.elim hq'
    | cont => exact False.elim hq'
theorem pe_make (M : Mk X.K C f) (F : FnOk X.prog X.w X.K X.mg X.base CX k f fd ps sp) (hr : Room (k + 1) X.A) (hg : Gl X x) (hm : X.mg x = some (.ref C)) (hb : Binds X.K fd ps ds) (hd : Vals dvs ds) (hx : Passes CX X E)
    (ha : PA X (e :: es) t) (hdb : (x == ("__debug__" : Str)) = false := by decide) (he : starEach (e :: es) X.env = (false, eval e X.env) :: starEach es X.env := by rfl) (hpl : (backTo pos (starEach es X.env)).any (·.1) = false := by rfl) :
    PE X (.Call (.Name x p) (e :: es) [] pos) (tMake C sp dvs E t) := by
  intro pins s σ H Q I h
  refine wpAny_Call_Name_kw (ld_glob I hg hm ?_ hdb)
  refine PySem.W.callWith_K (h₀ := X.base) I.ok.mod.kin M.kp (thn (ha pos pins s σ H _ I h) fun us s1 ⟨vs, H1, I1, r, q⟩ => ⟨I1.kIn, ?_⟩) he hpl
  exact run_make M F hr hb hd hx I1 r q
theorem pe_make0 (M : Mk X.K C f) (F : FnOk X.prog X.w X.K X.mg X.base CX k f fd ps sp) (hr : Room (k + 1) X.A) (hg : Gl X x) (hm : X.mg x = some (.ref C)) (hb : Binds X.K fd ps ds) (hd : Vals dvs ds) (hx : Passes CX X E)
    (hdb : (x == ("__debug__" : Str)) = false := by decide) : PE X (.Call (.Name x p) [] [] pos) (tMake C sp dvs E tNil) := by
  intro pins s σ H Q I h
  refine wpAny_Call_Name_kw (ld_glob I hg hm ?_ hdb)
  exact PySem.W.callWith_K0 I.kIn M.kp (run_make (us := []) M F hr hb hd hx I .nil h)
end

/-! ### keywords -/
/-- the values of the keywords, from the left -/
def PK (X : Cx) (kws : List Keyword) (t : TA) : Prop :=
  ∀ (pos : Pos) (pins : List (Addr × Obj)) (s : Shared) (σ : St) (H : Hp) (Q : List V → Hp → Prop), Inv X pins σ H s → t σ H Q → wpAny (model X.prog X.w) X.A (evalAll ((backToKw pos (keywordEach kws X.env)).map (·.2))) (AP X pins σ Q) X.xe s
section
variable {X : Cx} {CX : CXT} {k : Nat} {f C : Addr} {fd : FuncData} {ps ks : List Str} {sp : Sp} {E : XK} {x m : Str} {p pos apos kpos : Pos} {e o : Expr} {es : List Expr} {kws : List Keyword} {te ta : TE} {t tk : TA} {nm : Option Str}
/-- how a call with keywords binds: g puts the positional values us and the keywords' values ws (names ks) in the parameters' order, defaults among them -/
structure KBinds (K : PySem.W.Frag) (fd : FuncData) (ps ks : List Str) (g : List Value → List Value → List Value) (gV : List V → List V → List V) : Prop where
  to : ∀ (s : Shared) (us ws : List Value), K.In s.heap → (g us ws).length = ps.length → BindsTo s fd ⟨us, ks.zip ws⟩ (ps.zip (g us ws))
  rel : ∀ {vs : List V} {us : List Value} {zs : List V} {ws : List Value}, Vals vs us → Vals zs ws → Vals (gV vs zs) (g us ws)
def tCallK (sp : Sp) (gV : List V → List V → List V) (E : XK) (t tk : TA) : TE := fun σ H Q => t σ H fun vs H1 => tk σ H1 fun zs H2 => sp (gV vs zs) H2 Q E
variable {g : List Value → List Value → List Value} {gV : List V → List V → List V}
end

/-! ### a def's body keeps its promise -/
/-- names: the parameters first -/
structure FnScope (N P : List Str) (sc : Scope) : Prop where
  kind : sc.kind = .function
  co : sc.isCoroutine = false
  gen : sc.isGenerator = false
  nd : N.Nodup
  pre : N.take P.length = P
  par : ∀ x ∈ P, sc.names.lookup x = some .local ∨ sc.names.lookup x = some .cell
  nofree : ∀ y ∈ sc.names, y.2 ≠ .free

theorem bindL_out {kindOf : Str → Option NameKind} {x : Str} : ∀ {binds : List (Str × Value)} {m : Str → Option Value}, (∀ v, (x, v) ∉ binds) → bindL kindOf binds m x = m x
  | [], _, _ => rfl
  | (n, v) :: r, m, h => by
    unfold bindL
    rw [bindL_out fun w hw => h w (List.mem_cons_of_mem _ hw)]
    split
    · have : x ≠ n := by rintro rfl; exact h v List.mem_cons_self
      simp [this]
    · rfl
theorem bindC_out {kindOf : Str → Option NameKind} {x : Str} : ∀ {binds : List (Str × Value)} {m : Str → Option Value}, (∀ v, (x, v) ∉ binds) → bindC kindOf binds m x = m x
  | [], _, _ => rfl
  | (n, v) :: r, m, h => by
    unfold bindC
    rw [bindC_out fun w hw => h w (List.mem_cons_of_mem _ hw)]
    split
    · rfl
    · have : x ≠ n := by rintro rfl; exact h v List.mem_cons_self
      simp [this]
theorem bindL_get {kindOf : Str → Option NameKind} {x : Str} {v : Value} : ∀ {P : List Str} {vs : List Value} {i : Nat} {m : Str → Option Value}, P.Nodup → P[i]? = some x → vs[i]? = some v → kindOf x = some .local →
    bindL kindOf (P.zip vs) m x = some v
  | [], _, _, _, _, h, _, _ => by simp at h
  | _ :: _, [], _, _, _, _, h, _ => by simp at h
  | p :: P, w :: vs, 0, m, nd, h1, h2, hk => by
    simp at h1 h2; subst h1; subst h2
    show bindL kindOf ((p, w) :: P.zip vs) m p = _
    unfold bindL
    rw [bindL_out fun v hv => (List.nodup_cons.mp nd).1 (List.of_mem_zip hv).1, if_pos hk]
    simp
  | p :: P, w :: vs, i + 1, m, nd, h1, h2, hk => by
    show bindL kindOf ((p, w) :: P.zip vs) m x = _
    unfold bindL
    exact bindL_get (i := i) (List.nodup_cons.mp nd).2 (by simpa using h1) (by simpa using h2) hk
theorem bindC_get {kindOf : Str → Option NameKind} {x : Str} {v : Value} : ∀ {P : List Str} {vs : List Value} {i : Nat} {m : Str → Option Value}, P.Nodup → P[i]? = some x → vs[i]? = some v → kindOf x ≠ some .local →
    bindC kindOf (P.zip vs) m x = some v
  | [], _, _, _, _, h, _, _ => by simp at h
  | _ :: _, [], _, _, _, _, h, _ => by simp at h
  | p :: P, w :: vs, 0, m, nd, h1, h2, hk => by
    simp at h1 h2; subst h1; subst h2
    show bindC kindOf ((p, w) :: P.zip vs) m p = _
    unfold bindC
    rw [bindC_out fun v hv => (List.nodup_cons.mp nd).1 (List.of_mem_zip hv).1, if_neg hk]
    simp
  | p :: P, w :: vs, i + 1, m, nd, h1, h2, hk => by
    show bindC kindOf ((p, w) :: P.zip vs) m x = _
    unfold bindC
    exact bindC_get (i := i) (List.nodup_cons.mp nd).2 (by simpa using h1) (by simpa using h2) hk

/-- the names' values at the entry -/
def start (N : List Str) (vs : List V) : St := vs.map some ++ List.replicate (N.length - vs.length) none

/-- the context of a def's body, at its entry; an exception leaves the frame, then lies as CX says -/
def cxOf (CX : CXT) (P : Program) (w : World) (K : PySem.W.Frag) (mg : Str → Option Value) (base : Heap) (N : List Str) (qual : Str) (scope : Scope) (f : Addr) (cd : Value) (A : Around) (outer : List Env) (s : Shared) (H : Hp) (E : XK) : Cx where
  prog := P
  w := w
  K := K
  mg := mg
  base := base
  A := A.deeper (envOfC qual scope s.heap.objs.size f cd)
  N := N
  s₀ := s
  H₀ := H
  env := envOfC qual scope s.heap.objs.size f cd
  outer := outer
  stack := envOfC qual scope s.heap.objs.size f cd :: outer
  ex := []
  calm := true
  fn := fun _ => true
  pn := []
  xe := fun e s' => wpAny (model P w) (A.deeper (envOfC qual scope s.heap.objs.size f cd)) (leaving (envOfC qual scope s.heap.objs.size f cd) e) (fun _ s'' => CX outer H s E e s'') (fun e' s'' => CX outer H s E e' s'') s'

theorem cell_has {sc : Scope} {n : Nat} {x : Str} (h : sc.names.lookup x = some .cell) : ∃ c, (cellsFrom n sc.names []).lookup x = some c := by
  have q := PySem.W.cellsFrom_some sc.names n [] (.inl h)
  exact Option.isSome_iff_exists.mp q

theorem inv_start {CX : CXT} {P : Program} {w : World} {K : PySem.W.Frag} {mg : Str → Option Value} {base : Heap} {N ps : List Str} {qual : Str} {scope : Scope} {f : Addr} {cd : Value} {A : Around} {outer : List Env} {s s1 : Shared} {H : Hp} {E : XK} {us : List Value} {vs : List V}
    (S : FnScope N ps scope) (hd : A.handled = none) (e0 : Env0 P w K mg base A outer s H) (hl : vs.length = ps.length) (r : Vals vs us)
    (x : InCallC s s.heap.objs.size (bindL (envOfC qual scope s.heap.objs.size f cd).kindOf (ps.zip us) fun _ => none) (cellsFrom (s.heap.objs.size + 1) scope.names []) (bindC (envOfC qual scope s.heap.objs.size f cd).kindOf (ps.zip us) fun _ => none) s1) :
    Inv (cxOf CX P w K mg base N qual scope f cd A outer s H E) [] (start N vs) H s1 := by
  have hpl : ps.length ≤ N.length := by have := congrArg List.length S.pre; rw [List.length_take] at this; omega
  obtain ⟨h1, tk, rfl, hk⟩ := x.done
  have noA : ∀ b : Addr, b ∉ (cxOf CX P w K mg base N qual scope f cd A outer s H E).ex := fun b z => absurd (show b ∈ ([] : List Addr) from z) (by simp)
  refine ⟨⟨e0.mod, S.kind, rfl, rfl, Nat.le_refl _, fun y z c h1 h2 => ?_, fun y hy => ?_, fun y c _ h => ?_, fun _ => hd, Around.frames_deeper e0.frames, .inr ⟨rfl, rfl⟩, fun b z => absurd z (noA b), e0.bs, e0.bsz, fun b _ _ => noA b, fun b z => absurd z (noA b), e0.funs, e0.frf⟩,
    rfl, e0.bare, Un.kept hk, ⟨_, x.toInCall.ns, fun i y v h1 h2 h3 => ?_⟩, fun y c h => ⟨_, x.cell y c h⟩, e0.hok.fresh (Nat.le_refl _), fun y c h => ?_, fun p hp => absurd (show p ∈ ([] : List (Addr × Obj)) from hp) (by simp), e0.hok.kept hk, ?_⟩
  · exact name_of_addr x.apart (PySem.mem_of_lookup h1) (PySem.mem_of_lookup h2)
  · have hy : scope.names.lookup y = some .cell ∨ scope.names.lookup y = some .free := hy
    rcases hy with hy | hy
    · exact cell_has hy
    · exact absurd rfl (S.nofree _ (PySem.mem_of_lookup hy))
  · exact Nat.le_of_lt (x.above y c (PySem.mem_of_lookup h))
  · have hi : i < vs.length := by
      unfold start at h2
      by_cases hi : i < vs.length
      · exact hi
      · rw [List.getElem?_append_right (by simpa using hi)] at h2
        rw [List.getElem?_replicate] at h2
        split at h2 <;> cases h2
    have ha : vs[i]? = some v := by
      unfold start at h2
      rw [List.getElem?_append_left (by simpa using hi), List.getElem?_map] at h2
      cases e : vs[i]? with
      | none => rw [e] at h2; cases h2
      | some a => rw [e] at h2; cases h2; rfl
    obtain ⟨u, hu, rv⟩ := r.get ha
    have hp : ps[i]? = some y := by
      rw [← S.pre, List.getElem?_take_of_lt (by omega)]; exact h1
    have ndP : ps.Nodup := by rw [← S.pre]; exact S.nd.sublist (List.take_sublist _ _)
    refine ⟨u, rv, ?_⟩
    rcases S.par y (List.mem_of_getElem? hp) with k | k
    · exact .inl ⟨k, bindL_get ndP hp hu k⟩
    · obtain ⟨c, e⟩ := cell_has (n := s.heap.objs.size + 1) k
      refine .inr ⟨.inl k, c, e, ?_⟩
      have q := x.cell y c e
      rw [bindC_get ndP hp hu (by show scope.names.lookup y ≠ _; rw [k]; decide)] at q
      exact q
  · exact e0.hok.fresh (Nat.le_of_lt (x.above y c (PySem.mem_of_lookup h)))
  · unfold start
    show _ = N.length
    rw [List.length_append, List.length_map, List.length_replicate]
    omega

/-- THE RULE: a def (or a method) of the text, by its body. The body's reading t is chosen for each entry; it is run at the parameters' values -/
theorem fn_of {CX : CXT} {P : Program} {w : World} {K : PySem.W.Frag} {mg : Str → Option Value} {base : Heap} {k : Nat} {f : Addr} {name qual : Str} {params : Arguments} {body : List Stmt} {scope : Scope} {dV kV doc pm cdv ct oc : Value} {an od : Option Addr}
    {osl : Array (Option Value)} {N ps : List Str} {sp : Sp} (lk : K.lookup f = some ⟨oc, od, .func (PySem.W.fnOf name qual params body scope dV kV doc pm an cdv ct), osl⟩) (hcd : PySem.W.codeIn K cdv qual = true) (S : FnScope N ps scope)
    (len : ∀ vs H Q E, sp vs H Q E → vs.length = ps.length)
    (hbody : ∀ (A : Around) (outer : List Env) (s : Shared) (H : Hp) (vs : List V) (Q : VK) (E : XK), Room k (A.deeper (envOfC qual scope s.heap.objs.size f cdv)) → sp vs H Q E →
      ∃ t, PSs (cxOf CX P w K mg base N qual scope f cdv A outer s H E) body t ∧ t { nx := fun _ H' => Q .non H', rt := Q } (start N vs) H) :
    FnOk P w K mg base CX (k + 1) f (PySem.W.fnOf name qual params body scope dV kV doc pm an cdv ct) ps sp := by
  refine ⟨len, fun A outer s H args us vs Q E hr e0 hb r hsp => ?_⟩
  have hl := len _ _ _ _ hsp
  have KX : K.In s.heap := e0.mod.kin.keeps fun b o e => (e0.bs b o e).1
  have lim : s.heap.NoLimit := e0.mod.nolimit.keeps fun b o e => (e0.bs b o e).1
  have hkind : ∀ y ∈ ps.zip us, scope.names.lookup y.1 = some .local ∨ (scope.names.lookup y.1 = some .cell ∧ ((cellsFrom (s.heap.objs.size + 1) scope.names []).lookup y.1).isSome = true) := fun ⟨n, v⟩ hy => by
    rcases S.par n (List.of_mem_zip hy).1 with q | q
    · exact .inl q
    · exact .inr ⟨q, PySem.W.cellsFrom_some _ _ _ (.inl q)⟩
  refine codeAny_call_function hr.depth (KX _ _ lk) rfl S.co S.gen rfl (PySem.W.codeRec_of KX hcd) (hb _ _ _ _ ?_)
  refine wpAny_newFunctionEnv_cells S.kind hkind fun env he s1 x => ?_
  subst he
  refine ⟨lim.keeps x.toInCall.keep, codeAny_func ?_⟩
  obtain ⟨t, ht, hq⟩ := hbody A outer s H vs Q E (hr.deeper _) hsp
  have I : Inv (cxOf CX P w K mg base N qual scope f cdv A outer s H E) [] (start N vs) H s1 := inv_start S hr.hd e0 hl r x
  refine wpAny_mono (ht [] s1 (start N vs) H _ I hq) (fun fl s' hs => ?_) fun e s' hs => hs
  have fin : ∀ {σ' : St} {H' : Hp} {v : V} {u : Value}, Inv (cxOf CX P w K mg base N qual scope f cdv A outer s H E) [] σ' H' s' → RelV v u → Q v H' → CE outer P w H s Q u s' :=
    fun {σ' H' v u} J rv q => ⟨v, H', J.os, J.bare, J.base, J.hok, rv, q⟩
  cases fl with
  | ret u =>
    obtain ⟨v, σ', H', J, rv, q⟩ := hs
    exact fin J rv q
  | next =>
    obtain ⟨σ', H', J, q⟩ := hs
    exact fin (v := V.non) (u := Value.none) J rfl q
  | brk =>
    obtain ⟨_, _, _, q⟩ := hs
    exact False.elim q
  | cont =>
    obtain ⟨_, _, _, q⟩ := hs
    exact False.elim q
end L2

namespace L2
open PySem PySem.Spec PyProof.Rows
section
variable {X : Cx} {x : Str} {p pos : Pos} {e : Expr} {es : List Expr} {t : TA} {id T : String} {r : List V → Hp → VK → Prop}

def tCB (r : List V → Hp → VK → Prop) (t : TA) : TE := fun σ H Q => t σ H fun vs H1 => r vs H1 Q
/-- f(e, ..), f a built-in function -/
theorem pe_callB (hc : CallR X (.builtin id) r) (hg : Gl X x) (hm : X.mg x = none) (hv : bootBuiltins x = some (.builtin id)) (ha : PA X (e :: es) t) (hn : x ≠ "__name__" := by decide) (hdb : (x == ("__debug__" : Str)) = false := by decide)
    (he : starEach (e :: es) X.env = (false, eval e X.env) :: starEach es X.env := by rfl) (hpl : (backTo pos (starEach es X.env)).any (·.1) = false := by rfl) : PE X (.Call (.Name x p) (e :: es) [] pos) (tCB r t) := by
  intro pins s σ H Q I h
  refine wpAny_Call_Name_kw (ld_blt I hg hm hv ?_ hn hdb)
  exact PyProof.Rows.callWith_builtin1 (thn (ha pos pins s σ H _ I h) fun us s1 ⟨vs, H1, I1, r1, q1⟩ => hc pins s1 σ H1 vs us Q I1 r1 q1) he hpl
/-- T(e, ..), T a built-in type -/
theorem pe_callTy (hc : CallR X (.type T) r) (hg : Gl X x) (hm : X.mg x = none) (hv : bootBuiltins x = some (.type T)) (ha : PA X (e :: es) t) (hn : x ≠ "__name__" := by decide) (hdb : (x == ("__debug__" : Str)) = false := by decide)
    (he : starEach (e :: es) X.env = (false, eval e X.env) :: starEach es X.env := by rfl) (hpl : (backTo pos (starEach es X.env)).any (·.1) = false := by rfl) : PE X (.Call (.Name x p) (e :: es) [] pos) (tCB r t) := by
  intro pins s σ H Q I h
  refine wpAny_Call_Name_kw (ld_blt I hg hm hv ?_ hn hdb)
  exact PyProof.Rows.callWith_type1 (thn (ha pos pins s σ H _ I h) fun us s1 ⟨vs, H1, I1, r1, q1⟩ => hc pins s1 σ H1 vs us Q I1 r1 q1) he hpl
end
end L2

namespace HT
open PySem PyProof.Rows

/-- t < u of tuples of ints -/
def lexLt : List Int → List Int → Bool
  | [], [] => false
  | [], _ :: _ => true
  | _ :: _, [] => false
  | x :: xs, y :: ys => if x = y then lexLt xs ys else decide (x < y)
section
open PySem.SeqAt
open PySem.AutoSeq1 (wpAny_loadPart')
open PySem.MeetsSeq PySem.MeetsSeq2 PySem.MeetsSeq3

end

section
variable {prog : Program} {w : World} {A : Around} {E : Value → Shared → Prop} {s : Shared}

/-! ### t[a:b], not the whole -/
/-- a slice's bound as a place among n (d where it is left out) -/
def sIx (n d : Nat) : Option Int → Nat
  | none => d
  | some v => if v < 0 then (v + (n : Int)).toNat else min v.toNat n
end
end HT

namespace L2
open PySem PySem.Spec PyProof.Rows

/-! ### the parts of a slice -/
abbrev TO := St → Hp → (Option Int → Hp → Prop) → Prop
/-- a slice's part (left out, or an int) -/
def PO (X : Cx) (e : Option Expr) (t : TO) : Prop :=
  ∀ (pins : List (Addr × Obj)) (s : Shared) (σ : St) (H : Hp) (Q : Option Int → Hp → Prop), Inv X pins σ H s → t σ H Q →
    wpAny (model X.prog X.w) X.A (evalPart e X.env) (fun u s' => ∃ o H', Inv X pins σ H' s' ∧ IsPart u o ∧ Q o H') X.xe s
def tNoPart : TO := fun _ H Q => Q none H
def tPart (t : TE) : TO := fun σ H Q => t σ H fun x H1 => ∃ i, x = .int i ∧ Q (some i) H1

section
variable {X : Cx} {e : Expr} {te : TE} {lo hi : Option Expr} {tl th : TO} {pos p2 : Pos}

/-- what a slice of a value is, by values: the slice object stands at sl -/
def SlR (X : Cx) (r : V → Option Int → Option Int → Hp → VK → Prop) : Prop :=
  ∀ (pins : List (Addr × Obj)) (s : Shared) (σ : St) (H : Hp) (x : V) (v vl vu : Value) (lo hi : Option Int) (sl : Addr) (Q : VK), Inv X pins σ H s → RelV x v → s.heap.IsSliceOf sl vl vu .none → IsPart vl lo → IsPart vu hi → r x lo hi H Q →
    ∃ T id, typeLookup (.type T) "__getitem__" = pure (some (.builtin id)) ∧ s.TypeIs v T ∧ wpAny (model X.prog X.w) X.A (getItem v (.ref sl)) (EP X pins σ Q) X.xe s
def tSl (r : V → Option Int → Option Int → Hp → VK → Prop) (te : TE) (tl th : TO) : TE := fun σ H Q => te σ H fun x H1 => tl σ H1 fun l H2 => th σ H2 fun u H3 => r x l u H3 Q
/-- the items of xs[lo:hi] -/
def cutV (xs : List V) (lo hi : Option Int) : List V := (xs.drop (HT.sIx xs.length 0 lo)).take (HT.sIx xs.length xs.length hi - HT.sIx xs.length 0 lo)
/-- t[lo:hi], not the whole of it (the whole would be t itself) -/
def rSlT (K : PySem.W.Frag) : V → Option Int → Option Int → Hp → VK → Prop := fun x lo hi H Q => ∃ a xs, x = .ref a ∧ SqT K H a xs ∧
  ¬ (HT.sIx xs.length 0 lo = 0 ∧ HT.sIx xs.length xs.length hi = xs.length) ∧ ∀ p, H p = none → Q (.ref p) (upd H p (.tup (cutV xs lo hi)))
/-! ### t < u, t + u -/
def rLtT (K : PySem.W.Frag) : R2 := fun x y H Q => ∃ a b ns ms, x = .ref a ∧ y = .ref b ∧ SqT K H a (ns.map V.int) ∧ SqT K H b (ms.map V.int) ∧ Q (.bl (HT.lexLt ns ms)) H
/-- t + u, t not empty: u empty gives t itself -/
def rCatT (K : PySem.W.Frag) : R2 := fun x y H Q => ∃ a b xs ys, x = .ref a ∧ y = .ref b ∧ SqT K H a xs ∧ SqT K H b ys ∧ xs ≠ [] ∧ xs.length + ys.length ≤ sizeLine ∧
  (ys = [] → Q (.ref a) H) ∧ (ys ≠ [] → ∀ p, H p = none → Q (.ref p) (upd H p (.tup (xs ++ ys))))
end
end L2

namespace L2
open PySem PySem.Spec PyProof.Rows

/-! ### places -/
/-- the place that an index of any sign means -/
def ixN (n : Nat) (i : Int) : Option Nat := if 0 ≤ i then (if i < n then some i.toNat else none) else if -(n : Int) ≤ i then some (i + n).toNat else none
def atI {α : Type} (xs : List α) (i : Int) : Option α := (ixN xs.length i).bind fun j => xs[j]?
theorem ixN_seq {n : Nat} {i : Int} {j : Nat} (h : ixN n i = some j) : seqIndex? i n = some j ∧ j < n ∧ -(n : Int) ≤ i ∧ i < n := by
  unfold ixN at h
  by_cases h0 : 0 ≤ i
  · rw [if_pos h0] at h
    by_cases h1 : i < n
    · rw [if_pos h1] at h
      have e : i.toNat = j := Option.some.inj h
      exact ⟨by rw [seqIndex_of h0 h1, e], by omega, by omega, h1⟩
    · rw [if_neg h1] at h; cases h
  · rw [if_neg h0] at h
    by_cases h1 : -(n : Int) ≤ i
    · rw [if_pos h1] at h
      have e : (i + n).toNat = j := Option.some.inj h
      exact ⟨by rw [seqIndex_neg (by omega) h1, e], by omega, h1, by omega⟩
    · rw [if_neg h1] at h; cases h
theorem atI_get {α : Type} {xs : List α} {i : Int} {v : α} (h : atI xs i = some v) : ∃ j, seqIndex? i xs.length = some j ∧ xs[j]? = some v ∧ j < xs.length ∧ -(xs.length : Int) ≤ i ∧ i < xs.length := by
  unfold atI at h
  cases e : ixN xs.length i with
  | none => rw [e] at h; cases h
  | some j =>
    rw [e] at h
    obtain ⟨h1, h2, h3, h4⟩ := ixN_seq e
    exact ⟨j, h1, h, h2, h3, h4⟩
theorem atI_nat {α : Type} {xs : List α} {j : Nat} {v : α} (h : xs[j]? = some v) : atI xs (j : Int) = some v := by
  have hj : j < xs.length := (List.getElem?_eq_some_iff.mp h).1
  have e : ixN xs.length (j : Int) = some j := by
    unfold ixN
    rw [if_pos (by omega), if_pos (by omega)]; simp
  unfold atI; rw [e]; exact h
/-! ### what may be subscripted -/
/-- what stands as an index of a plain subscript -/
def PlainIx (b : Expr) : Prop := ∀ o i, subscripted b false o i = operate [o, i] (getItem o i)
/-- a subscript by values -/
def IxR (X : Cx) (r : R2) : Prop :=
  ∀ (value slice : Expr) (pins : List (Addr × Obj)) (s : Shared) (σ : St) (H : Hp) (x y : V) (v u : Value) (Q : VK), Inv X pins σ H s → RelV x v → RelV y u → r x y H Q →
    subscripted slice false v u = operate [v, u] (getItem v u) → wpAny (model X.prog X.w) X.A (subscriptTail value slice v u) (EP X pins σ Q) X.xe s
/-- a call of a builtin's method by values: the receiver, the arguments -/
def MtR (X : Cx) (id : String) (r : V → List V → Hp → VK → Prop) : Prop :=
  ∀ (pins : List (Addr × Obj)) (s : Shared) (σ : St) (H : Hp) (x : V) (xs : List V) (v : Value) (us : List Value) (Q : VK), Inv X pins σ H s → RelV x v → Vals xs us → r x xs H Q →
    wpAny (model X.prog X.w) X.A (call (.builtin id) (v :: us)) (EP X pins σ Q) X.xe s
section
variable {X : Cx} {a b : Expr} {ta tb : TE} {pos : Pos}
/-- a[b] -/
theorem pe_ix {r : R2} (hr : IxR X r) (ha : PE X a ta) (hb : PE X b tb) (hs : PlainIx b) : PE X (.Subscript a b pos) (tOp r ta tb) := by
  intro pins s σ H Q I h
  exact Subscript_ (binT ha hb I h fun v u s2 x y H2 I2 rx ry q => hr a b pins s2 σ H2 x y v u Q I2 rx ry q (hs _ _))

def rIxL (K : PySem.W.Frag) : R2 := fun x y H Q => ∃ p xs i v, x = .ref p ∧ y = .int i ∧ SqL K H p xs ∧ atI xs i = some v ∧ Q v H
def rIxT (K : PySem.W.Frag) : R2 := fun x y H Q => ∃ p xs i v, x = .ref p ∧ y = .int i ∧ SqT K H p xs ∧ atI xs i = some v ∧ Q v H
def rIxS : R2 := fun x y H Q => ∃ z i c, x = .str z ∧ y = .int i ∧ z.length ≤ sizeLine ∧ atI z.cps.toList i = some c ∧ Q (.str ⟨#[c]⟩) H
theorem ix_list : IxR X (rIxL X.K) := by
  intro value slice pins s σ H x y v u Q I rx ry h hs
  obtain ⟨p, xs, i, z, rfl, rfl, hq, he, q⟩ := h
  cases rx
  obtain ⟨t, rfl⟩ := ry
  obtain ⟨its, r, pl, hz⟩ := I.list hq
  obtain ⟨j, h1, h2, h3, h4, h5⟩ := atI_get he
  obtain ⟨w, ew, rw'⟩ := r.get h2
  have hl := r.length
  have hn := line63
  have fin : EP X pins σ Q w s := ⟨z, H, I, rw', q⟩
  by_cases h0 : 0 ≤ i
  · have hj : i.toNat = j := by
      rw [seqIndex_of h0 h5] at h1
      exact Option.some.inj h1
    exact item_listR pl.isList h0 (by omega) (by rw [hj]; simpa using ew) fin hs
  · have hj : (i + (its.toArray.size : Int)).toNat = j := by
      rw [seqIndex_neg (by omega) h4] at h1
      rw [List.size_toArray, ← hl]
      exact Option.some.inj h1
    exact subscriptTail_builtinR (x := w) pl.isList.typeIs slot_list_getitem.lookup
      (wpAny_getItem_list_neg (Q := fun r s' => r = w ∧ EP X pins σ Q r s') pl.isList (by omega) (by rw [List.size_toArray] <;> omega) (by omega) (by rw [hj]; simpa using ew) ⟨rfl, fin⟩) hs
theorem ix_tup : IxR X (rIxT X.K) := by
  intro value slice pins s σ H x y v u Q I rx ry h hs
  obtain ⟨p, xs, i, z, rfl, rfl, hq, he, q⟩ := h
  cases rx
  obtain ⟨t, rfl⟩ := ry
  obtain ⟨its, r, pl, hz⟩ := I.tuple hq
  obtain ⟨j, h1, h2, h3, h4, h5⟩ := atI_get he
  obtain ⟨w, ew, rw'⟩ := r.get h2
  have hl := r.length
  have hn := line63
  have fin : EP X pins σ Q w s := ⟨z, H, I, rw', q⟩
  exact subscriptTail_builtinR (x := w) pl.typeIs slot_tuple_getitem.lookup
    (getItem_tuple (j := j) (Q := fun r s' => r = w ∧ EP X pins σ Q r s') pl (by omega) (by omega) (by rw [List.size_toArray, ← hl]; exact h1) (by simpa using ew) ⟨rfl, fin⟩) hs
/-- list, tuple or str -/
def rIx (K : PySem.W.Frag) : R2 := fun x y H Q => rIxL K x y H Q ∨ rIxT K x y H Q ∨ rIxS x y H Q
/-! ### xs[i] = v, any sign -/
/-- the list's object behind a store -/
theorem mapSeq_set (its : List Value) (n j : Nat) (u : Value) : Obj.mapSeq (·.setIfInBounds j u) { cls := .type "list", data := .seq its.toArray n } = { cls := .type "list", data := .seq (its.set j u).toArray n } := by
  simp [Obj.mapSeq]
theorem Inv.lst {pins : List (Addr × Obj)} {σ : St} {H : Hp} {s : Shared} {p : Addr} {xs : List V} (I : Inv X pins σ H s) (h : H p = some (.lst xs)) :
    ∃ (its : List Value) (n : Nat), Vals xs its ∧ s.heap.get? p = some { cls := .type "list", data := .seq its.toArray n } ∧ xs.length ≤ sizeLine := by
  obtain ⟨z, its, n, r, e⟩ := I.hok p _ h
  exact ⟨its, n, r, e, z⟩
/-- the list at p is written by an update of its object -/
theorem Inv.lstUpd {pins : List (Addr × Obj)} {σ : St} {H : Hp} {s : Shared} {p : Addr} {xs ys : List V} {its its' : List Value} {n n' : Nat} {f : Obj → Obj} (I : Inv X pins σ H s) (h : H p = some (.lst xs))
    (ho : s.heap.get? p = some { cls := .type "list", data := .seq its.toArray n }) (hf : f { cls := .type "list", data := .seq its.toArray n } = { cls := .type "list", data := .seq its'.toArray n' }) (r : Vals ys its') (hz : ys.length ≤ sizeLine) (t : Nat) :
    Inv X pins σ (upd H p (.lst ys)) { s with heap := s.heap.update p f, toks := t } := by
  have e : (s.heap.update p f).get? p = some { cls := .type "list", data := .seq its'.toArray n' } := by
    rw [Heap.get?_update_self f ho (by rw [hf] <;> rfl), hf]
  refine I.write (x := p) (e := p) (by rw [h]; trivial) (.inl rfl) (fun b u hb q => (Heap.get?_update_other _ _ (Ne.symm hb)).trans q) ⟨_, e⟩ ?_
  exact ⟨hz, its', n', r, e⟩
def rSetL : V → V → V → Hp → (Hp → Prop) → Prop := fun o i v H Q => ∃ p xs k j, o = .ref p ∧ i = .int k ∧ H p = some (.lst xs) ∧ ixN xs.length k = some j ∧ Q (upd H p (.lst (xs.set j v)))
theorem set_list : PSet X rSetL := by
  intro pins s σ H o i v ov iv u Q I ro ri rv h
  obtain ⟨p, xs, k, j, rfl, rfl, hp, hj, q⟩ := h
  cases ro
  obtain ⟨t, rfl⟩ := ri
  obtain ⟨its, n, r, ho, hz⟩ := I.lst hp
  obtain ⟨h1, h2, h3, h4⟩ := ixN_seq hj
  have hl := r.length
  have hn := line63
  have I' : Inv X pins σ (upd H p (.lst (xs.set j v))) { s with heap := s.heap.update p (Obj.mapSeq (·.setIfInBounds j u)) } :=
    I.lstUpd hp ho (mapSeq_set its n j u) (r.set rv j) (by rw [List.length_set]; exact hz) s.toks
  by_cases h0 : 0 ≤ k
  · have hk : k.toNat = j := by
      rw [seqIndex_of h0 h4] at h1
      exact Option.some.inj h1
    exact PySem.W.ki_setAt ho h0 (by omega) (by rw [List.size_toArray, ← hl]; exact h4) (by rw [hk]; exact ⟨_, I', q⟩)
  · have hk : (k + (its.toArray.size : Int)).toNat = j := by
      rw [seqIndex_neg (by omega) h3] at h1
      rw [List.size_toArray, ← hl]
      exact Option.some.inj h1
    exact PySem.W.ki_setBack ho (by omega) (by rw [List.size_toArray, ← hl]; exact h3) (by omega) (by rw [hk]; exact ⟨_, I', q⟩)

/-! ### slices -/
/-- xs[lo:hi] of a list: a new list -/
def rSlL (K : PySem.W.Frag) : V → Option Int → Option Int → Hp → VK → Prop := fun x lo hi H Q => ∃ a xs, x = .ref a ∧ SqL K H a xs ∧ ∀ p, H p = none → Q (.ref p) (upd H p (.lst (cutV xs lo hi)))
/-! ### in, not in: flat items -/
def flatV : V → Bool
  | .non => true
  | .bl _ => true
  | .int _ => true
  | .str _ => true
  | _ => false
/-- == of flat values -/
def eqV : V → V → Bool
  | .non, .non => true
  | .bl a, .bl b => a == b
  | .bl a, .int b => (if a then 1 else 0) == b
  | .int a, .bl b => a == (if b then 1 else 0)
  | .int a, .int b => a == b
  | .str a, .str b => a == b
  | _, _ => false
/-- the items' answers, read off the values (a value's own answer does not lean on its token) -/
def eqU (x : V) (u : Value) : Bool := match u with
  | .none => eqV .non x
  | .bool b => eqV (.bl b) x
  | .int i _ => eqV (.int i) x
  | .str z _ => eqV (.str z) x
  | _ => false
def inV (x : V) (xs : List V) : Bool := xs.any fun y => eqV y x
/-- x in a list or tuple of flat items -/
def rIn (K : PySem.W.Frag) (neg : Bool) : R2 := fun x y H Q => ∃ p xs, y = .ref p ∧ (SqL K H p xs ∨ SqT K H p xs) ∧ flatV x = true ∧ xs.all flatV = true ∧ Q (.bl (if neg then !inV x xs else inV x xs)) H
/-! ### len, list(x), tuple(x) of any list or tuple that is read -/
theorem call_len_seq : CallR X (.builtin "len") (fun xs H Q => ∃ p ys, xs = [.ref p] ∧ (SqL X.K H p ys ∨ SqT X.K H p ys) ∧ Q (.int ys.length) H) := by
  intro pins s σ H xs us Q I r h
  obtain ⟨p, ys, rfl, hq, q⟩ := h
  obtain ⟨u, rfl, rx⟩ := vals1 r
  cases rx
  have hn := line63
  rcases hq with hq | hq
  · obtain ⟨its, r', pl, hz⟩ := I.list hq
    have hlen := r'.length
    exact Calls.call_len_list pl.isList (by simp only [List.size_toArray] <;> omega) ⟨.int ys.length, H, I.tok _, ⟨s.toks + 1, by rw [List.size_toArray, hlen]⟩, q⟩
  · obtain ⟨its, r', pl, hz⟩ := I.tuple hq
    have hlen := r'.length
    exact len_tuple pl (by simp only [List.size_toArray] <;> omega) ⟨.int ys.length, H, I.tok _, ⟨s.toks + 1, by rw [List.size_toArray, hlen]⟩, q⟩
theorem call_list_of : CallR X (.type "list") (fun xs H Q => ∃ p ys, xs = [.ref p] ∧ (SqL X.K H p ys ∨ SqT X.K H p ys) ∧ ∀ l, H l = none → Q (.ref l) (upd H l (.lst ys))) := by
  intro pins s σ H xs us Q I r h
  obtain ⟨p, ys, rfl, hq, q⟩ := h
  obtain ⟨u, rfl, rx⟩ := vals1 r
  cases rx
  have fin : ∀ (its : List Value), Vals ys its → ys.length ≤ sizeLine → ∀ (h' : Heap) (c' : Nat), (∀ b o', s.heap.get? b = some o' → h'.get? b = some o') →
      h'.get? s.heap.objs.size = some { cls := .type "list", dict := none, data := .seq its.toArray c', slots := #[] } → EP X pins σ Q (.ref s.heap.objs.size) { s with heap := h' } := fun its r' hz h' c' kp e =>
    ⟨.ref s.heap.objs.size, _, I.laid (t' := s.toks) kp (Nat.le_refl _) (show ObjOk X.prog X.w _ h' _ (.lst ys) from ⟨hz, its, c', r', e⟩), rfl, q _ (I.hok.fresh (Nat.le_refl _))⟩
  rcases hq with hq | hq
  · obtain ⟨its, r', pl, hz⟩ := I.list hq
    have hlen := r'.length
    obtain ⟨o, ho, hc, n, hd⟩ := pl.isList
    exact call_list_seq p (.inl rfl) ho hc hd (fun h' c' kp e => fin its r' hz h' c' kp e) (by simp only [List.size_toArray] <;> omega)
  · obtain ⟨its, r', pl, hz⟩ := I.tuple hq
    have hlen := r'.length
    obtain ⟨o, ho, hc, n, hd⟩ := pl
    exact call_list_seq p (.inr rfl) ho hc hd (fun h' c' kp e => fin its r' hz h' c' kp e) (by simp only [List.size_toArray] <;> omega)
/-! ### the call of a builtin's method: o.m(..) -/
/-- the value is of that builtin type -/
def tyV (K : PySem.W.Frag) (T : String) (x : V) (H : Hp) : Prop := match x with
  | .str _ => T = "str"
  | .int _ => T = "int"
  | .ref p => (T = "list" ∧ ∃ xs, SqL K H p xs) ∨ (T = "tuple" ∧ ∃ o, K.lookup p = some o ∧ o.cls = .type "tuple" ∧ o.dict = none) ∨
      (T = "dict" ∧ ((∃ kvs, H p = some (.dK kvs)) ∨ ∃ kvs, H p = some (.dT kvs))) ∨ (T = "set" ∧ ∃ S n, H p = some (.set S n))
  | _ => False
theorem tyV_is {pins : List (Addr × Obj)} {σ : St} {H : Hp} {s : Shared} {T : String} {x : V} {v : Value} (I : Inv X pins σ H s) (r : RelV x v) (ty : tyV X.K T x H) :
    s.TypeIs v T ∧ ∀ a, v = .ref a → ∃ ob, s.heap.get? a = some ob ∧ ob.dict = none := by
  cases x with
  | str z =>
    obtain ⟨t, rfl⟩ := r
    cases (show T = "str" from ty)
    exact ⟨typeIs_str s z t, fun _ e => nomatch e⟩
  | int i =>
    obtain ⟨t, rfl⟩ := r
    cases (show T = "int" from ty)
    exact ⟨typeIs_int s i t, fun _ e => nomatch e⟩
  | ref p =>
    cases r
    rcases ty with ⟨rfl, xs, hq⟩ | ⟨rfl, o, hk, hc, hd⟩ | ⟨rfl, hk⟩ | ⟨rfl, S, n, hk⟩
    · obtain ⟨its, _, pl, _⟩ := I.list hq
      refine ⟨pl.isList.typeIs, fun a e => ?_⟩
      cases e
      obtain ⟨o, n, e, c, hd, _⟩ := pl
      exact ⟨o, e, hd⟩
    · refine ⟨⟨o, I.kIn p o hk, hc⟩, fun a e => ?_⟩
      cases e
      exact ⟨o, I.kIn _ o hk, hd⟩
    · have z : ∃ o, s.heap.get? p = some o ∧ o.ExactDict := by
        rcases hk with ⟨kvs, hk⟩ | ⟨kvs, hk⟩
        · obtain ⟨_, _, _, _, o, _, _, e, ex, _⟩ := I.hok p _ hk
          exact ⟨o, e, ex⟩
        · obtain ⟨_, _, _, _, o, _, _, e, ex, _⟩ := I.hok p _ hk
          exact ⟨o, e, ex⟩
      obtain ⟨o, e, ex⟩ := z
      refine ⟨⟨o, e, ex.1⟩, fun a e2 => ?_⟩
      cases e2
      exact ⟨o, e, ex.2.1⟩
    · obtain ⟨o, _, _, _, e, ex, _⟩ := I.hok p _ hk
      refine ⟨⟨o, e, ex.1⟩, fun a e2 => ?_⟩
      cases e2
      exact ⟨o, e, ex.2.1⟩
  | _ => exact False.elim ty
def tBM0 (K : PySem.W.Frag) (T : String) (r : V → List V → Hp → VK → Prop) (to : TE) : TE := fun σ H Q => to σ H fun x H1 => tyV K T x H1 ∧ r x [] H1 Q
def tBM (K : PySem.W.Frag) (T : String) (r : V → List V → Hp → VK → Prop) (to : TE) (t : TA) : TE := fun σ H Q => to σ H fun x H1 => tyV K T x H1 ∧ t σ H1 fun xs H2 => r x xs H2 Q
variable {o e : Expr} {es : List Expr} {to : TE} {t : TA} {name : Str} {apos cpos : Pos} {T id : String} {r : V → List V → Hp → VK → Prop}
theorem pe_bm (pa : PlainAttrs T) (slot : Slot T name id) (hty : typeOf (.builtin id) = pure (.type "method_descriptor")) (hm : MtR X id r) (ho : PE X o to) (ha : PA X (e :: es) t)
    (hbase : attributeBase o name X.env (eval o X.env) = eval o X.env := by rfl)
    (hfew : ((backTo cpos (starEach (e :: es) X.env)).all (fun x => !x.1) && (backToKw cpos (keywordEach [] X.env)).all (fun x => x.1.isSome)
      && decide ((e :: es).length + ([] : List Keyword).length + (if ([] : List Keyword).isEmpty then 0 else 1) < 30)) = true := by rfl)
    (hline : (apos.endLine == cpos.line) = true := by rfl) (hs : starEach (e :: es) X.env = (false, eval e X.env) :: starEach es X.env := by rfl) (hplain : (backTo cpos (starEach es X.env)).any (·.1) = false := by rfl) :
    PE X (.Call (.Attribute o name apos) (e :: es) [] cpos) (tBM X.K T r to t) := by
  intro pins s σ H Q I h
  refine wpAny_Call_method_late hbase hfew hline rfl (thn (ho pins s σ H _ I h) fun v s1 ⟨x, H1, I1, r1, ty, q1⟩ => ?_)
  obtain ⟨h1, h2⟩ := tyV_is I1 r1 ty
  refine ⟨T, id, pa, slot, hty, h1, h2, ?_⟩
  have hA := ha cpos pins s1 σ H1 _ I1 q1
  rw [hs] at hA ⊢
  refine Calls.callWith_builtin (by show (false || (backTo cpos (starEach es X.env)).any (·.1)) = false; rw [hplain] <;> rfl) (Calls.evalArgs_plain ?_)
  exact thn hA fun us s2 ⟨vs, H2, I2, r2, q2⟩ => hm pins s2 σ H2 x vs v us Q I2 r1 r2 q2
/- xs.append(e), list.index on a module's tuple .. are MtR facts of 06m -/
end
end L2

namespace L2
open PySem PySem.Spec PyProof.Rows

def MtM (X : Cx) (id : String) (r : V → List V → Hp → VK → Prop) : Prop :=
  ∀ (pins : List (Addr × Obj)) (s : Shared) (σ : St) (H : Hp) (x : V) (xs : List V) (v : Value) (us : List Value) (Q : VK), Inv X pins σ H s → RelV x v → Vals xs us → r x xs H Q →
    wpAny (model X.prog X.w) X.A (call (.builtin id) (v :: us)) (EP X pins σ Q) X.xe s

/-! ### lists of values -/
theorem Vals.one : ∀ {x : V} {us : List Value}, Vals [x] us → ∃ u, us = [u] ∧ RelV x u
  | _, _, .cons r .nil => ⟨_, rfl, r⟩
section
variable {X : Cx} {pins : List (Addr × Obj)} {σ : St} {H : Hp} {s : Shared} {l b : Addr} {xs ys zs : List V}

/-! ### the two steps: a tracked list is rewritten, a new list is laid -/
theorem Inv.lset {its its' : List Value} {n : Nat} {f : Array Value → Array Value} {t' : Nat} (I : Inv X pins σ H s) (hH : H l = some (.lst xs))
    (e : s.heap.get? l = some { cls := .type "list", data := .seq its.toArray n }) (hf : f its.toArray = its'.toArray) (hv : Vals ys its') (hz : ys.length ≤ sizeLine) :
    Inv X pins σ (upd H l (.lst ys)) { s with heap := s.heap.update l (Obj.mapSeq f), toks := t' } := by
  have q := PySem.IsL.update e f
  rw [hf] at q
  refine I.write (x := l) (e := l) (by rw [hH]; exact trivial) (.inl rfl) (fun b' u hb hu => (Heap.get?_update_other s.heap (Obj.mapSeq f) (Ne.symm hb)).trans hu) ⟨_, q⟩ ?_
  exact ⟨hz, its', _, hv, q⟩
theorem Inv.lstM (I : Inv X pins σ H s) (hH : H l = some (.lst xs)) : xs.length ≤ sizeLine ∧ ∃ (its : List Value) (n : Nat), Vals xs its ∧ xs.length = its.length ∧ s.heap.get? l = some { cls := .type "list", data := .seq its.toArray n } := by
  obtain ⟨z, its, n, r, e⟩ := I.hok l _ hH
  exact ⟨z, its, n, r, r.length, e⟩

end

section
variable {X : Cx}

/-! ### methods -/
def rAppend : V → List V → Hp → VK → Prop := fun x vs H Q => ∃ l xs y, x = .ref l ∧ vs = [y] ∧ H l = some (.lst xs) ∧ xs.length < sizeLine ∧ Q .non (upd H l (.lst (xs ++ [y])))
theorem mt_append : MtM X "list.append" rAppend := by
  intro pins s σ H x vs v us Q I rx rv h
  obtain ⟨l, xs, y, rfl, rfl, hH, hz, q⟩ := h
  cases rx
  obtain ⟨u, rfl, ru⟩ := rv.one
  obtain ⟨z, its, n, r, hl, e⟩ := I.lstM hH
  refine call_meets F.slot_list_append ⟨_, e, rfl⟩ F.entry_list_append (F.args_list_append_2 _ _) (PySem.list_append l its.toArray n u (by rw [List.size_toArray]; omega)) ⟨e, ?_⟩
  refine ⟨.non, _, I.lset (its' := its ++ [u]) hH e (by simp) (r.append (.cons ru .nil)) ?_, rfl, q⟩
  rw [List.length_append, List.length_singleton]
  omega

def rExtend : V → List V → Hp → VK → Prop := fun x vs H Q => ∃ l b xs zs, x = .ref l ∧ vs = [.ref b] ∧ H l = some (.lst xs) ∧ H b = some (.lst zs) ∧ xs.length + zs.length ≤ sizeLine ∧ Q .non (upd H l (.lst (xs ++ zs)))
def rPop : V → List V → Hp → VK → Prop := fun x vs H Q => ∃ l xs y, x = .ref l ∧ vs = [] ∧ H l = some (.lst xs) ∧ xs[xs.length - 1]? = some y ∧ Q y (upd H l (.lst xs.dropLast))
def rPopAt : V → List V → Hp → VK → Prop := fun x vs H Q => ∃ l xs i k y, x = .ref l ∧ vs = [.int i] ∧ H l = some (.lst xs) ∧ -(2 ^ 63) ≤ i ∧ i < 2 ^ 63 ∧ seqIndex? i xs.length = some k ∧ xs[k]? = some y ∧ Q y (upd H l (.lst (xs.eraseIdx k)))
def rReverse : V → List V → Hp → VK → Prop := fun x vs H Q => ∃ l xs, x = .ref l ∧ vs = [] ∧ H l = some (.lst xs) ∧ Q .non (upd H l (.lst xs.reverse))
def rClear : V → List V → Hp → VK → Prop := fun x vs H Q => ∃ l xs, x = .ref l ∧ vs = [] ∧ H l = some (.lst xs) ∧ Q .non (upd H l (.lst []))
/-! ### list + list, list += list, list * int -/
def rCat : R2 := fun x y H Q => ∃ l b xs zs, x = .ref l ∧ y = .ref b ∧ H l = some (.lst xs) ∧ H b = some (.lst zs) ∧ xs.length + zs.length ≤ sizeLine ∧ ∀ p, H p = none → Q (.ref p) (upd H p (.lst (xs ++ zs)))
/-- a list times an int (a negative one is nothing) -/
def rRep : R2 := fun x y H Q => ∃ l k xs, x = .ref l ∧ y = .int k ∧ H l = some (.lst xs) ∧ -(2 ^ 63) ≤ k ∧ k < 2 ^ 63 ∧ xs.length * k.toNat ≤ sizeLine ∧
  ∀ p, H p = none → Q (.ref p) (upd H p (.lst (List.replicate k.toNat xs).flatten))
/-! ### del xs[i] -/
end

/-! ### xs[a:b] = ys -/
section
variable {prog : Program} {w : World} {A : Around} {E : Value → Shared → Prop} {s : Shared}
set_option maxRecDepth 100000 in
end

section
variable {X : Cx}
end
end L2

namespace Att
open PySem PySem.W PySem.Calls PyProof.Rows

/-! ### the script -/
theorem ints_of_wellAll {P : Params} {h : Heap} : ∀ (ns : List Int) (vs : List Value), WellAll P h vs (ns.map WData.int) → IntsAre vs ns := by
  intro ns
  induction ns with
  | nil =>
    intro vs w
    rw [List.map_nil] at w
    cases w
    exact .nil
  | cons n ns ih =>
    intro vs w
    rw [List.map_cons] at w
    cases w with
    | cons a b =>
      cases a
      exact .cons _ _ (ih _ b)

theorem script_of {l : OpenLaw} {n : Nat} (hn : l.most = some n) {P : Params} {h : Heap} {args : List WData} {vals : List Value}
    (hpre : l.row.toRowW.claim.pre args = true) (hwl : WellAll P h vals args) :
    ∃ a vs ns, vals = [Value.ref a] ∧ args = [WData.list (ns.map WData.int)] ∧ h.get? a = some { cls := .type "list", data := .seq vs.toArray } ∧ IntsAre vs ns ∧ ns.length ≤ n := by
  have hsh : WShape.hasAll [] args [.list .int] = true := (pre_splitW hpre).1
  have hc : l.pre.holds [] { args := args } = true := (pre_splitW hpre).2
  obtain ⟨d, r, rfl, h1, h2⟩ := hasAllW_cons hsh
  obtain rfl := hasAllW_nil h2
  obtain ⟨xs, rfl, h3⟩ := hasW_list h1
  obtain ⟨ns, rfl⟩ := items_int h3
  have hlen : ns.length ≤ n := by
    unfold OpenLaw.pre at hc
    have h4 : (WTm.not (.lt (.lit (.int (n : Int))) (.len (.arg 0)))).holds [] { args := [.list (ns.map .int)] } = true := by
      have h4 := (holds_andW hc).1
      rw [hn] at h4
      exact h4
    have h5 := condW_of h4 (w_not (w_lt w_lit (w_len_list (w_arg rfl))))
    rw [List.length_map] at h5
    refine Nat.le_of_not_lt fun q => ?_
    have q' : (n : Int) < ((ns.length : Nat) : Int) := by omega
    first
      | (rw [decide_eq_true q'] at h5; exact absurd h5 (by decide))
      | (simp at h5; omega)
  cases hwl with
  | cons w1 w2 =>
    cases w2
    cases w1 with
    | list ho hall => exact ⟨_, _, ns, rfl, rfl, ho, ints_of_wellAll ns _ hall, hlen⟩

theorem post_true (l : OpenLaw) (args : List WData) : l.row.toRowW.claim.post args (.bool true) args = true :=
  postW_of (r := l.row.toRowW) (X := (true == true))
    (show WShape.has [] (.bool true) .bool = true by first | rfl | decide | simp [WShape.has, WShape.arms, WShape.armsAll])
    (show (WTm.eq .res (.lit (.bool true))).value [] { args := args, res := some (.bool true), after := args } = some (.bool (true == true)) from w_eq_bool (w_res rfl) w_lit) rfl

/-! ### the attachment: holds_open's last premise (the goal 'hc' behind k_head) from a wpAny of the law's body -/
/-- the same from a codeAny of the CALL (for a layer whose function contracts speak of calls) -/
theorem attach_call {l : OpenLaw} {n : Nat} {q : Program} {loose : List Str} {XP : (Str → Option Value) → Heap → Prop} {YP : World → Heap → Prop} {d : DefRec}
    (hn : l.most = some n) (hdf : d.params.defaults = [])
    (call : ∀ (w : World) (s₀ s₁ : Shared) (mg mb : Str → Option Value) (fa : Addr) (o : Obj) (pm cd doc : Value) (a : Addr) (vs : List Value) (ns : List Int),
      Ground q loose [] XP w s₀ mg mb s₁.heap → YP w s₁.heap →
      s₁.heap.get? fa = some o → o.data = .func (docDef d.name d.params d.body d.scope pm cd doc) → s₁.heap.CodeRec cd d.name → mg d.name = some (.ref fa) →
      s₁.heap.get? a = some { cls := .type "list", data := .seq vs.toArray } → IntsAre vs ns → ns.length ≤ n → s₁.gens = #[] →
      codeAny (model l.prog w) callerA (.call (.ref fa) ⟨[.ref a], []⟩) (fun r s' => r = .ok (.ret (.bool true)) ∧ OldK s₁.heap s'.heap ∧ s'.os = s₁.os ∧ AllBare s'.gens) s₁) :
    WalkO q loose XP YP l.row.toRowW d [] (fun f vs => PySem.call f vs) := by
  intro w s₀ s₁ mg mb G Y fa o pm cd doc dV kV ho hd hcd hD hmg hg args vals as hpre hlay hrd hwl hlo
  obtain rfl : dV = .none := Dflts.none hD hdf
  obtain rfl : kV = .none := Dflts.noKw hD
  obtain ⟨a, vs, ns, rfl, rfl, hobj, hints, hlen⟩ := script_of hn hpre hwl
  refine enter_call (codeAny_mono (call w s₀ s₁ mg mb fa o pm cd doc a vs ns G Y ho (fd_plain hd) hcd hmg hobj hints hlen hg) fun r s' hq => ?_)
  obtain ⟨rfl, h2, h3, h4⟩ := hq
  exact ⟨.inl ⟨.bool true, .bool true, [], rfl, fun _ => rfl, .bool true, post_true l _, fun _ => ⟨List.Pairwise.nil, fun _ hm => (nomatch hm)⟩⟩, h2, h3, h4⟩

/-! ### rules over ANY heap (no ledger) from facts about the written part K: the library's own take a ledger (News) for what they write -/
section
variable {prog : Program} {w : World} {A : Around} {E : Value → Shared → Prop} {s : Shared} {K : Frag}

/-! the whole heap as the ledger: makes every rule that writes through a ledger a rule over any heap -/
def noObjs (h : Heap) : Heap := { h with objs := #[] }
def ledger (h : Heap) (L d : Addr) : List (Addr × Obj) := (List.range h.objs.size).filterMap fun a => if a = L ∨ a = d then none else (h.get? a).map fun o => (a, o)
end
end Att

namespace L2
open PySem PySem.Spec PyProof.Rows

theorem vals_ints : ∀ {vs : List Value} {ns : List Int}, IntsAre vs ns → Vals (ns.map V.int) vs
  | _, _, .nil => .nil
  | _, _, .cons n t h => .cons ⟨t, rfl⟩ (vals_ints h)

/-- nothing is tracked but the script, known to the object (or it is an object of the module) -/
def Only (H : Hp) : Prop := ∀ b, H b = none ∨ ∃ o xs, H b = some (.frz o (.lst xs))

/-- THE HEAD: the law's promise, at the heap behind the top. F, the promise of the law's def, may use that base is part of the heap (so K.In base, base.Ns mainGlobals mg stand in Mod) -/
theorem law_call {P : Program} {w : World} {K : PySem.W.Frag} {mg mb : Str → Option Value} {CX : CXT} {k : Nat} {fa a : Addr} {fd : FuncData} {x : Str} {sp : Sp} {s₁ : Shared} {vs : List Value} {ns : List Int}
    (KX : K.In s₁.heap) (hns : s₁.heap.Ns mainGlobals mg) (hb : s₁.heap.Ns builtinsNs mb) (hbb : ∀ x : Str, x ≠ "__name__" → mb x = bootBuiltins x) (hlim : s₁.heap.NoLimit) (hg : s₁.gens = #[])
    (ha : s₁.heap.get? a = some { cls := .type "list", data := .seq vs.toArray }) (hi : IntsAre vs ns) (hl : ns.length ≤ sizeLine) (hr : Room k callerA)
    (F : ∀ base : Heap, K.In base → base.Ns mainGlobals mg → FnOk P w K mg base CX k fa fd [x] sp) (hbind : ∀ (s : Shared) (u : Value), BindsTo s fd ⟨[u], []⟩ [(x, u)])
    (hsp : ∀ H : Hp, Only H → SqL K H a (ns.map V.int) → sp [.ref a] H (fun v _ => v = .bl true) fun _ _ _ => False)
    (hCX : ∀ H e s', CX [] H s₁ (fun _ _ _ => False) e s' → False) :
    codeAny (model P w) callerA (.call (.ref fa) ⟨[.ref a], []⟩) (fun r s' => r = .ok (.ret (.bool true)) ∧ OldK s₁.heap s'.heap ∧ s'.os = s₁.os ∧ AllBare s'.gens) s₁ := by
  have rv := vals_ints hi
  have lenV := hi.length
  -- from an abstract heap in which nothing but the script may be tracked
  have core : ∀ H : Hp, Only H → SqL K H a (ns.map V.int) → HOk P w H s₁.heap → (∀ b, H b ≠ none → b = a) → (H a ≠ none → K.lookup a = none) →
      codeAny (model P w) callerA (.call (.ref fa) ⟨[.ref a], []⟩) (fun r s' => r = .ok (.ret (.bool true)) ∧ OldK s₁.heap s'.heap ∧ s'.os = s₁.os ∧ AllBare s'.gens) s₁ := by
    intro H hO hS hok hA hK
    have base_of : ∀ {b : Addr} {o : Obj}, s₁.heap.get? b = some o → H b = none → (hidT s₁.heap H).get? b = some o := fun e n => hidT_get e n
    have noA : ∀ {b : Addr} {o : Obj} {es : Array DictEntry} {ep : Nat}, s₁.heap.get? b = some o → o.data = .dict es ep → H b = none := fun {b o es ep} e d => by
      cases q : H b with
      | none => rfl
      | some u =>
        have e' : b = a := hA b (by rw [q]; simp)
        subst e'
        rw [ha] at e; cases e
        have d' : Data.seq vs.toArray _ = Data.dict es ep := d
        cases d'
    have nsK : ∀ {b : Addr} {m : Str → Option Value}, s₁.heap.Ns b m → (hidT s₁.heap H).Ns b m := fun {b m} ⟨o, es, ep, e, d, r⟩ => ⟨o, es, ep, base_of e (noA e d), d, r⟩
    have hKb : K.In (hidT s₁.heap H) := fun b o e => base_of (KX b o e) (by
      cases q : H b with
      | none => rfl
      | some u =>
        have e' : b = a := hA b (by rw [q]; simp)
        subst e'
        rw [hK (by rw [q]; simp)] at e; cases e)
    have hM : Mod K mg (hidT s₁.heap H) := ⟨hKb, nsK hns, ⟨mb, nsK hb, hbb⟩, let ⟨mc, h1, h2⟩ := hlim; ⟨mc, nsK h1, h2⟩⟩
    have e0 : Env0 P w K mg (hidT s₁.heap H) callerA [] s₁ H := ⟨rfl, hM, fun b o e => of_hidT e, Nat.le_of_eq (hidT_size _ _), trivial, fun b hb => absurd (show b ∈ ([] : List Addr) from hb) (by simp), hok, .of_eq hg⟩
    refine codeAny_mono ((F _ hKb (nsK hns)).run callerA [] s₁ H ⟨[.ref a], []⟩ [.ref a] [.ref a] _ _ hr e0 (hbind s₁ (.ref a)) (.cons rfl .nil) (hsp H hO hS)) fun r s' h => ?_
    cases r with
    | error e => exact (hCX H e s' h).elim
    | ok fl =>
      cases fl with
      | next => exact False.elim h
      | brk => exact False.elim h
      | cont => exact False.elim h
      | ret u =>
        obtain ⟨v, H', os, bare, un, hok', r', q⟩ := h
        have q' : v = .bl true := q
        subst q'
        obtain rfl : u = Value.bool true := r'
        refine ⟨rfl, OldK.of_keep fun b o e => ?_, os, bare⟩
        cases q : H b with
        | none => exact un.keep b o e q (by intro z; exact absurd (show b ∈ ([] : List Addr) from z) (by simp)) (by simp)
        | some u =>
          rcases hO b with z | ⟨ob, xs, z⟩
          · rw [q] at z; cases z
          · have z2 := un.frzs b ob _ z
            obtain ⟨e1, _⟩ := hok b _ z
            obtain ⟨e2, _⟩ := hok' b _ z2
            rw [e] at e1; cases e1
            exact e2
  cases hk : K.lookup a with
  | some o =>
    -- the script is one of the module's own objects
    have e := KX a o hk
    rw [ha] at e
    cases e
    refine core (fun _ => none) (fun _ => .inl rfl) (.inr ⟨_, vs.toArray, _, hk, rfl, rfl, rfl, by rw [List.size_toArray, lenV]; exact hl, by simpa using rv⟩) (fun b u z => by have z' : (none : Option HO) = some u := z; cases z') (fun b z => absurd rfl z) fun z => absurd rfl z
  | none =>
    refine core (fun b => if b = a then some (.frz { cls := .type "list", data := .seq vs.toArray } (.lst (ns.map V.int))) else none) (fun b => ?_) (.inl (.inr ⟨{ cls := .type "list", data := .seq vs.toArray }, if_pos rfl⟩)) (fun b u z => ?_) (fun b z => ?_) fun _ => hk
    · by_cases hb : b = a
      · exact .inr ⟨_, _, if_pos hb⟩
      · exact .inl (if_neg hb)
    · by_cases hb : b = a
      · have z' := (if_pos hb).symm.trans z
        cases z'
        subst hb
        exact ⟨ha, by rw [List.length_map]; exact hl, vs, _, rv, ha⟩
      · have z' := (if_neg hb).symm.trans z
        cases z'
    · by_cases hb : b = a
      · exact hb
      · exact absurd (if_neg hb) z
end L2

namespace L2
open PySem PySem.Spec PyProof.Rows

abbrev KOf {K : PySem.W.Frag} {h : Heap} (_ : K.In h) : PySem.W.Frag := K

/-- the goal that k_head leaves (case hc), from the law's promise. F gives the function object fd (K's own) once, then the promise over every base -/
theorem walk_of {l : PySem.W.OpenLaw} {n k : Nat} {q : Program} {loose : List Str} {XP : (Str → Option Value) → Heap → Prop} {YP : World → Heap → Prop} {d : DefRec} {K : Params → PySem.W.Frag} {CX : World → CXT} {sp : World → Sp} {x : Str}
    (hn : l.most = some n) (hn2 : n ≤ sizeLine) (hdf : d.params.defaults = []) (hr : Room k callerA)
    (hY : ∀ (w : World) (h : Heap), YP w h → (K w.params).In h)
    (F : ∀ (w : World) (mg : Str → Option Value) (fa : Addr) (h : Heap), (K w.params).In h → h.Ns mainGlobals mg → mg d.name = some (.ref fa) →
      ∃ fd : FuncData, (∀ (s : Shared) (u : Value), BindsTo s fd ⟨[u], []⟩ [(x, u)]) ∧
        ∀ base : Heap, (K w.params).In base → base.Ns mainGlobals mg → FnOk l.prog w (K w.params) mg base (CX w) k fa fd [x] (sp w))
    (hsp : ∀ (w : World) (H : Hp) (a : Addr) (ns : List Int), ns.length ≤ n → Only H → SqL (K w.params) H a (ns.map V.int) → sp w [.ref a] H (fun v _ => v = .bl true) fun _ _ _ => False)
    (hCX : ∀ (w : World) (H : Hp) (s : Shared) (e : Value) (s' : Shared), CX w [] H s (fun _ _ _ => False) e s' → False) :
    PySem.W.WalkO q loose XP YP l.row.toRowW d [] (fun f vs => PySem.call f vs) := by
  refine Att.attach_call hn hdf fun w s₀ s₁ mg mb fa o pm cd doc a vs ns G Y ho hd hcd hmg hobj hints hlen hg => ?_
  have KX := hY w _ Y
  obtain ⟨fd, hb, hF⟩ := F w mg fa _ KX G.T.g hmg
  exact law_call KX G.T.g G.T.b G.T.builtins G.T.nolimit hg hobj hints (Nat.le_trans hlen hn2) hr hF hb (fun H hO hS => hsp w H a ns hlen hO hS) fun H e s' => hCX w H s₁ e s'
/-- the same where the promise hangs on the written part alone: (sp := My.sp_law), no hole under a binder -/
theorem walk_ofK {l : PySem.W.OpenLaw} {n k : Nat} {q : Program} {loose : List Str} {XP : (Str → Option Value) → Heap → Prop} {YP : World → Heap → Prop} {d : DefRec} {K : Params → PySem.W.Frag} {CX : CXT} {sp : PySem.W.Frag → Sp} {x : Str}
    (hn : l.most = some n) (hn2 : n ≤ sizeLine) (hdf : d.params.defaults = []) (hr : Room k callerA)
    (hY : ∀ (w : World) (h : Heap), YP w h → (K w.params).In h)
    (F : ∀ (w : World) (mg : Str → Option Value) (fa : Addr) (h : Heap), (K w.params).In h → h.Ns mainGlobals mg → mg d.name = some (.ref fa) →
      ∃ fd : FuncData, (∀ (s : Shared) (u : Value), BindsTo s fd ⟨[u], []⟩ [(x, u)]) ∧
        ∀ base : Heap, (K w.params).In base → base.Ns mainGlobals mg → FnOk l.prog w (K w.params) mg base CX k fa fd [x] (sp (K w.params)))
    (hsp : ∀ (K : PySem.W.Frag) (H : Hp) (a : Addr) (ns : List Int), ns.length ≤ n → Only H → SqL K H a (ns.map V.int) → sp K [.ref a] H (fun v _ => v = .bl true) fun _ _ _ => False)
    (hCX : ∀ (H : Hp) (s : Shared) (e : Value) (s' : Shared), CX [] H s (fun _ _ _ => False) e s' → False) :
    PySem.W.WalkO q loose XP YP l.row.toRowW d [] (fun f vs => PySem.call f vs) :=
  walk_of (K := K) (CX := fun _ => CX) (sp := fun w => sp (K w.params)) hn hn2 hdf hr hY F (fun w H a ns h1 h2 h3 => hsp (K w.params) H a ns h1 h2 h3) fun _ H s e s' => hCX H s e s'
end L2

/- THE LAST THEOREM (shape; LID, My.* are yours):
   My.Adr: a structure of the addresses that your layer names (classes, functions); My.Txt K t: a structure (Prop) of the equations over K;
   My.txt_mk : {K} {implicit addresses ..} (e1 : nsIn K mainGlobals "law" = some (some (.ref f))) (e2 : K.lookup f = some ⟨oc, od, .func (fnOf "law" "law" params body scope dV kV doc pm an cdv ct), sl⟩) (e3 : codeIn K cdv "law" = true) .. : ∃ t, My.Txt K t

set_option maxRecDepth 100000 in
set_option maxHeartbeats 0 in
theorem PySem.Challenge.cw_LID_holds : PySem.Challenge.rw_LID.Holds := by
  w_on; o_law; k_head; (case hw => w_witness2)
  k_fill
  refine L2.walk_of (l := PySem.Challenge.rw_LID) (n := 63) (k := 40) (x := "script") (CX := fun w => ..) (sp := fun _ => My.sp_law) rfl (by decide) rfl ⟨rfl, by decide, by decide⟩ (fun w h Y => PySem.W.kIn_of Y) ?F ?S ?C
  case F =>
    intro w mg fa h KX G hmg
    have T : ∃ t, My.Txt (L2.KOf KX) t := by
      dsimp only [L2.KOf]                          -- K must stand as «<heap const> w.params» for k_is
      refine' My.txt_mk ?e1 ?e2 ?e3 ..
      (case e1 => PySem.W.k_is)                    -- in the order: a name -> its address -> its object -> its parts
      (case e2 => PySem.W.k_is)
      ..
    obtain ⟨t, T⟩ := T
    have e0 := hmg.symm.trans (PySem.W.mg_of KX G T.law)
    cases e0                                       -- fa is the law's own address
    exact ⟨_, fun s u => .of_eq rfl, fun base kb nb => My.law_fn T kb nb⟩     -- if «.of_eq rfl» comes too early: refine' ⟨_, ?b, fun base kb nb => My.law_fn T kb nb⟩; exact fun s u => .of_eq rfl
  case S => exact fun w H a ns hl hO hS => ..
  case C => exact ..
(the tactic k_is has no namespace: write k_is) -/

/-! SHORT WORDS over the layer: a def of the text, its body, what a loop and a test want. -/
namespace L2
open PySem PySem.Spec PyProof.Rows

/-! ### the text by places -/
/-- the j-th statement of a class's body -/
def inClass (s : Stmt) (j : Nat) : Stmt := match s with
  | .ClassDef _ _ _ body _ _ _ _ _ _ _ => body.getD j (.Pass ⟨0, 0, 0, 0⟩)
  | _ => .Pass ⟨0, 0, 0, 0⟩
def defArgs (s : Stmt) : Arguments := match s with
  | .FunctionDef _ a _ _ _ _ _ _ _ _ => a
  | _ => { posonlyargs := [], args := [], vararg := none, kwonlyargs := [], kw_defaults := [], kwarg := none, defaults := [] }
def defBody (s : Stmt) : List Stmt := match s with
  | .FunctionDef _ _ b _ _ _ _ _ _ _ => b
  | _ => []
def defScope (s : Stmt) : Scope := match s with
  | .FunctionDef _ _ _ _ _ _ sc _ _ _ => sc
  | _ => { kind := .function, names := [], isGenerator := false, isCoroutine := false }

/-! ### no exception leaves a def -/
abbrev CX0 : CXT := fun _ _ _ _ _ _ => False
abbrev E0 : XK := fun _ _ _ => False
theorem pass0 {X : Cx} : Passes CX0 X E0 := fun _ _ _ _ _ _ _ h => h.elim

/-! ### a def (or method) of the text as it stands behind the top -/
structure Fun (K : PySem.W.Frag) (x qual : Str) (st : Stmt) (f : Addr) (fd : FuncData) : Prop where
  ex : ∃ (oc : Value) (od : Option Addr) (kV doc pm : Value) (an : Option Addr) (cdv ct : Value) (osl : Array (Option Value)),
    fd = PySem.W.fnOf x qual (defArgs st) (defBody st) (defScope st) .none kV doc pm an cdv ct ∧ K.lookup f = some ⟨oc, od, .func fd, osl⟩ ∧ PySem.W.codeIn K cdv qual = true
  kp : PySem.W.keepIn K (.ref f) = true
section
variable {P : Program} {w : World} {K : PySem.W.Frag} {mg : Str → Option Value} {base : Heap}
/-- THE RULE for a def: its body as a term of rules, and the reading of that term -/
theorem Fun.ok {x qual : Str} {st : Stmt} {f : Addr} {fd : FuncData} {N ps : List Str} {k : Nat} {sp : Sp} (F : Fun K x qual st f fd) (S : FnScope N ps (defScope st)) (len : ∀ vs H Q E, sp vs H Q E → vs.length = ps.length)
    (hbody : ∀ (cdv : Value) (A : Around) (outer : List Env) (s : Shared) (H : Hp) (vs : List V) (Q : VK) (E : XK), Room k (A.deeper (envOfC qual (defScope st) s.heap.objs.size f cdv)) → sp vs H Q E →
      ∃ t, PSs (cxOf CX0 P w K mg base N qual (defScope st) f cdv A outer s H E).nox (defBody st) t ∧ t { nx := fun _ H' => Q .non H', rt := Q } (start N vs) H) : FnOk P w K mg base CX0 (k + 1) f fd ps sp := by
  obtain ⟨oc, od, kV, doc, pm, an, cdv, ct, osl, rfl, lk, hcd⟩ := F.ex
  refine fn_of lk hcd S len fun A outer s H vs Q E hr hsp => ?_
  obtain ⟨t, h, q⟩ := hbody cdv A outer s H vs Q E hr hsp
  exact ⟨t, h.nox, q⟩
/-- how its arguments bind (no defaults): h is «fun _ _ _ _ _ _ us hl => match us, hl with | [_, _], _ => rfl», one _ a parameter -/
theorem Fun.binds {x qual : Str} {st : Stmt} {f : Addr} {fd : FuncData} {ps : List Str} (F : Fun K x qual st f fd)
    (h : ∀ (kV doc pm : Value) (an : Option Addr) (cdv ct : Value) (us : List Value), us.length = ps.length → bindArgs (PySem.W.fnOf x qual (defArgs st) (defBody st) (defScope st) .none kV doc pm an cdv ct) ⟨us, []⟩ = pure (ps.zip us)) : Binds K fd ps [] := by
  obtain ⟨oc, od, kV, doc, pm, an, cdv, ct, osl, rfl, lk, hcd⟩ := F.ex
  exact .all (h kV doc pm an cdv ct)
theorem fun_mk {x qual : Str} {st : Stmt} {f : Addr} {oc : Value} {od an : Option Addr} {osl : Array (Option Value)} {kV doc pm cdv ct : Value} (l : K.lookup f = some ⟨oc, od, .func (PySem.W.fnOf x qual (defArgs st) (defBody st) (defScope st) .none kV doc pm an cdv ct), osl⟩)
    (c : PySem.W.codeIn K cdv qual = true) (k : PySem.W.keepIn K (.ref f) = true) : Fun K x qual st f (PySem.W.fnOf x qual (defArgs st) (defBody st) (defScope st) .none kV doc pm an cdv ct) := ⟨⟨oc, od, kV, doc, pm, an, cdv, ct, osl, rfl, l, c⟩, k⟩
end
theorem small1000 {n : Nat} (h : n ≤ 1000) : n < sizeLine := Nat.lt_of_le_of_lt h (by decide)

/-! ### expressions in short: the name that stands in the i-th slot -/
section
variable {X : Cx}
theorem pv (i : Nat) {x : Str} {pos : Pos} (hN : X.N[i]? = some x := by rfl) (hv : Vis X.env.scope x := by first | exact Or.inl rfl | exact Or.inr (Or.inl rfl) | exact Or.inr (Or.inr rfl)) (hd : (x == ("__debug__" : Str)) = false := by decide)
    (hcd : (x == ("__classdict__" : Str)) = false := by decide) : PE X (.Name x pos) (tVar i) := pe_var hN hv hd hcd
end

/-! ### tests -/
theorem iteF {A B : Prop} (h : B) : if false = true then A else B := by
  rw [if_neg Bool.false_ne_true]
  exact h
theorem iteT {A B : Prop} (h : A) : if true = true then A else B := by
  rw [if_pos rfl]
  exact h
theorem ite2 {c A B : Prop} [Decidable c] (h1 : c → A) (h2 : ¬ c → B) : if c then A else B := by
  by_cases h : c
  · rw [if_pos h]
    exact h1 h
  · rw [if_neg h]
    exact h2 h
theorem iteNS {c A B : Prop} [Decidable c] (hc : c) (h : B) : if (!decide c) = true then A else B := by
  rw [decide_eq_true hc]
  exact iteF h

/-! ### heaps -/
/-- all that was tracked is as it was -/
def Same (H H' : Hp) : Prop := ∀ b o, H b = some o → H' b = some o
theorem Same.refl (H : Hp) : Same H H := fun _ _ h => h
theorem Same.trans {H H1 H2 : Hp} (a : Same H H1) (b : Same H1 H2) : Same H H2 := fun c o h => b c o (a c o h)
theorem Same.free {H H' : Hp} (e : Same H H') {l : Addr} (h : H' l = Option.none) : H l = Option.none := by
  cases q : H l with
  | none => rfl
  | some o =>
    rw [e l o q] at h
    cases h
theorem Same.seq {K : PySem.W.Frag} {H H' : Hp} {a : Addr} {xs : List V} (e : Same H H') (h : SqL K H a xs) : SqL K H' a xs := by
  rcases h with (h | ⟨o, h⟩) | h
  · exact .inl (.inl (e _ _ h))
  · exact .inl (.inr ⟨o, e _ _ h⟩)
  · exact .inr h

end L2
set_option maxHeartbeats 4000000
namespace SW
/-- the greatest common divisor, as an int -/
def gcdI (a b : Int) : Int := (Int.gcd a b : Int)
theorem gcdI_pos {a b : Int} (h : 0 < b) : 0 < gcdI a b := by
  have := Int.gcd_pos_of_ne_zero_right a (by omega : b ≠ 0)
  unfold gcdI; omega
theorem gcdI_zero {a : Int} (h : 0 ≤ a) : gcdI a 0 = a := by
  unfold gcdI; rw [Int.gcd_zero_right]; omega
theorem gcdI_step {a b : Int} : gcdI b (a % b) = gcdI a b := by
  unfold gcdI
  rw [Int.emod_def, Int.gcd_sub_right_right_of_dvd a (Int.dvd_mul_right b _), Int.gcd_comm]
theorem gcdI_dvd_left (a b : Int) : gcdI a b ∣ a := Int.gcd_dvd_left ..
theorem gcdI_dvd_right (a b : Int) : gcdI a b ∣ b := Int.gcd_dvd_right ..
theorem gcdI_le {a b : Int} (hb : 0 < b) : gcdI a b ≤ b := Int.le_of_dvd hb (gcdI_dvd_right a b)
/-- the least numbers of a by b -/
def low (a b : Int) : Int × Int := (a / gcdI a b, b / gcdI a b)
structure Low (a b x y : Int) : Prop where
  x0 : 0 ≤ x
  y0 : 0 < y
  one : gcdI x y = 1
  eq : x * b = y * a
  lex : x ≤ a
  ley : y ≤ b
theorem low_ok {a b : Int} (ha : 0 ≤ a) (hb : 0 < b) : Low a b (a / gcdI a b) (b / gcdI a b) := by
  have hg := gcdI_pos (a := a) hb
  obtain ⟨x, hx⟩ := gcdI_dvd_left a b
  obtain ⟨y, hy⟩ := gcdI_dvd_right a b
  have ex : a / gcdI a b = x := by
    conv => lhs; arg 1; rw [hx]
    exact Int.mul_ediv_cancel_left _ (by omega)
  have ey : b / gcdI a b = y := by
    conv => lhs; arg 1; rw [hy]
    exact Int.mul_ediv_cancel_left _ (by omega)
  have one : gcdI (a / gcdI a b) (b / gcdI a b) = 1 := by
    unfold gcdI
    rw [Int.gcd_ediv (Int.gcd_dvd_left ..) (Int.gcd_dvd_right ..), Int.natAbs_natCast]
    have : 0 < Int.gcd a b := by unfold gcdI at hg; omega
    rw [Nat.div_self this]; rfl
  rw [ex, ey] at one ⊢
  have hy0 : 0 < y := Int.pos_of_mul_pos_right (by rw [← hy]; exact hb) hg
  have hx0 : 0 ≤ x := by
    rcases Int.lt_or_le x 0 with h | h
    · have : gcdI a b * x < gcdI a b * 0 := Int.mul_lt_mul_of_pos_left h hg
      rw [← hx, Int.mul_zero] at this
      omega
    · exact h
  refine ⟨hx0, hy0, one, ?_, ?_, ?_⟩
  · grind
  · have h1 : 1 * x ≤ gcdI a b * x := Int.mul_le_mul_of_nonneg_right (by omega) hx0
    omega
  · have h1 : 1 * y ≤ gcdI a b * y := Int.mul_le_mul_of_nonneg_right (by omega) (by omega)
    omega
/-- bounds of a product -/
theorem mul_bd {a b m n : Int} (ha : 0 ≤ a) (ha' : a ≤ m) (hb : 0 ≤ b) (hb' : b ≤ n) : 0 ≤ a * b ∧ a * b ≤ m * n :=
  ⟨Int.mul_nonneg ha hb, Int.mul_le_mul ha' hb' hb (by omega)⟩
end SW
namespace SW
end SW
/-! MORE RULES over the hand layer (own work): numbers of any size, isinstance, == of data, places -/
namespace L2
open PySem PySem.Spec PyProof.Rows

/-! ### numbers that fit -/
def Fits (i : Int) : Prop := i.natAbs < 2 ^ 8192
theorem Fits.log {i : Int} (h : Fits i) : i.natAbs.log2 < 8192 := by
  by_cases h0 : i.natAbs = 0
  · rw [h0]; exact (by decide : Nat.log2 0 < 8192)
  · exact (Nat.log2_lt h0).mpr h
theorem Fits.bits {i : Int} (h : Fits i) : Builtin.Int.intBits i ≤ 2 ^ 20 := by
  have h1 := h.log
  have h2 : (8193 : Nat) ≤ 2 ^ 20 := by decide
  unfold Builtin.Int.intBits
  split
  · exact Nat.zero_le _
  · omega
theorem pow100 : (10 ^ 100 : Nat) ≤ 2 ^ 8192 := Nat.le_trans (by decide +kernel : (10 ^ 100 : Nat) ≤ 2 ^ 340) (Nat.pow_le_pow_right (by decide) (by decide))
theorem fits_of {i : Int} (h1 : -(10 ^ 100) < i) (h2 : i < 10 ^ 100) : Fits i := by
  have h3 : i.natAbs < 10 ^ 100 := by omega
  exact Nat.lt_of_lt_of_le h3 pow100
def CMulF (i j : Int) : Prop := CMul i j ∨ (Fits i ∧ Fits j)
def CDivF (_ j : Int) : Prop := 0 < j ∧ Fits j
theorem CMulF.ok {i j : Int} (h : CMulF i j) : IntMulOk i j := by
  rcases h with h | ⟨h1, h2⟩
  · exact h.ok
  · exact .of_bits h1.bits h2.bits
section
variable {X : Cx}
theorem op_mulF : OpR X (binaryOp .Mult) (rI CMulF fun i j => .int (i * j)) := opI fun _ _ _ _ _ _ _ hc q => mul_int q hc.ok
theorem op_fdivF : OpR X (binaryOp .FloorDiv) (rI CDivF fun i j => .int (i / j)) := opI fun i j _ _ _ _ _ hc q => by
  have h1 : (0 : Int) < j := hc.1
  have h2 : j.natAbs.log2 < 9000 := by have := hc.2.log; omega
  refine floordiv_int (by omega) ?_ (.inl (PyProof.noPylong_of_log2 h2))
  rw [Int.fdiv_eq_ediv_of_nonneg i (by omega)]
  exact q

/-! ### is True, is not False -/
/-! ### isinstance -/
theorem call_isT {n : String} : CallR X (.builtin "isinstance") (fun xs H Q => ∃ x t b, xs = [x, .ty n] ∧ TyOf X.K H x t ∧ PySem.W.kitOne X.K t (.type n) = some b ∧ Q (.bl b) H) := by
  intro pins s σ H xs us Q I r h
  obtain ⟨x, t, b, rfl, ty, e, q⟩ := h
  obtain ⟨u, w', rfl, rx, ry⟩ := vals2 r
  cases ry
  exact isinst_ok I rx ty e fun tk => ⟨.bl b, H, I.tok tk, rfl, q⟩
theorem pe_isinstT {e : Expr} {te : TE} {T : Str} {n : String} {p p2 pos : Pos} (hg : Gl X "isinstance") (hm : X.mg "isinstance" = none) (hgT : Gl X T) (hmT : X.mg T = none) (hvT : bootBuiltins T = some (.type n)) (he : PE X e te)
    (hn : T ≠ "__name__" := by decide) (hd : (T == ("__debug__" : Str)) = false := by decide)
    (s1 : starEach [e, .Name T p2] X.env = (false, eval e X.env) :: starEach [.Name T p2] X.env := by rfl) (hpl : (backTo pos (starEach [.Name T p2] X.env)).any (·.1) = false := by rfl) :
    PE X (.Call (.Name "isinstance" p) [e, .Name T p2] [] pos) (tCB (fun xs H Q => ∃ x t b, xs = [x, .ty n] ∧ TyOf X.K H x t ∧ PySem.W.kitOne X.K t (.type n) = some b ∧ Q (.bl b) H) (tCons te (tCons (tC (.ty n)) tNil))) :=
  pe_callB call_isT hg hm boot_isinstance (pa_cons he (pa_cons (pe_bltn hgT hmT hvT rfl hn hd) pa_nil) s1) (by decide) (by decide) s1 hpl
end
theorem kit_tt (K : PySem.W.Frag) {S T : String} {b : Bool} (h1 : (Value.type S == Value.type T) = false) (h2 : PySem.W.kitMeta T = true) (h3 : (PySem.fastBuiltinMro S).map (·.contains (Value.type T)) = some b) :
    PySem.W.kitOne K (.type S) (.type T) = some b := by
  unfold PySem.W.kitOne
  rw [if_neg (by rw [h1]; exact Bool.false_ne_true)]
  show (if PySem.W.kitMeta T = true then PySem.W.subIn K (.type S) (.type T) else none) = some b
  rw [if_pos h2]
  exact h3
theorem kit_same (K : PySem.W.Frag) (t : Value) : PySem.W.kitOne K t t = some true := by
  unfold PySem.W.kitOne
  rw [if_pos (beq_self_eq_true t)]
theorem kit_int_bool (K : PySem.W.Frag) : PySem.W.kitOne K (.type "int") (.type "bool") = some false := kit_tt K (by decide +kernel) (by decide +kernel) (by decide +kernel)
theorem kit_int_int (K : PySem.W.Frag) : PySem.W.kitOne K (.type "int") (.type "int") = some true := kit_same K _
theorem kit_bool_bool (K : PySem.W.Frag) : PySem.W.kitOne K (.type "bool") (.type "bool") = some true := kit_same K _
theorem kit_tup_tup (K : PySem.W.Frag) : PySem.W.kitOne K (.type "tuple") (.type "tuple") = some true := kit_same K _
theorem kit_list_list (K : PySem.W.Frag) : PySem.W.kitOne K (.type "list") (.type "list") = some true := kit_same K _

/-! ### places of a list or a tuple -/
def Sq (K : PySem.W.Frag) (H : Hp) (a : Addr) (xs : List V) : Prop := SqL K H a xs ∨ SqT K H a xs
def rAt (K : PySem.W.Frag) : R2 := fun x y H Q => ∃ p xs i v, x = .ref p ∧ y = .int i ∧ Sq K H p xs ∧ atI xs i = some v ∧ Q v H
section
variable {X : Cx}
theorem ix_any : IxR X (rAt X.K) := by
  intro value slice pins s σ H x y v u Q I rx ry h hs
  obtain ⟨p, xs, i, z, e1, e2, hq | hq, he, q⟩ := h
  · exact ix_list value slice pins s σ H x y v u Q I rx ry ⟨p, xs, i, z, e1, e2, hq, he, q⟩ hs
  · exact ix_tup value slice pins s σ H x y v u Q I rx ry ⟨p, xs, i, z, e1, e2, hq, he, q⟩ hs
end
theorem atI_of {α : Type} {xs : List α} {i : Int} {v : α} (h0 : 0 ≤ i) (h : xs[i.toNat]? = some v) : atI xs i = some v := by
  obtain ⟨n, rfl⟩ := Int.eq_ofNat_of_zero_le h0
  exact atI_nat (by simpa using h)
theorem Same.tup {K : PySem.W.Frag} {H H' : Hp} {a : Addr} {xs : List V} (e : Same H H') (h : SqT K H a xs) : SqT K H' a xs := by
  rcases h with (h | ⟨o, h⟩) | h
  · exact .inl (.inl (e _ _ h))
  · exact .inl (.inr ⟨o, e _ _ h⟩)
  · exact .inr h
theorem Same.sq {K : PySem.W.Frag} {H H' : Hp} {a : Addr} {xs : List V} (e : Same H H') (h : Sq K H a xs) : Sq K H' a xs := h.elim (fun h => .inl (e.seq h)) fun h => .inr (e.tup h)
/-- a new object: all else stays -/
theorem same_new {H : Hp} {p : Addr} (h : H p = none) (o : HO) : Same H (upd H p o) := fun b u e => by
  rw [upd_ne (ne_of_none e h)]; exact e

/-! ### == of data -/
mutual
def Rep (K : PySem.W.Frag) (H : Hp) : PyData → V → Prop
  | .none, v => v = .non
  | .bool b, v => v = .bl b
  | .int i, v => v = .int i
  | .str x, v => v = .str x
  | .list ds, v => ∃ p xs, v = .ref p ∧ SqL K H p xs ∧ RepAll K H ds xs
  | .tuple ds, v => ∃ p xs, v = .ref p ∧ SqT K H p xs ∧ RepAll K H ds xs
  | .dict _, _ => False
def RepAll (K : PySem.W.Frag) (H : Hp) : List PyData → List V → Prop
  | [], xs => xs = []
  | d :: ds, xs => ∃ x r, xs = x :: r ∧ Rep K H d x ∧ RepAll K H ds r
end
section
variable {X : Cx} {pins : List (Addr × Obj)} {σ : St} {H : Hp} {s : Shared}
mutual
theorem rep_reads (I : Inv X pins σ H s) : ∀ (d : PyData) (x : V) (u : Value), Rep X.K H d x → RelV x u → ∃ as, Reads s.heap u d as
  | .none, x, u, h, r => by
    rw [Rep] at h; subst h; cases r; exact ⟨_, .none⟩
  | .bool b, x, u, h, r => by
    rw [Rep] at h; subst h; cases r; exact ⟨_, .bool b⟩
  | .int i, x, u, h, r => by
    rw [Rep] at h; subst h; obtain ⟨t, rfl⟩ := r; exact ⟨_, .int i t⟩
  | .str i, x, u, h, r => by
    rw [Rep] at h; subst h; obtain ⟨t, rfl⟩ := r; exact ⟨_, .str i t⟩
  | .list ds, x, u, h, r => by
    rw [Rep] at h
    obtain ⟨p, xs, rfl, hq, ha⟩ := h
    cases r
    obtain ⟨its, rv, ⟨o, n, e, c, _, dd⟩, _⟩ := I.list hq
    obtain ⟨as, ra⟩ := repAll_reads I ds xs its ha rv
    exact ⟨_, .list e c dd (by simpa using ra)⟩
  | .tuple ds, x, u, h, r => by
    rw [Rep] at h
    obtain ⟨p, xs, rfl, hq, ha⟩ := h
    cases r
    obtain ⟨its, rv, ⟨o, e, c, n, dd⟩, _⟩ := I.tuple hq
    obtain ⟨as, ra⟩ := repAll_reads I ds xs its ha rv
    exact ⟨_, .tuple e c dd (by simpa using ra)⟩
  | .dict kvs, x, u, h, r => by
    rw [Rep] at h; exact h.elim
theorem repAll_reads (I : Inv X pins σ H s) : ∀ (ds : List PyData) (xs : List V) (us : List Value), RepAll X.K H ds xs → Vals xs us → ∃ as, ReadsAll s.heap us ds as
  | [], xs, us, h, r => by
    rw [RepAll] at h; subst h; cases r; exact ⟨_, .nil⟩
  | d :: ds, xs, us, h, r => by
    rw [RepAll] at h
    obtain ⟨x, t, rfl, h1, h2⟩ := h
    cases r with
    | cons r1 r2 =>
      obtain ⟨as, ra⟩ := rep_reads I d x _ h1 r1
      obtain ⟨bs, rb⟩ := repAll_reads I ds t _ h2 r2
      exact ⟨_, .cons ra rb⟩
end
/-- == of two values by their data -/
def rEqD (K : PySem.W.Frag) : R2 := fun x y H Q => ∃ d e, Rep K H d x ∧ Rep K H e y ∧ d.canLay0 = true ∧ e.canLay0 = true ∧ d.depth ≤ 64 ∧ Q (.bl (PyData.eqv d e)) H
def rNeD (K : PySem.W.Frag) : R2 := fun x y H Q => ∃ d e, Rep K H d x ∧ Rep K H e y ∧ d.canLay0 = true ∧ e.canLay0 = true ∧ d.depth ≤ 64 ∧ Q (.bl (!PyData.eqv d e)) H
theorem op_eqD (hu : X.A.units + 64 < cLine) : OpR X (compareOp .Eq) (rEqD X.K) := by
  intro pins s σ H x y v u Q I rx ry h
  obtain ⟨d, e, h1, h2, c1, c2, dp, q⟩ := h
  obtain ⟨as, ra⟩ := rep_reads I d x v h1 rx
  obtain ⟨bs, rb⟩ := rep_reads I e y u h2 ry
  exact SeqAt.compareEq_reads ra rb c1 c2 (by omega) (fin_bl I q rfl)
theorem op_neD (hu : X.A.units + 64 < cLine) : OpR X (compareOp .NotEq) (rNeD X.K) := by
  intro pins s σ H x y v u Q I rx ry h
  obtain ⟨d, e, h1, h2, c1, c2, dp, q⟩ := h
  obtain ⟨as, ra⟩ := rep_reads I d x v h1 rx
  obtain ⟨bs, rb⟩ := rep_reads I e y u h2 ry
  exact SeqAt.compareNe_reads ra rb c1 c2 (by omega) (fin_bl I q rfl)
end
end L2

/-! ### where ways meet -/
namespace L2
open PySem PySem.Spec PyProof.Rows
section
variable {X : Cx} {st : Stmt} {e : Expr}
def tMeet (t : TS) : TS := fun D σ H => ∃ M : St → Hp → Prop, t { D with nx := M } σ H ∧ ∀ σ' H', M σ' H' → D.nx σ' H'
theorem ps_meet {t : TS} (h : PS X st t) : PS X st (tMeet t) := by
  intro pins s σ H D I hw
  obtain ⟨M, hm, k⟩ := hw
  refine thn (h pins s σ H { D with nx := M } I hm) fun f s1 q => ?_
  cases f with
  | next => obtain ⟨σ', H', I', q⟩ := q; exact ⟨σ', H', I', k σ' H' q⟩
  | ret v => exact q
  | brk => exact q
  | cont => exact q
def tMeetE (t : TE) : TE := fun σ H Q => ∃ M : VK, t σ H M ∧ ∀ v H', M v H' → Q v H'
def tMeetT (t : TT) : TT := fun σ H Q => ∃ M : Bool → Hp → Prop, t σ H M ∧ ∀ b H', M b H' → Q b H'
end
end L2
/-! MORE RULES (own work): chains of three, count -/
namespace L2
open PySem PySem.Spec PyProof.Rows
section
variable {X : Cx} {a b c d : Expr} {ta tb tc td : TE} {pos : Pos}
/-- a op1 b op2 c op3 d -/
def tChain3 (r r' r'' : R2) (ta tb tc td : TE) : TE := fun σ H Q => ta σ H fun x H1 => tb σ H1 fun y H2 => r x y H2 fun z H3 => ∃ k, z = .bl k ∧
  (if k = true then tc σ H3 fun u H4 => r' y u H4 fun z2 H5 => ∃ k2, z2 = .bl k2 ∧ (if k2 = true then td σ H5 fun v H6 => r'' u v H6 Q else Q (.bl false) H5) else Q (.bl false) H3)
theorem pt_chain3 {o1 o2 o3 : CmpOp} {r r' r'' : R2} (h1 : OpR X (compareOp o1) r) (h2 : OpR X (compareOp o2) r') (h3 : OpR X (compareOp o3) r'') (ha : PE X a ta) (hb : PE X b tb) (hc : PE X c tc) (hd : PE X d td)
    (hm : lastMarks [o1, o2, o3] [b, c, d] = false := by with_unfolding_all rfl) : PT X (.Compare a [o1, o2, o3] [b, c, d] pos) (tTest (tChain3 r r' r'' ta tb tc td)) := by
  intro pins s σ H Q I h
  refine isTrue_chain (thn (ha pins s σ H _ I h) fun v s1 ⟨x, H1, I1, r1, q1⟩ => test_link (thn (hb pins s1 σ H1 _ I1 q1) fun u s2 ⟨y, H2, I2, r2, q2⟩ => thn (h1 pins s2 σ H2 x y v u _ I2 r1 r2 q2) fun w1 s3 ⟨z, H3, I3, r3, k, e, q3⟩ => ?_)) hm
  subst e
  cases r3
  refine wpAny_truthy_bool ?_
  cases k with
  | false =>
    obtain ⟨k', e', q'⟩ := q3
    cases e'
    exact ite_ff ⟨H3, I3, q'⟩
  | true =>
    refine ite_tt (test_link (thn (hc pins s3 σ H3 _ I3 q3) fun u4 s4 ⟨z4, H4, I4, r4, q4⟩ => thn (h2 pins s4 σ H4 y z4 u u4 _ I4 r2 r4 q4) fun w5 s5 ⟨z5, H5, I5, r5, k5, e5, q5⟩ => ?_))
    subst e5
    cases r5
    refine wpAny_truthy_bool ?_
    cases k5 with
    | false =>
      obtain ⟨k', e', q'⟩ := q5
      cases e'
      exact ite_ff ⟨H5, I5, q'⟩
    | true =>
      refine ite_tt (test_last (thn (hd pins s5 σ H5 _ I5 q5) fun u6 s6 ⟨z6, H6, I6, r6, q6⟩ => thn (h3 pins s6 σ H6 z4 z6 u4 u6 _ I6 r4 r6 q6) fun w7 s7 ⟨z7, H7, I7, r7, k7, e7, q7⟩ => ?_))
      subst e7
      cases r7
      exact wpAny_truthy_bool ⟨H7, I7, q7⟩
/-- xs.count(y), flat items -/
def rCount (K : PySem.W.Frag) : V → List V → Hp → VK → Prop := fun x vs H Q => ∃ l xs y, x = .ref l ∧ vs = [y] ∧ SqL K H l xs ∧ flatV y = true ∧ xs.all flatV = true ∧ Q (.int (xs.countP fun z => eqV z y : Nat)) H
end
end L2
namespace L2
open PySem PySem.Spec PyProof.Rows
/-! a tuple or list of written whole numbers, at once -/
inductive Ints : List Expr → List Int → Prop where
  | nil : Ints [] []
  | cons {i : Int} {j pos} {es : List Expr} {is : List Int} : Ints es is → Ints (.Constant (.int i) j pos :: es) (i :: is)
def tInts (is : List Int) : TA := fun _ H Q => Q (is.map V.int) H
theorem pa_ints {X : Cx} {es : List Expr} {is : List Int} (h : Ints es is) : PA X es (tInts is) := by
  induction h with
  | nil => exact pa_nil
  | cons _ ih => exact pa_cons pe_int ih rfl
end L2
namespace L2
open PySem PySem.Spec PyProof.Rows
theorem ps_setInts {X : Cx} {i : Nat} {x : Str} {es : List Expr} {is : List Int} {x1} {p2 pos pos' : Pos} (hN : X.N.Nodup) (hi : X.N[i]? = some x) (hx : Loc X.env.scope x) (h : Ints es is) (hf : X.fn x = true ∨ X.env.scope.names.lookup x = some .local) :
    PS X (.Assign [.Name x pos'] (.Tuple es x1 p2) pos) (tAsg (tTup (tInts is)) (gName i)) := ps_set hN hi hx (pe_tup (pa_ints h)) rfl hf
end L2
namespace L2
open PySem PySem.Spec PyProof.Rows
/-! a new tuple or list, the heap behind it as a letter -/
structure New (H H' : Hp) (p : Addr) (o : HO) : Prop where
  same : Same H H'
  gone : H p = none
  at_ : H' p = some o
  back : ∀ q, q ≠ p → H' q = H q
theorem New.of {H : Hp} {p : Addr} {o : HO} (h : H p = none) : New H (upd H p o) p o := ⟨same_new h o, h, upd_same, fun _ n => upd_ne n⟩
section
variable {X : Cx} {es : List Expr} {t : TA} {pos : Pos}
def tTupA (t : TA) : TE := fun σ H Q => t σ H fun xs H1 => xs.length ≤ sizeLine ∧ ∀ p H', New H1 H' p (.tup xs) → Q (.ref p) H'
def tLstA (t : TA) : TE := fun σ H Q => t σ H fun xs H1 => xs.length ≤ sizeLine ∧ ∀ p H', New H1 H' p (.lst xs) → Q (.ref p) H'
theorem pe_tupA {x1} (h : PA X es t) : PE X (.Tuple es x1 pos) (tTupA t) := by
  intro pins s σ H Q I hq
  refine wpAny_Tuple_spliced (thn (h pos pins s σ H _ I hq) fun us s1 ⟨xs, H1, I1, r, z, q⟩ => ⟨by rw [← r.length]; exact z, ?_⟩)
  have hf : H1 s1.heap.objs.size = none := I1.hok.fresh (Nat.le_refl _)
  refine ⟨.ref s1.heap.objs.size, upd H1 s1.heap.objs.size (.tup xs), I1.laid (t' := s1.toks) (fun b u e => Heap.get?_push_of_some _ e) (Nat.le_refl _) ?_, rfl, q _ _ (.of hf)⟩
  exact ⟨z, us, r, ⟨_, Heap.get?_push_size _ rfl, rfl, _, rfl⟩⟩
theorem pe_lstA (h : PA X es t) : PE X (.List es pos) (tLstA t) := by
  intro pins s σ H Q I hq
  refine wpAny_List_spliced (thn (h pos pins s σ H _ I hq) fun us s1 ⟨xs, H1, I1, r, z, q⟩ => ⟨by rw [← r.length]; exact z, ?_⟩)
  have hf : H1 s1.heap.objs.size = none := I1.hok.fresh (Nat.le_refl _)
  refine ⟨.ref s1.heap.objs.size, upd H1 s1.heap.objs.size (.lst xs), I1.laid (t' := s1.toks) (fun b u e => Heap.get?_push_of_some _ e) (Nat.le_refl _) ?_, rfl, q _ _ (.of hf)⟩
  exact ⟨z, us, 0, r, Heap.get?_push_size _ rfl⟩
end
end L2
/-! AN ERROR'S FLIGHT with its own dict kept in view (own work) -/
namespace L2
open PySem PySem.Spec PyProof.Rows

theorem dict_mapFields (o : Obj) (f : Array Value → Array Value) : (Obj.mapFields f o).dict = o.dict := by
  obtain ⟨c, d, dt, sl⟩ := o
  cases dt <;> rfl
/-- the error at e: its class, its dict, where it flies (fl; none: nowhere yet) -/
def ExcAt (h base : Heap) (e : Addr) (cls : Value) (dd : Option Addr) (fl : Option Value) : Prop :=
  ∃ oe vs, h.get? e = some oe ∧ oe.cls = cls ∧ oe.dict = dd ∧ oe.data = .fields vs ∧ 1 < vs.size ∧
    match fl with
    | none => vs[1]? = some .none
    | some f => ∃ T oT ts, vs[1]? = some (.ref T) ∧ base.get? T = none ∧ T ≠ e ∧ h.get? T = some oT ∧ oT.data = .fields ts ∧ ts[3]? = some f
/-- all that is no record stays, up to slots; base and the frames stand -/
structure Go (base : Heap) (l : List Env) (h h' : Heap) : Prop where
  st : base.StaysIn h'
  fr : h'.FunFrames base l
  up : h.UpToSlots h'
section
variable {M : Model} {A : Around} {E : Value → Shared → Prop} {s : Shared} {base : Heap} {env : Env} {outer l : List Env} {L e : Addr} {cls : Value} {dd : Option Addr} {Q : Unit → Shared → Prop}
theorem not_rec {h : Heap} {a b : Addr} {o u : Obj} {vs : Array Value} (ha : h.get? a = some o) (hd : o.data = .fields vs) (hb : h.get? b = some u) (nu : ∀ ws, u.data ≠ .fields ws) : b ≠ a := fun q => by
  subst q
  rw [ha] at hb
  cases hb
  exact nu vs hd
theorem entry_exc {oe : Obj} {vs : Array Value} {head : Value} {hadNext : Bool} (hfr : A.frames = some (env :: outer)) (hl : s.heap.FunFrames base (env :: outer)) (hf : env.frame = some L)
    (he : s.heap.get? e = some oe) (st : base.StaysIn s.heap) (hen : base.get? e = none) (hd : oe.data = .fields vs) (hz : 1 < vs.size)
    (k : ∀ h', Go base (env :: outer) s.heap h' → ExcAt h' base e oe.cls oe.dict (some (rawInt L)) → Q () { s with heap := h' }) :
    wpAny M A (do let a ← frameOf env; let pl ← entryPlaceOf L hadNext; let b ← EntryCells.newEntry head a .none (rawInt L) .none pl; setField (.ref e) 1 b) Q E s := by
  have ef : e ∉ (env :: outer).filterMap (·.frame) := fun z => by
    obtain ⟨_, u, hu, nu⟩ := hl.mem z
    exact not_rec he hd hu nu rfl
  refine wpAny_bind (wpAny_frameOf_fun hfr hl hf fun g1 sl1 => ?_)
  refine wpAny_bind (wpAny_entryPlaceOf fun pl hpl => ?_)
  unfold EntryCells.newEntry newFields
  refine wpAny_bind (wpAny_newObj_type ?_ (hpl.sizeOk5 _ _ _ _ _))
  have g1e : g1.get? e = some oe := (sl1.2.1 e ef).trans he
  have st1 : base.StaysIn g1 := fun b o z => (sl1.2.1 b fun q => by rw [(hl.mem q).1] at z; cases z).trans (st b o z)
  generalize hob : ({ cls := .type "traceback", dict := none, data := .fields ([head, .ref L, .none, rawInt L, .none] ++ (if pl.isEmpty then List.replicate 6 Value.none else pl)).toArray } : Obj) = ob
  have g2e := Heap.get?_push_of_some ob g1e
  refine wpAny_setField g2e hd hz ?_
  have ne : g1.objs.size ≠ e := Nat.ne_of_gt (Heap.lt_size g1e)
  have nd := Obj.data_mapFields hd (·.setIfInBounds 1 (Value.ref g1.objs.size))
  have g3e := Heap.get?_update_self (Obj.mapFields (·.setIfInBounds 1 (Value.ref g1.objs.size))) g2e (Obj.isFreed_of_fields nd)
  have g3T : ((g1.push ob).update e (Obj.mapFields (·.setIfInBounds 1 (Value.ref g1.objs.size)))).get? g1.objs.size = some ob := (Heap.get?_update_other _ _ (Ne.symm ne)).trans (Heap.get?_push_size g1 (by rw [← hob]; rfl))
  have stay : ∀ b o, b ≠ e → g1.get? b = some o → ((g1.push ob).update e (Obj.mapFields (·.setIfInBounds 1 (Value.ref g1.objs.size)))).get? b = some o := fun b o nb z => by
    rw [Heap.get?_update_other _ _ (Ne.symm nb)]
    exact Heap.get?_push_of_some _ z
  refine k _ ⟨fun b o z => stay b o (fun q => by rw [q, hen] at z; cases z) (st1 b o z), hl.of_keeps fun b o z nz => ?_, fun b o z nz => ?_⟩ ?_
  · obtain ⟨sl, q⟩ := sl1.2.2 b o z
    exact ⟨_, stay b _ (not_rec he hd z nz) q, rfl⟩
  · obtain ⟨sl, q⟩ := sl1.2.2 b o z
    exact ⟨sl, stay b _ (not_rec he hd z nz) q⟩
  · refine ⟨_, _, g3e, Obj.cls_mapFields _ _, dict_mapFields _ _, nd, by simp [hz], g1.objs.size, ob, _, by simp [hz], st1.fresh, ne, g3T, by rw [← hob], ?_⟩
    first | (simp; done) | (rcases hpl with rfl | ⟨_, _, _, _, _, _, _, rfl⟩ <;> simp)
theorem note_exc {fl : Option Value} (hfr : A.frames = some (env :: outer)) (hl : s.heap.FunFrames base (env :: outer)) (hf : env.frame = some L) (st : base.StaysIn s.heap) (hen : base.get? e = none)
    (x : ExcAt s.heap base e cls dd fl) (hfl : fl = none ∨ fl = some .none) (k : ∀ h', Go base (env :: outer) s.heap h' → ExcAt h' base e cls dd (some (rawInt L)) → Q () { s with heap := h' }) :
    wpAny M A (noteFrame (.ref e) env) Q E s := by
  obtain ⟨oe, vs, he, rfl, rfl, hd, hz, hx⟩ := x
  unfold noteFrame
  simp only [hf]
  rcases hfl with rfl | rfl
  · refine wpAny_bind (wpAny_field he hd hx ?_)
    rw [if_neg (by decide)]
    exact entry_exc hfr hl hf he st hen hd hz k
  · obtain ⟨T, oT, ts, h1, nT, ne, hT, dT, h3⟩ := hx
    refine wpAny_bind (wpAny_field he hd h1 ?_)
    rw [if_pos (show (Value.ref T != Value.none) = true by simp)]
    refine wpAny_bind (wpAny_field hT dT h3 ?_)
    rw [if_neg (show ¬ ((Value.none == rawInt L) = true) by simp [rawInt])]
    refine wpAny_bind (wpAny_setField hT dT (Array.getElem?_eq_some_iff.mp h3).1 ?_)
    have ot : ∀ b, b ≠ T → (s.heap.update T (Obj.mapFields (·.setIfInBounds 3 Value.none))).get? b = s.heap.get? b := fun b nb => Heap.get?_update_other _ _ (Ne.symm nb)
    refine entry_exc (s := { s with heap := s.heap.update T (Obj.mapFields (·.setIfInBounds 3 Value.none)) }) hfr (hl.of_keeps fun b o z nz => ⟨o, (ot b (not_rec hT dT z nz)).trans z, rfl⟩) hf ((ot e (Ne.symm ne)).trans he)
      (fun b o z => (ot b fun q => by rw [q, nT] at z; cases z).trans (st b o z)) hen hd hz fun h' g x' => k h' ⟨g.st, g.fr, fun b o z nz => g.up b o ((ot b (not_rec hT dT z nz)).trans z) nz⟩ x'
theorem flight_exc {f : Value} (hl : s.heap.FunFrames base l) (st : base.StaysIn s.heap) (x : ExcAt s.heap base e cls dd (some f))
    (k : ∀ h', Go base l s.heap h' → ExcAt h' base e cls dd (some .none) → Q () { s with heap := h' }) : wpAny M A (setFlight (.ref e) none) Q E s := by
  obtain ⟨oe, vs, he, rfl, rfl, hd, hz, T, oT, ts, h1, nT, ne, hT, dT, h3⟩ := x
  have z3 : 3 < ts.size := (Array.getElem?_eq_some_iff.mp h3).1
  unfold setFlight
  refine wpAny_bind (wpAny_field he hd h1 ?_)
  rw [if_pos (show (Value.ref T != Value.none) = true by simp)]
  refine wpAny_setField hT dT z3 ?_
  have ot : ∀ b, b ≠ T → (s.heap.update T (Obj.mapFields (·.setIfInBounds 3 ((none : Option Addr).elim Value.none fun f => rawInt f)))).get? b = s.heap.get? b := fun b nb => Heap.get?_update_other _ _ (Ne.symm nb)
  refine k _ ⟨fun b o z => (ot b fun q => by rw [q, nT] at z; cases z).trans (st b o z), hl.of_keeps fun b o z nz => ⟨o, (ot b (not_rec hT dT z nz)).trans z, rfl⟩, fun b o z nz => ⟨o.slots, (ot b (not_rec hT dT z nz)).trans z⟩⟩ ?_
  exact ⟨oe, vs, (ot e (Ne.symm ne)).trans he, rfl, rfl, hd, hz, T, _, _, h1, nT, ne, Heap.get?_update_self _ hT (Obj.isFreed_of_fields (Obj.data_mapFields dT _)), Obj.data_mapFields dT _, by simp [z3]⟩
theorem Go.trans {h1 h2 h3 : Heap} (a : Go base l h1 h2) (b : Go base l h2 h3) : Go base l h1 h3 := ⟨b.st, b.fr, a.up.trans b.up⟩
/-- an error leaves a frame -/
theorem leave_exc {fl : Option Value} (hfr : A.frames = some (env :: outer)) (hl : s.heap.FunFrames base (env :: outer)) (hf : env.frame = some L) (st : base.StaysIn s.heap) (hen : base.get? e = none)
    (x : ExcAt s.heap base e cls dd fl) (hfl : fl = none ∨ fl = some .none) (k : ∀ h', Go base (env :: outer) s.heap h' → ExcAt h' base e cls dd (some .none) → Q () { s with heap := h' }) :
    wpAny M A (leaving env (.ref e)) Q E s := by
  unfold leaving
  refine wpAny_bind (note_exc hfr hl hf st hen x hfl fun h1 g1 x1 => ?_)
  exact flight_exc (s := { s with heap := h1 }) g1.fr g1.st x1 fun h2 g2 x2 => k h2 (g1.trans g2) x2
end
end L2
/-! EXCEPTIONS over the hand layer (own work): raise of an own error class, its way through the frames, try with except .. as -/
namespace L2
open PySem PySem.Spec PyProof.Rows

/-- an error flies over the frames outer; B is the heap without the frames, as it stood when the error was raised -/
structure Fly (P : Program) (w : World) (outer : List Env) (H H' : Hp) (h h' : Heap) (e : Addr) (cls : Value) (dd : Option Addr) (B : Heap) : Prop where
  st : B.StaysIn h'
  en : B.get? e = none
  fr : h'.FunFrames B outer
  ex : ExcAt h' B e cls dd (some .none)
  hok : HOk P w H' B
  keep : ∀ b o, h.get? b = some o → H b = none → b ∉ frs outer → B.get? b = some o
  slot : ∀ b o, h.get? b = some o → H b = none → b ∈ frs outer → (∀ vs, o.data ≠ .fields vs) → ∃ sl, h'.get? b = some { o with slots := sl }
  free : ∀ b o, h.get? b = some o → H b = none → H' b = none
  there : ∀ b o, h.get? b = some o → b ∉ frs outer → ∃ o', B.get? b = some o'
  tups : ∀ b xs, H b = some (.tup xs) → H' b = some (.tup xs)
  frzs : ∀ b o u, H b = some (.frz o u) → H' b = some (.frz o u)
  tbls : ∀ b ps, H b = some (.tbl ps) → ∃ more, H' b = some (.tbl (ps ++ more))
/-- how an error lies behind a call -/
def CX1 (P : Program) (w : World) : CXT := fun outer H s E ev s' => ∃ (e : Addr) (cls : Value) (dd : Option Addr) (B : Heap) (H' : Hp), ev = .ref e ∧ s'.os = s.os ∧ AllBare s'.gens ∧ Fly P w outer H H' s.heap s'.heap e cls dd B ∧ E cls dd H'

/-- the frames that run hold no records -/
theorem frame_data {X : Cx} {pins : List (Addr × Obj)} {σ : St} {H : Hp} {s : Shared} (I : Inv X pins σ H s) {b : Addr} {o : Obj} (hb : b ∈ frs X.stack) (e : s.heap.get? b = some o) : ∀ vs, o.data ≠ .fields vs := by
  obtain ⟨_, o', e', d⟩ := I.stack.mem hb
  rw [e] at e'
  cases e'
  exact d
theorem frame_in {l : List Env} : ∀ env ∈ l, ∀ a, env.frame = some a → a ∈ frs l := fun env he a hf => List.mem_filterMap.mpr ⟨env, he, hf⟩

section
variable {X : Cx} {pins : List (Addr × Obj)} {σ : St} {H : Hp} {s : Shared}
/-- the heap without the frames that run -/
def noFr (X : Cx) (h : Heap) : Heap := PySem.W.hideAll h (frs X.stack)
theorem noFr_get {h : Heap} {b : Addr} {o : Obj} (e : h.get? b = some o) (n : b ∉ frs X.stack) : (noFr X h).get? b = some o := PySem.W.hideAll_get _ e n
theorem noFr_ok (I : Inv X pins σ H s) : HOk X.prog X.w H (noFr X s.heap) := fun a o e => by
  refine (I.hok a o e).stay (fun b u hb q => noFr_get q fun z => ?_) (fun _ q => q) fun _ _ q => q
  have n := I.stkFree b z
  rcases hb with rfl | hb
  · rw [e] at n; cases n
  · rw [hb] at n; cases n
theorem old_ne (I : Inv X pins σ H s) {b : Addr} {o : Obj} (e : X.s₀.heap.get? b = some o) : b ≠ X.env.locals := Nat.ne_of_lt (Nat.lt_of_lt_of_le (Heap.lt_size e) I.ok.above)
theorem old_frs (I : Inv X pins σ H s) {b : Addr} {o : Obj} (e : X.s₀.heap.get? b = some o) (n : b ∉ X.fs) : b ∉ frs X.stack := fun z => by
  rcases List.mem_cons.mp (I.stkSub b z) with q | q
  · exact old_ne I e q
  · exact n q
/-- an error is made in a def's body and leaves it -/
theorem raise_leaves (I : Inv X pins σ H s) (hX : X.stack = X.env :: X.outer) (hf : X.env.frame = some X.env.locals) (hex : X.ex = []) {h' : Heap} {e : Addr} {cls : Value} {dd : Option Addr} {E : XK} {N : Value → Shared → Prop}
    (kp : ∀ b o, s.heap.get? b = some o → h'.get? b = some o) (new : s.heap.get? e = none) (x : ExcAt h' (noFr X s.heap) e cls dd none) (q : E cls dd H) :
    wpAny (model X.prog X.w) X.A (leaving X.env (.ref e)) (fun _ s2 => CX1 X.prog X.w X.outer X.H₀ X.s₀ E (.ref e) s2) N { s with heap := h' } := by
  have nex : ∀ b : Addr, b ∉ X.ex := fun b z => by rw [hex] at z; cases z
  have en : (noFr X s.heap).get? e = none := by
    cases z : (noFr X s.heap).get? e with
    | none => rfl
    | some o => have z' := PySem.W.of_hideAll _ z; rw [new] at z'; cases z'
  have fr0 : s.heap.FunFrames (noFr X s.heap) (X.env :: X.outer) := by
    have z := PySem.W.funFrames_hide (as := frs X.stack) I.stack frame_in
    rw [hX] at z
    unfold noFr
    rw [hX]
    exact z
  refine leave_exc (s := { s with heap := h' }) (by rw [I.ok.frames, hX]) (fr0.of_keeps fun b o z _ => ⟨o, kp b o z, rfl⟩) hf (fun b o z => kp b o (PySem.W.of_hideAll _ z)) en x (.inl rfl) fun h2 g2 x2 => ?_
  refine ⟨e, cls, dd, noFr X s.heap, H, rfl, I.os, I.bare, ⟨g2.st, en, g2.fr.2.2, x2, noFr_ok I, fun b o z n nf => ?_, fun b o z n hb _ => ?_, fun b o z n => I.base.free b o z n (nex b), fun b o z nf => ?_, I.base.tups, I.base.frzs, I.base.tbls⟩, q⟩
  · exact noFr_get (I.base.keep b o z n nf (nex b)) (old_frs I z nf)
  · obtain ⟨sl, e1⟩ := I.base.slot b o z n hb (nex b)
    have hb' : b ∈ frs X.stack := by rw [hX]; unfold frs; rw [List.filterMap_cons, hf]; exact List.mem_cons_of_mem _ hb
    obtain ⟨sl2, e2⟩ := g2.up b _ (kp b _ e1) (frame_data I hb' e1)
    exact ⟨sl2, e2⟩
  · obtain ⟨o', e1⟩ := I.base.there b o z (nex b)
    exact ⟨o', noFr_get e1 (old_frs I z nf)⟩
end
end L2

namespace L2
open PySem PySem.Spec PyProof.Rows
section
variable {X : Cx} {CX : CXT} {k : Nat} {f C : Addr} {fd : FuncData} {ps : List Str} {sp : Sp} {dvs : List V} {ds : List Value} {E : XK} {x c m : Str} {p np cpos pos apos : Pos} {e : Expr} {es : List Expr} {te : TE} {t : TA}
/-! ### C.m(e, ..), m a plain def of the class at C -/
structure ClsFn (K : PySem.W.Frag) (C : Addr) (m : Str) (f : Addr) : Prop where
  ga : PySem.W.specialIn K (.ref C) "__getattribute__" = some (some (.builtin "type.__getattribute__"))
  rd : PySem.W.readsIn K C (.type "type") = true
  fn : PySem.W.findCls K (.ref C) (.type "type") m = some (.val (.ref f))
  kp : PySem.W.keepIn K (.ref f) = true
theorem pe_cls {pl : Sem Bool} (F : FnOk X.prog X.w X.K X.mg X.base CX k f fd ps sp) (hr : Room k X.A) (hg : Gl X c) (hm : X.mg c = some (.ref C)) (hc : ClsFn X.K C m f) (hb : Binds X.K fd ps ds) (hd : Vals dvs ds) (hx : Passes CX X E)
    (ha : PA X (e :: es) t) (hdb : (c == ("__debug__" : Str)) = false := by decide) (hst : starEach (e :: es) X.env = (false, eval e X.env) :: starEach es X.env := by rfl) (hpl : (backTo pos (starEach es X.env)).any (·.1) = false := by rfl)
    (ht : eval (.Call (.Attribute (.Name c p) m apos) (e :: es) [] pos) X.env = (do
      let ov ← eval (.Name c p) X.env
      standAt apos.atName
      let (g, first) ← holding [ov] (getMethod ov m pl)
      callWith pos g first (backTo pos (starEach (e :: es) X.env)) (backToKw pos (keywordEach [] X.env))) := by rfl) :
    PE X (.Call (.Attribute (.Name c p) m apos) (e :: es) [] pos) (tCall sp dvs E t) := by
  intro pins s σ H Q I h
  refine PySem.W.methodCall_KW (pl := pl) (ld_glob I hg hm ?_ hdb) ht
  refine PySem.W.method_cls I.kIn hc.ga (PySem.W.cls_value I.kIn hc.rd hc.fn rfl ?_)
  have I1 := I.tok (s.toks + 1)
  refine PySem.W.callWith_K (first := []) (h₀ := X.base) I.ok.mod.kin hc.kp (thn (ha pos pins _ σ H _ I1 h) fun us s2 ⟨vs, H2, I2, r, q2⟩ => ⟨I2.kIn, ?_⟩) hst hpl
  exact run_fn (us := us) (vs := vs) F hr hb hd hx I2 r q2

/-! ### f-strings of texts and ints -/
theorem pe_fmt (he : PE X e te) : PE X (.FormattedValue e (-1) none pos) (fun σ H Q => te σ H fun v H1 => ∃ i, v = .int i ∧ i.natAbs.log2 < 1920 ∧ Q (.str (toString i)) H1) := by
  intro pins s σ H Q I h
  refine FormattedValue_plain (thn (he pins s σ H _ I h) fun u s1 ⟨v, H1, I1, r, i, ev, hz, q⟩ => ?_)
  subst ev
  obtain ⟨tk, rfl⟩ := r
  exact formatField_int_small hz ⟨.str _, H1, I1.tok _, ⟨_, rfl⟩, q⟩
theorem pe_join2 {e1 e2 : Expr} {t1 t2 : TE} (h1 : PE X e1 t1) (h2 : PE X e2 t2) :
    PE X (.JoinedStr [e1, e2] pos) (fun σ H Q => t1 σ H fun v H1 => ∃ y, v = .str y ∧ y.length ≤ 1000000 ∧ t2 σ H1 fun v2 H2 => ∃ z, v2 = .str z ∧ z.length ≤ 1000000 ∧ ∀ r, Q (.str r) H2) := by
  intro pins s σ H Q I h
  have hl : sizeLine = 16777216 := sizeLine_eq
  refine JoinedStr_many (joinParts_cons (thn (h1 pins s σ H _ I h) fun u s1 ⟨v, H1, I1, r, y, ev, hy, q⟩ => ?_))
  subst ev
  obtain ⟨tk, rfl⟩ := r
  refine ⟨by rw [strLen_append]; show 0 + y.length ≤ sizeLine; omega, joinParts_cons (thn (h2 pins s1 σ H1 _ I1 q) fun u2 s2 ⟨v2, H2, I2, r2, z, ev2, hz, q2⟩ => ?_)⟩
  subst ev2
  obtain ⟨tk2, rfl⟩ := r2
  have hs : (Str.empty ++ y ++ z).length ≤ sizeLine := by rw [strLen_append, strLen_append]; show 0 + y.length + z.length ≤ sizeLine; omega
  exact ⟨hs, joinParts_nil ⟨.str _, H2, I2.tok _, ⟨_, rfl⟩, q2 _⟩ hs⟩

/-! ### raise C(e, ..), C an own error class without an __init__ of its own -/
theorem exc_obj {K : PySem.W.Frag} {h : Heap} {bmB : List Value} {newId : String} (A : K.In h) (q : PySem.W.excIn K C bmB newId = true) :
    ∃ bm N nm qn bs hdct sn sub ab col dd k0 k1 k2 k3 k5 mN, h.get? C = some (excClassObj nm qn C N bs bm hdct sn sub ab col dd k0 k1 k2 k3 k5 newId) ∧ h.Ns N mN ∧ mN "__init__" = none ∧ OwnTail h bmB bm := by
  unfold PySem.W.excIn at q
  split at q
  case h_2 => cases q
  rename_i dd cd sl look
  split at q
  case h_2 => cases q
  rename_i C2 bm k0 k1 k2 k3 n k5 mroE slE
  simp only [Bool.and_eq_true, beq_iff_eq, Bool.not_eq_true'] at q
  obtain ⟨⟨⟨⟨⟨e1, e2⟩, e3⟩, e4⟩, e5⟩, e6⟩ := q
  subst e1 e2
  obtain ⟨nm, bs, mro, ns, qn, hdct, sn, sub, ab, col, del⟩ := cd
  dsimp only at mroE e3 e5 e6
  subst mroE e3
  have slA : sl = #[k0, k1, k2, k3, some (.builtin n), k5] := by
    cases sl with
    | mk l => exact congrArg Array.mk slE
  subst slA
  refine ⟨bm, ns, nm, qn, bs, hdct, sn, sub, ab, col, dd, k0, k1, k2, k3, k5, h.nsMap ns, A _ _ look, Heap.Ns.of_isNs (PySem.W.isNs_of_in A e5), ?_, PySem.W.tail_of_in A e4⟩
  exact PySem.W.nsMap_none_of_in A e5 e6
/-- the wish of a def's body -/
def XeIs (X : Cx) (E : XK) : Prop := X.xe = fun e s' => wpAny (model X.prog X.w) X.A (leaving X.env e) (fun _ s2 => CX1 X.prog X.w X.outer X.H₀ X.s₀ E e s2) (fun e' s2 => CX1 X.prog X.w X.outer X.H₀ X.s₀ E e' s2) s'
/-- a def's own frame -/
structure DefX (X : Cx) : Prop where
  st : X.stack = X.env :: X.outer
  fr : X.env.frame = some X.env.locals
  ex : X.ex = []
  calm : X.calm = true
def tRaise (C : Addr) (E : XK) (t : TA) : TS := fun _ σ H => t σ H fun vs H1 => vs.length ≤ 1000 ∧ E (.ref C) none H1
theorem ps_raise {B newId initId : String} {bmB : List Value} (FB : ExcBaseFacts B newId initId bmB) (dx : DefX X) (hxe : XeIs X E) (hg : Gl X x) (hm : X.mg x = some (.ref C)) (hq : PySem.W.excIn X.K C bmB newId = true) (ha : PA X (e :: es) t)
    (hdb : (x == ("__debug__" : Str)) = false := by decide) (hst : starEach (e :: es) X.env = (false, eval e X.env) :: starEach es X.env := by rfl) (hpl : (backTo cpos (starEach es X.env)).any (·.1) = false := by rfl) :
    PS X (.Raise (some (.Call (.Name x np) (e :: es) [] cpos)) none pos) (tRaise C E t) := by
  intro pins s σ H D I h
  obtain ⟨bm, N, nm, qn, bs, hdct, sn, sub, ab, col, dd, k0, k1, k2, k3, k5, mN, hC, hN, hni, TL⟩ := exc_obj I.mod.kin hq
  have hl : sizeLine = 16777216 := sizeLine_eq
  refine wpAny_Raise_call_subT (C := C) (nm := nm) (q := qn) (N := N) (bs := bs) (bm := bm) (hdct := hdct) (sn := sn) (sub := sub) (ab := ab) (col := col) (dd := dd) (k0 := k0) (k1 := k1) (k2 := k2) (k3 := k3) (k5 := k5) FB (mN := mN)
    (TL.hasType FB.hasBase) (I.ok.hd dx.calm) ?_ hni (ld_glob I hg hm ⟨rfl, ?_⟩ hdb)
  · rw [hst]
    show (false || (backTo cpos (starEach es X.env)).any (·.1)) = false
    rw [hpl]
    rfl
  have hs := ha cpos pins s σ H _ I h
  rw [hst] at hs ⊢
  refine Calls.evalArgs_plain (thn hs fun us s2 ⟨vs, H2, I2, r, hz, q⟩ => ?_)
  refine ⟨rfl, ?_, I2.bk _ _ hC, hN.keeps I2.bk, TL.keeps I2.bk, fun h' ea hx => ?_⟩
  · show us.length ≤ sizeLine
    rw [← r.length]
    omega
  · rw [hxe]
    obtain ⟨ta, te, _, _⟩ := hx.there
    exact raise_leaves (dd := none) I2 dx.st dx.fr dx.ex hx.keeps hx.new ⟨_, _, te, rfl, rfl, rfl, (by decide : 1 < 6), rfl⟩ q
end
end L2
/-! try with except .. as (own work) -/
namespace L2
open PySem PySem.Spec PyProof.Rows

/-- an object that stands untracked and is younger than the entry is tracked from here on -/
theorem Inv.track {X : Cx} {pins : List (Addr × Obj)} {σ : St} {H : Hp} {s : Shared} {e : Addr} {o : HO} (I : Inv X pins σ H s) (hn : H e = none) (old : X.s₀.heap.get? e = none) (nl : e ≠ X.env.locals)
    (nc : ∀ x c, X.env.cells.lookup x = some c → c ≠ e) (np : ∀ p ∈ X.pn ++ pins, p.1 ≠ e) (new : ObjOk X.prog X.w (upd H e o) s.heap e o) : Inv X pins σ (upd H e o) s := by
  have ne : ∀ b u, H b = some u → b ≠ e := fun b u z q => by rw [q, hn] at z; cases z
  refine ⟨I.ok, I.os, I.bare, ⟨I.base.keep, I.base.slot, fun b ob z n hx => ?_, I.base.there, fun b xs z => ?_, fun b ob u z => ?_, fun b ps z => ?_⟩, I.loc, I.cell, ?_, fun x c z => ?_, fun p hp => ?_, fun b u z => ?_, I.len⟩
  · rw [upd_ne (fun q => by rw [q, old] at z; cases z)]; exact I.base.free b ob z n hx
  · rw [upd_ne (ne _ _ (I.base.tups b xs z))]; exact I.base.tups b xs z
  · rw [upd_ne (ne _ _ (I.base.frzs b ob u z))]; exact I.base.frzs b ob u z
  · obtain ⟨more, q⟩ := I.base.tbls b ps z
    exact ⟨more, by rw [upd_ne (ne _ _ q)]; exact q⟩
  · rw [upd_ne nl.symm]; exact I.free
  · rw [upd_ne (nc x c z)]; exact I.freeC x c z
  · obtain ⟨a1, a2, a3⟩ := I.pin p hp
    exact ⟨a1, by rw [upd_ne (np p hp)]; exact a2, a3⟩
  · by_cases hb : b = e
    · subst hb; rw [upd_same] at z; cases z; exact new
    · rw [upd_ne hb] at z
      exact (I.hok b u z).stay (fun c v _ q => q) (fun c q => by rw [upd_ne (ne _ _ q)]; exact q) fun c xs q => by rw [upd_ne (ne _ _ q)]; exact q

/-- the error that was caught, as a thing -/
def excO (e : Addr) (cls : Value) (dd : Option Addr) : HO := .ext fun h => ∃ o vs, h.get? e = some o ∧ o.cls = cls ∧ o.dict = dd ∧ o.data = .fields vs
theorem excO_ok {P : Program} {w : World} {H : Hp} {h base : Heap} {e : Addr} {cls : Value} {dd : Option Addr} {fl : Option Value} (x : ExcAt h base e cls dd fl) : ObjOk P w H h e (excO e cls dd) := by
  obtain ⟨oe, vs, he, hc, hdd, hd, _⟩ := x
  refine ⟨⟨oe, vs, he, hc, hdd, hd⟩, ⟨oe, he⟩, fun h1 h2 ⟨o, ws, a1, a2⟩ k => ⟨o, ws, k o a1, a2⟩⟩
theorem exc_at {X : Cx} {pins : List (Addr × Obj)} {σ : St} {H : Hp} {s : Shared} {e : Addr} {cls : Value} {dd : Option Addr} (I : Inv X pins σ H s) (h : H e = some (excO e cls dd)) :
    ∃ o vs, s.heap.get? e = some o ∧ o.cls = cls ∧ o.dict = dd ∧ o.data = .fields vs := (I.hok e _ h).1

/-- the context of a handler's suite -/
abbrev Cx.held (X : Cx) (e : Addr) : Cx := { X with A := X.A.mark (some (.ref e)), calm := false, xe := fun _ _ => False }
theorem Inv.held {X : Cx} {pins : List (Addr × Obj)} {σ : St} {H : Hp} {s : Shared} (I : Inv X pins σ H s) (e : Addr) : Inv (X.held e) pins σ H s :=
  ⟨⟨I.ok.mod, I.ok.kind, I.ok.glob, I.ok.blt, I.ok.above, I.ok.inj, I.ok.has, I.ok.cab, fun z => (nomatch z), I.ok.frames, I.ok.stk, I.ok.exf, I.ok.bs, I.ok.bsz, I.ok.noex, I.ok.exfs, I.ok.funs, I.ok.frf⟩, I.os, I.bare, I.base, I.loc, I.cell, I.free, I.freeC, I.pin, I.hok, I.len⟩
theorem Inv.letgo {X : Cx} {pins : List (Addr × Obj)} {σ : St} {H : Hp} {s : Shared} {e : Addr} (I : Inv (X.held e) pins σ H s) (ok : X.Ok) : Inv X pins σ H s :=
  ⟨ok, I.os, I.bare, I.base, I.loc, I.cell, I.free, I.freeC, I.pin, I.hok, I.len⟩

/-- an error of the class at C is caught by the name of the class at D -/
structure Catches (K : PySem.W.Frag) (C D : Addr) (b : Bool) : Prop where
  one : PySem.W.exmOne K (.ref C) (.ref D) = some b
theorem exc_matches {M : Model} {A : Around} {E : Value → Shared → Prop} {s : Shared} {K : PySem.W.Frag} {C D e : Addr} {b : Bool} {oe : Obj} {Q : Bool → Shared → Prop} (X : K.In s.heap) (c : Catches K C D b) (he : s.heap.get? e = some oe) (hc : oe.cls = .ref C) (q : Q b s) :
    wpAny M A (excMatches (.ref e) (.ref D)) Q E s := by
  have L3 : PySem.W.Looks M s.heap (typeOf (.ref e)) (.ref C) := hc ▸ (PySem.W.Looks.ld he).andThen .now
  exact (PySem.W.exm_one X L3 c.one).here q
end L2
/-! an attribute of an own error's object (own work) -/
namespace L2
open PySem PySem.Spec PySem.Calls PyProof.Rows
section
variable {prog : Program} {w : World} {A : Around} {E : Value → Shared → Prop} {s : Shared} {K : PySem.W.Frag} {x D : Addr} {ox : Obj} {odo : Option Obj} {name : Str}
theorem exc_check {M : Model} {nameV : Value} {Q : Unit → Shared → Prop} (X : K.In s.heap) (I : PySem.W.InstAt s.heap x ox D odo) (hb : PySem.W.mroIn K D (.type "BaseException") = some true) (hq : Q () s) :
    wpAny M A (checkBuiltinCall "BaseException.__getattribute__" ⟨[.ref x, nameV], []⟩) Q E s := by
  obtain ⟨hh, g, d, t, os⟩ := s
  have hk : builtinKind "BaseException.__getattribute__" = some .slot := by decide +kernel
  have hsplit : splitId "BaseException.__getattribute__" = some ("BaseException", "__getattribute__") := by decide +kernel
  have L : PySem.W.Looks M hh (isInstance (.ref x) (.type "BaseException")) true := (I.type (M := M)).andThen (PySem.W.looks_mroIn X hb)
  have ha := F.args_bexc_ga (.ref x) nameV
  simp only [checkBuiltinCall, hk, hsplit]
  refine wpAny_bind (L.at ?_)
  repeat (first | wp_step)
  exact hq
theorem exc_open {Q : Option Value → Shared → Prop} (X : K.In s.heap) (I : PySem.W.InstAt s.heap x ox D odo) (hga : PySem.W.findIn K (.ref D) "__getattribute__" = some (some (.builtin "BaseException.__getattribute__"))) (hgt : PySem.W.findIn K (.ref D) "__getattr__" = some none)
    (hb : PySem.W.mroIn K D (.type "BaseException") = some true)
    (h : wpAny (model prog w) A.in1 (Builtin.«object.__getattribute__» ⟨[.ref x, .str name s.toks], []⟩)
      (fun fin s' => match fin with | .done (.ret v) => wpAny (model prog w) A (handedOut v) (fun v s'' => Q (some v) s'') (fun _ _ => False) s' | _ => False) (fun _ _ => False) { s with toks := s.toks + 1 }) :
    wpAny (model prog w) A (getAttr? (.ref x) name) Q E s := by
  obtain ⟨hh, g, d, t, os⟩ := s
  have L0 := I.type (M := model prog w)
  have L1 := PySem.W.looks_findIn (M := model prog w) X hga
  have L2 := PySem.W.looks_findIn (M := model prog w) X hgt
  unfold getAttr? getAttrBy? getAttrBy
  refine wpAny_bind (wpAny_mkText (wpAny_bind (wpAny_attempt (wpAny_holding (wpAny_bind (L0.at (wpAny_bind (L1.at ?_))))))))
  have e1 : (onTheHeap (Value.ref D) && Value.builtin "BaseException.__getattribute__" == Value.builtin "object.__getattribute__") = false := by
    rw [show (Value.builtin "BaseException.__getattribute__" == Value.builtin "object.__getattribute__") = false by decide +kernel]; rfl
  dsimp only
  rw [e1, if_neg Bool.false_ne_true]
  unfold getAttrByItsOwn
  refine wpAny_bind ?_
  show wpAny _ _ (typeLookup (.ref D) "__getattr__") _ _ _
  refine L2.at ?_
  refine wpAny_bind (wpAny_attempt (wpAny_holding ?_))
  show wpAny _ _ (boundAndCalled _ _ _) _ _ _
  unfold boundAndCalled
  rw [F.attr_ValueError.ga.bind (.ref x)]
  refine wpAny_bind (wpAny_pure ?_)
  refine wpAny_call (codeAny_call_builtin F.attr_ValueError.ga.plain F.entry_bexc_ga ?_)
  refine exc_check X I hb ?_
  refine wpAny_mono h (fun fin s' z => ?_) (fun _ _ z => z.elim)
  rcases fin with (_ | _ | _ | _) | _ <;> first | exact wpAny_mono z (fun v s'' hv => wpAny_pure hv) (fun _ _ z => z.elim) | exact z.elim
theorem exc_entry_bind {g a : Value} {tk : Tok} {P : Value → Shared → Prop} (X : K.In s.heap) (I : PySem.W.InstAt s.heap x ox D odo) (hf : PySem.W.findObj K D odo name = some (.bind g a)) (h : wpAny (model prog w) A (call g [a, .ref x, .ref D]) P E s) :
    wpAny (model prog w) A (Builtin.«object.__getattribute__» ⟨[.ref x, .str name tk], []⟩) (fun fin s' => match fin with | .done (.ret v) => P v s' | _ => False) E s := by
  obtain ⟨hh, gg, d, t, os⟩ := s
  have L0 := I.type (M := model prog w)
  have L1 := PySem.W.looks_find (M := model prog w) X I hf
  refine wpAny_bind (wpAny_pure (wpAny_bind (wpAny_pure (wpAny_bind (L0.at (wpAny_bind (L1.at ?_)))))))
  show wpAny _ _ (holding [a] (call g [a, .ref x, .ref D]) >>= ret) _ _ _
  exact wpAny_bind (wpAny_holding (wpAny_mono h (fun v s' z => wpAny_pure z) fun _ _ z => z))
end
end L2
/-! isinstance of an error that was caught (own work) -/
namespace L2
open PySem PySem.Spec PyProof.Rows
/-- what of the text an own error class must have -/
structure ExcT (K : PySem.W.Frag) (C : Addr) : Prop where
  ga : PySem.W.findIn K (.ref C) "__getattribute__" = some (some (.builtin "BaseException.__getattribute__"))
  gt : PySem.W.findIn K (.ref C) "__getattr__" = some none
  be : PySem.W.mroIn K C (.type "BaseException") = some true
  hd : PySem.W.hasDictIn K C = true
  ha : PySem.W.findIn K (.ref C) "__class__" = some (some (.builtin "object.__class__"))
  hn : PySem.W.specialIn K (.builtin "object.__class__") "__get__" = some (some (.builtin "getset_descriptor.__get__"))
  tk : PySem.W.takesIn K (.builtin "object.__class__") = some true
  ob : PySem.W.mroIn K C (.type "object") = some true
theorem find_data {K : PySem.W.Frag} {C : Addr} {name : Str} {od : Option Obj} {a g : Value} (hc : (PySem.W.clsIn K C).isSome = true) (ha : PySem.W.findIn K (.ref C) name = some (some a)) (hg : PySem.W.specialIn K a "__get__" = some (some g)) (ht : PySem.W.takesIn K a = some true) :
    PySem.W.findObj K C od name = some (.bind g a) := by
  obtain ⟨cd, e⟩ := Option.isSome_iff_exists.mp hc
  unfold PySem.W.findObj
  rw [e, Option.bind_some, ha, Option.bind_some]
  simp [hg, ht]
theorem cls_some {K : PySem.W.Frag} {C : Addr} (h : PySem.W.hasDictIn K C = true) : (PySem.W.clsIn K C).isSome = true := by
  obtain ⟨cd, e, _⟩ := PySem.W.any_some h
  rw [e]
  rfl
theorem kitx_exc {K : PySem.W.Frag} {C e : Addr} {o : Obj} (T : ExcT K C) : PySem.W.KitX K (.ref e) (.ref C) (fun h => PySem.W.InstAt h e o C none) where
  ty := fun _ _ _ J => J.type
  it := fun _ _ Y _ => by
    obtain ⟨cd, e1⟩ := Option.isSome_iff_exists.mp (cls_some T.hd)
    unfold PySem.W.clsIn at e1
    split at e1
    · rename_i look
      intro A' Q' E' s' k q
      unfold isType loadHead
      exact wpAny_bind (wpAny_loadPart (k _ _ (Y _ _ look)) (wpAny_pure q))
    · cases e1
  ne := fun h tp dd its n sl Y htp => by
    refine Bool.eq_false_iff.mpr fun q => ?_
    have e2 : C = tp := Value.ref.inj (beq_iff_eq.mp q)
    subst e2
    obtain ⟨cd, e1⟩ := Option.isSome_iff_exists.mp (cls_some T.hd)
    unfold PySem.W.clsIn at e1
    split at e1
    · rename_i look
      have z := (Y _ _ look).symm.trans htp
      cases z
    · cases e1
  ca := fun {prog w A E Q s} Y J k =>
    exc_open Y J T.ga T.gt T.be (exc_entry_bind (s := { s with toks := s.toks + 1 }) Y J (find_data (cls_some T.hd) T.ha T.hn T.tk)
      (wpAny_call (PySem.W.class_get (s := { s with toks := s.toks + 1 }) Y J T.ob (PySem.W.handed_on rfl k))))
section
variable {X : Cx}
/-- isinstance(e, c): e a caught error without a dict -/
def rIsE (K : PySem.W.Frag) (c : V) (cv : Value) : List V → Hp → VK → Prop := fun xs H Q => ∃ e C b, xs = [.ref e, c] ∧ H e = some (excO e (.ref C) none) ∧ ExcT K C ∧ PySem.W.kitOne K (.ref C) cv = some b ∧ Q (.bl b) H
theorem call_isE {c : V} {cv : Value} (rc : ∀ u, RelV c u → u = cv) : CallR X (.builtin "isinstance") (rIsE X.K c cv) := by
  intro pins s σ H xs us Q I r h
  obtain ⟨e, C, b, rfl, he, T, hk, q⟩ := h
  obtain ⟨u, w', rfl, rx, ry⟩ := vals2 r
  cases rx
  have e2 := rc _ ry
  subst e2
  obtain ⟨o, vs, h1, h2, h3, h4⟩ := exc_at I he
  refine PySem.W.kia_one (kitx_exc (o := o) T) I.kIn ⟨h1, h2, ?_, ?_⟩ hk (fun z => nomatch z) fun tk => ⟨.bl b, H, I.tok tk, rfl, q⟩
  · unfold PySem.W.notCls
    rw [h4]
  · rw [h3]
    trivial
theorem pe_isE {e : Expr} {te : TE} {T : Str} {D : Addr} {p p2 pos : Pos} (hg : Gl X "isinstance") (hm : X.mg "isinstance" = none) (hgT : Gl X T) (hmT : X.mg T = some (.ref D)) (he : PE X e te)
    (hd : (T == ("__debug__" : Str)) = false := by decide)
    (s1 : starEach [e, .Name T p2] X.env = (false, eval e X.env) :: starEach [.Name T p2] X.env := by rfl) (hpl : (backTo pos (starEach [.Name T p2] X.env)).any (·.1) = false := by rfl) :
    PE X (.Call (.Name "isinstance" p) [e, .Name T p2] [] pos) (tCB (rIsE X.K (.ref D) (.ref D)) (tCons te (tCons (tC (.ref D)) tNil))) :=
  pe_callB (call_isE fun _ z => z) hg hm boot_isinstance (pa_cons he (pa_cons (pe_glob hgT hmT rfl hd) pa_nil) s1) (by decide) (by decide) s1 hpl
theorem pe_isET {e : Expr} {te : TE} {T : Str} {n : String} {p p2 pos : Pos} (hg : Gl X "isinstance") (hm : X.mg "isinstance" = none) (hgT : Gl X T) (hmT : X.mg T = none) (hvT : bootBuiltins T = some (.type n)) (he : PE X e te)
    (hn : T ≠ "__name__" := by decide) (hd : (T == ("__debug__" : Str)) = false := by decide)
    (s1 : starEach [e, .Name T p2] X.env = (false, eval e X.env) :: starEach [.Name T p2] X.env := by rfl) (hpl : (backTo pos (starEach [.Name T p2] X.env)).any (·.1) = false := by rfl) :
    PE X (.Call (.Name "isinstance" p) [e, .Name T p2] [] pos) (tCB (rIsE X.K (.ty n) (.type n)) (tCons te (tCons (tC (.ty n)) tNil))) :=
  pe_callB (call_isE fun _ z => z) hg hm boot_isinstance (pa_cons he (pa_cons (pe_bltn hgT hmT hvT rfl hn hd) pa_nil) s1) (by decide) (by decide) s1 hpl
end
end L2
/-! try: a call; except D as n: suite (own work) -/
namespace L2
open PySem PySem.Spec PyProof.Rows

theorem Fly.un {P : Program} {w : World} {outer l : List Env} {H H' : Hp} {h h' h2 : Heap} {e : Addr} {cls : Value} {dd : Option Addr} {B : Heap} (F : Fly P w outer H H' h h' e cls dd B) (g : Go B l h' h2)
    (hd : ∀ b o, h.get? b = some o → b ∈ frs outer → ∀ vs, o.data ≠ .fields vs) (hn : ∀ b ∈ frs outer, H b = none) : Un (frs outer) [] H H' h h2 where
  keep := fun b o z n nf _ => g.st b o (F.keep b o z n nf)
  slot := fun b o z n hb _ => by
    obtain ⟨sl, q⟩ := F.slot b o z n hb (hd b o z hb)
    obtain ⟨sl2, q2⟩ := g.up b _ q (hd b o z hb)
    exact ⟨sl2, q2⟩
  free := fun b o z n _ => F.free b o z n
  there := fun b o z _ => by
    by_cases hb : b ∈ frs outer
    · obtain ⟨sl, q⟩ := F.slot b o z (hn b hb) hb (hd b o z hb)
      obtain ⟨sl2, q2⟩ := g.up b _ q (hd b o z hb)
      exact ⟨_, q2⟩
    · obtain ⟨o', q⟩ := F.there b o z hb
      exact ⟨o', g.st b o' q⟩
  tups := F.tups
  frzs := F.frzs
  tbls := F.tbls

theorem ObjOk.there {P : Program} {w : World} {H : Hp} {h : Heap} {a : Addr} {o : HO} (x : ObjOk P w H h a o) : ∃ ob, h.get? a = some ob := by
  cases o with
  | lst xs => obtain ⟨_, _, _, _, e⟩ := x; exact ⟨_, e⟩
  | tup xs => obtain ⟨_, _, _, ob, e, _⟩ := x; exact ⟨_, e⟩
  | dK kvs => obtain ⟨_, _, _, _, ob, _, _, e, _⟩ := x; exact ⟨_, e⟩
  | dT kvs => obtain ⟨_, _, _, _, ob, _, _, e, _⟩ := x; exact ⟨_, e⟩
  | set S n => obtain ⟨ob, _, _, _, e, _⟩ := x; exact ⟨_, e⟩
  | ins C dx fs => obtain ⟨_, _, _, e, _⟩ := x; exact ⟨_, e⟩
  | own y => exact x
  | xd fs => obtain ⟨_, ⟨_, _, _, e, _⟩, _⟩ := x; exact ⟨_, e⟩
  | rng lo hi => obtain ⟨_, _, _, e⟩ := x; exact ⟨_, e⟩
  | frz ob u => exact ⟨_, x.1⟩
  | tbl ps => exact ⟨_, (show h.get? a = some _ from x)⟩
  | met f y => exact ⟨_, (show h.get? a = some _ from x)⟩
  | ext φ => exact x.2.1
/-- the frame's own names are let go -/
theorem Inv.forget {X : Cx} {pins : List (Addr × Obj)} {σ : St} {H : Hp} {s : Shared} {h' : Heap} {m' : Str → Option Value} {tk : Nat} (I : Inv X pins σ H s) (n : h'.Ns X.env.locals m') (sb : Heap.SameBut X.env.locals s.heap h') :
    Inv X pins (List.replicate X.N.length none) H { s with heap := h', toks := tk } := by
  have ne : ∀ b o, X.s₀.heap.get? b = some o → b ≠ X.env.locals := fun b o e => Nat.ne_of_lt (Nat.lt_of_lt_of_le (Heap.lt_size e) I.ok.above)
  refine ⟨I.ok, I.os, I.bare, ⟨fun b o e n' hb hx => ?_, fun b o e n' hb hx => ?_, I.base.free, fun b o e hx => ?_, I.base.tups, I.base.frzs, I.base.tbls⟩, ⟨m', n, fun j y v _ e2 _ => ?_⟩, fun y c e => ?_, I.free, I.freeC, fun p hp => ?_, fun a o e => ?_, by simp⟩
  · exact (sb.2 b (ne b o e)).trans (I.base.keep b o e n' hb hx)
  · obtain ⟨sl, e1⟩ := I.base.slot b o e n' hb hx
    exact ⟨sl, (sb.2 b (ne b o e)).trans e1⟩
  · obtain ⟨o', e1⟩ := I.base.there b o e hx
    exact ⟨o', (sb.2 b (ne b o e)).trans e1⟩
  · rw [List.getElem?_replicate] at e2
    split at e2 <;> cases e2
  · obtain ⟨v, z⟩ := I.cell y c e
    exact ⟨v, z.sameBut sb (I.cne y c e)⟩
  · obtain ⟨e, n', nl, nf, d⟩ := I.pin p hp
    exact ⟨(sb.2 p.1 nl).trans e, n', nl, nf, d⟩
  · refine (I.hok a o e).stay (fun b u hb z => (sb.2 b fun q => ?_).trans z) (fun _ z => z) fun _ _ z => z
    have fr := I.free
    rw [← q] at fr
    rcases hb with rfl | hb
    · rw [e] at fr; cases fr
    · rw [hb] at fr; cases fr

/-- what a handler's suite is to reach: it returns -/
def retOnly (D : Ends) : Ends := { nx := fun _ _ => False, rt := D.rt }
/-- what is wanted of an error that comes to: except D as n (slot i) -/
def CatchE (K : PySem.W.Frag) (D : Addr) (i : Nat) (th : TS) (Dn : Ends) (σ : St) : XK := fun cls dd H' => ∃ C, cls = .ref C ∧ Catches K C D true ∧ ∀ e, H' e = none → th (retOnly Dn) (σ.set i (some (.ref e))) (upd H' e (excO e cls dd))

section
variable {X : Cx} {pins : List (Addr × Obj)} {σ : St} {H : Hp} {s : Shared}
theorem catch_as {n x : Str} {i : Nat} {D : Addr} {b₀ : Stmt} {suite : List Stmt} {hpos np : Pos} {ts : TS} {Dn : Ends} {ev : Value} {s' : Shared} (I : Inv X pins σ H s) (dx : DefX X) (hN : X.N.Nodup) (hi : X.N[i]? = some n)
    (hn : X.env.scope.names.lookup n = some .local) (hg : Gl X x) (hm : X.mg x = some (.ref D)) (hxd : (x == ("__debug__" : Str)) = false) (hs : ∀ e, PSs (X.held e) (b₀ :: suite) ts)
    (c : CX1 X.prog X.w X.stack H s (CatchE X.K D i ts Dn σ) ev s') :
    wpAny (model X.prog X.w) X.A (noteFrame ev X.env) (fun _ s2 => wpAny (model X.prog X.w) X.A (setFlight ev none) (fun _ s3 =>
      wpAny (model X.prog X.w) X.A (handleBy ev X.env [.ExceptHandler (some (.Name x np)) (some n) (b₀ :: suite) hpos]) (SP X pins Dn) X.xe s3) X.xe s2) X.xe s' := by
  obtain ⟨e, cls, dd, B, H', rfl, os, bare, F, C, rfl, cat, rd⟩ := c
  have fr := F.fr
  have stk : X.A.frames = some (X.env :: X.outer) := by rw [I.ok.frames, dx.st]
  rw [dx.st] at fr
  refine note_exc stk fr dx.fr F.st F.en F.ex (.inr rfl) fun h1 g1 x1 => ?_
  refine flight_exc (s := { s' with heap := h1 }) g1.fr g1.st x1 fun h2 g2 x2 => ?_
  have hd : ∀ b o, s.heap.get? b = some o → b ∈ frs X.stack → ∀ vs, o.data ≠ .fields vs := fun b o z hb => frame_data I hb z
  have mk : ∀ h3, Go B (X.env :: X.outer) s'.heap h3 → Inv X pins σ H' { s' with heap := h3 } := fun h3 g3 =>
    I.call' (s' := { s' with heap := h3 }) (ch := []) os (F.un g3 hd I.stkFree) (F.hok.kept fun b o z => g3.st b o z) bare fun b z => absurd z (by simp)
  have I2 := mk h2 (g1.trans g2)
  have gone : s.heap.get? e = none := by
    cases z : s.heap.get? e with
    | none => rfl
    | some o =>
      by_cases hb : e ∈ frs X.stack
      · have q := (F.fr.mem hb).2
        obtain ⟨u, hu, nu⟩ := q
        obtain ⟨oe, vs, he, _, _, hdd, _⟩ := F.ex
        rw [he] at hu
        cases hu
        exact absurd hdd (nu vs)
      · obtain ⟨o', q⟩ := F.there e o z hb
        rw [F.en] at q
        cases q
  refine wpAny_handleBy_cons (codeAny_handlers_test (ld_glob (X := X.held e) (I2.held e) hg hm ?_ hxd)) (by intro q; cases q)
  obtain ⟨oe, vs, he, hc, _⟩ := id x2
  refine exc_matches (s := { s' with heap := h2 }) I2.kIn cat he hc ?_
  refine codeAny_handlers_suite_as ?_
  refine flight_exc (s := { s' with heap := h2 }) g2.fr g2.st x2 fun h3 g3 x3 => ?_
  have I3 := mk h3 ((g1.trans g2).trans g3)
  have fn : H' e = none := by
    cases z : H' e with
    | none => rfl
    | some u => obtain ⟨ob, q⟩ := (F.hok e u z).there; rw [F.en] at q; cases q
  have I4 : Inv X pins σ (upd H' e (excO e (.ref C) dd)) { s' with heap := h3 } := by
    refine I3.track fn ?_ ?_ (fun y c' z q => ?_) (fun p hp q => ?_) (excO_ok x3)
    · cases z : X.s₀.heap.get? e with
      | none => rfl
      | some o => obtain ⟨o', q⟩ := I.base.there e o z (by rw [dx.ex]; simp); rw [gone] at q; cases q
    · intro q
      obtain ⟨m, ⟨o, _, _, ho, _⟩, _⟩ := I.loc
      rw [← q, gone] at ho
      cases ho
    · obtain ⟨v, o, ho, _⟩ := I.cell y c' z
      rw [q, gone] at ho
      cases ho
    · have z := (I.pin p hp).1
      rw [q, gone] at z
      cases z
  refine store_ok (v := .ref e) I4 hN hi (.inl hn) rfl (fun s5 I5 => ?_) (.inr hn)
  refine wpAny_mono (hs e pins s5 _ _ (retOnly Dn) (I5.held e) (rd e fn)) (fun f s6 q => ?_) fun _ _ z => z.elim
  cases f with
  | next => obtain ⟨_, _, _, z⟩ := q; exact z.elim
  | brk => obtain ⟨_, _, _, z⟩ := q; exact z.elim
  | cont => obtain ⟨_, _, _, z⟩ := q; exact z.elim
  | ret u =>
    obtain ⟨v, σ6, H6, I6, r6, q6⟩ := q
    have I7 := I6.letgo I.ok
    obtain ⟨m, hns, _⟩ := I7.loc
    refine wpAny_nameGoes hn hns (by rw [I.ok.kind]; rfl) fun h7 m7 n7 sb => ?_
    exact ⟨v, _, H6, I7.forget n7 sb, r6, q6⟩
end
end L2

namespace L2
open PySem PySem.Spec PyProof.Rows
section
variable {X : Cx} {CX : CXT} {k : Nat} {f C D : Addr} {fd : FuncData} {ps : List Str} {sp : Sp} {x d n : Str} {i : Nat} {p np cpos epos hpos pos : Pos} {e : Expr} {es : List Expr} {t : TA} {b₀ : Stmt} {suite : List Stmt} {th : TS}
/-- f(..) likewise -/
theorem call_at {pins : List (Addr × Obj)} {σ : St} {H : Hp} {s : Shared} {Q : VK} {us : List Value} {vs : List V} {E : XK} {W : Value → Shared → Prop} (F : FnOk X.prog X.w X.K X.mg X.base CX k f fd ps sp) (hr : Room k X.A)
    (hb : Binds X.K fd ps []) (I : Inv X pins σ H s) (r : Vals vs us) (hx : ∀ H1 s1 ev s', Inv X pins σ H1 s1 → CX X.stack H1 s1 E ev s' → W ev s') (h : sp vs H Q E) :
    wpAny (model X.prog X.w) X.A (call (.ref f) us) (EP X pins σ Q) W s := by
  have hl : (us ++ []).length = ps.length := by rw [List.append_nil, ← r.length]; exact F.len _ _ _ _ h
  have bd := hb s us I.kIn hl
  rw [List.append_nil] at bd
  refine wpAny_call (codeAny_mono (F.run X.A X.stack s H ⟨us, []⟩ us vs Q E hr I.env0 bd r h) fun res s' z => ?_)
  cases res with
  | error ev => exact hx H s ev s' I z
  | ok fl =>
    cases fl with
    | ret u => exact I.after z
    | next => exact False.elim z
    | brk => exact False.elim z
    | cont => exact False.elim z
def tTryMake (K : PySem.W.Frag) (C D : Addr) (i : Nat) (sp : Sp) (t : TA) (th : TS) : TS := fun Dn σ H => t σ H fun vs H1 => ∀ a da, H1 a = none → H1 da = none → da ≠ a →
  sp (.ref a :: vs) (upd (upd H1 da (.own a)) a (.ins C da [])) (fun v H2 => v = .non ∧ Dn.nx σ H2) (CatchE K D i th Dn σ)
def tTryCall (K : PySem.W.Frag) (D : Addr) (i : Nat) (sp : Sp) (t : TA) (th : TS) : TS := fun Dn σ H => t σ H fun vs H1 => sp vs H1 (fun _ H2 => Dn.nx σ H2) (CatchE K D i th Dn σ)
theorem ps_tryCall (dx : DefX X) (F : FnOk X.prog X.w X.K X.mg X.base (CX1 X.prog X.w) k f fd ps sp) (hr : Room k X.A) (hg : Gl X x) (hm : X.mg x = some (.ref f)) (hk : PySem.W.keepIn X.K (.ref f) = true) (hb : Binds X.K fd ps [])
    (ha : ∀ W, PA (X.wish W) (e :: es) t) (hN : X.N.Nodup) (hi : X.N[i]? = some n) (hn : X.env.scope.names.lookup n = some .local) (hgd : Gl X d) (hmd : X.mg d = some (.ref D)) (hs : ∀ e, PSs (X.held e) (b₀ :: suite) th)
    (hdb : (x == ("__debug__" : Str)) = false := by decide) (hdd : (d == ("__debug__" : Str)) = false := by decide) (he : starEach (e :: es) X.env = (false, eval e X.env) :: starEach es X.env := by rfl) (hpl : (backTo cpos (starEach es X.env)).any (·.1) = false := by rfl)
    (hsw : swapsWith (.Call (.Name x p) (e :: es) [] cpos) none epos.line X.env = pure false := by rfl) :
    PS X (.Try [.Expr (.Call (.Name x p) (e :: es) [] cpos) epos] [.ExceptHandler (some (.Name d np)) (some n) (b₀ :: suite) hpos] [] [] pos) (tTryCall X.K D i sp t th) := by
  intro pins s σ H Dn I h
  refine wpAny_Try_except (wpAny_execs_cons (wpAny_Expr_any ?_ I.quiet hsw))
  refine wpAny_Call_Name_kw (ld_glob I hg hm ?_ hdb)
  refine PySem.W.callWith_K (h₀ := X.base) I.ok.mod.kin hk ?_ he hpl
  refine wpAny_mono (ha (fun e₀ s₁ => wpAny (model X.prog X.w) X.A (noteFrame e₀ X.env) (fun _ s₂ => wpAny (model X.prog X.w) X.A (setFlight e₀ none) (fun _ s₃ => wpAny (model X.prog X.w) X.A (handleBy e₀ X.env [.ExceptHandler (some (.Name d np)) (some n) (b₀ :: suite) hpos]) (SP X pins Dn) X.xe s₃) X.xe s₂) X.xe s₁) cpos pins s σ H _ (I.wish _) h) (fun us s1 z => ?_) (fun _ _ z => z)
  obtain ⟨vs, H1, I1', r, q⟩ := z
  refine ⟨I1'.kIn, ?_⟩
  have I1 := I1'.unwish
  refine thn (call_at (Q := fun _ H2 => Dn.nx σ H2) F hr hb I1 r (fun H2 s2 ev s' I2 z => catch_as I2 dx hN hi hn hgd hmd hdd hs z) q) fun u s2 ⟨v, H2, I2, _, q2⟩ => ?_
  exact wpAny_execs_nil (wpAny_execs_nil ⟨σ, H2, I2, q2⟩)
end
end L2
/-! COMPREHENSIONS over the hand layer (own work) -/
namespace L2
open PySem PySem.Spec PyProof.Rows

/-! ### names of a comprehension's block -/
def relK (env : Env) (n : Str) (k : NameKind) : NameKind := if (k == .free && env.scope.kind == .function && env.kindOf n == some .cell) then .cell else k
theorem look_rel (env : Env) (x : Str) : ∀ names : List (Str × NameKind),
    (names.map fun (n, k) => if (k == NameKind.free && env.scope.kind == .function && env.kindOf n == some .cell) then (n, NameKind.cell) else (n, k)).lookup x = (names.lookup x).map (relK env x)
  | [] => rfl
  | (n, k) :: r => by
    have ih := look_rel env x r
    rw [List.map_cons]
    have e : (if (k == NameKind.free && env.scope.kind == .function && env.kindOf n == some .cell) = true then (n, NameKind.cell) else (n, k)) = (n, relK env n k) := by
      unfold relK; split <;> rfl
    show List.lookup x ((if (k == NameKind.free && env.scope.kind == .function && env.kindOf n == some .cell) = true then (n, NameKind.cell) else (n, k)) :: _) = _
    rw [e, List.lookup_cons, List.lookup_cons]
    cases hx : x == n with
    | true => obtain rfl : x = n := eq_of_beq hx; rfl
    | false => exact ih
theorem rel_look {sc : Scope} {env : Env} {x : Str} {k : NameKind} (h : (relabel sc env).names.lookup x = some k) : ∃ k0, sc.names.lookup x = some k0 ∧ relK env x k0 = k := by
  have e : (relabel sc env).names.lookup x = (sc.names.lookup x).map (relK env x) := look_rel env x sc.names
  rw [e] at h
  cases q : sc.names.lookup x with
  | none => rw [q] at h; cases h
  | some k0 => rw [q] at h; exact ⟨k0, rfl, Option.some.inj h⟩

/-- what the closure gives -/
def closL (cells : List (Str × Addr)) : List (Str × NameKind) → List (Str × Addr) → List (Str × Addr)
  | [], acc => acc
  | (n, k) :: r, acc => if k == .free then closL cells r ((n, (cells.lookup n).getD 0) :: acc) else closL cells r acc
theorem clos_run {env : Env} (f : Str × NameKind → List (Str × Addr) → Sem (ForInStep (List (Str × Addr))))
    (hf : ∀ n k c, f (n, k) c = if k == .free then (do let a ← cellOf env n; pure (.yield ((n, a) :: c))) else pure (.yield c)) :
    ∀ (names : List (Str × NameKind)) (acc : List (Str × Addr)), (∀ y ∈ names, y.2 = .free → ∃ c, env.cells.lookup y.1 = some c) → forIn names acc f = pure (closL env.cells names acc)
  | [], _, _ => rfl
  | (n, k) :: r, acc, h => by
    have ih := fun a => clos_run f hf r a fun y hy => h y (List.mem_cons_of_mem _ hy)
    rw [List.forIn_cons, hf]
    unfold closL
    by_cases hk : (k == NameKind.free) = true
    · obtain ⟨c, e⟩ := h (n, k) List.mem_cons_self (eq_of_beq hk)
      have e' : env.cells.lookup n = some c := e
      have ec : cellOf env n = pure c := by unfold cellOf; rw [e']
      rw [if_pos hk, if_pos hk, ec, e']
      exact ih _
    · rw [if_neg hk, if_neg hk]
      exact ih _
theorem clos_is {sc : Scope} {env : Env} (h : ∀ y ∈ sc.names, y.2 = .free → ∃ c, env.cells.lookup y.1 = some c) : closureFor sc env = pure (closL env.cells sc.names []) := by
  have q := clos_run (env := env) (fun (y : Str × NameKind) c => if y.2 == .free then (do let a ← cellOf env y.1; pure (.yield ((y.1, a) :: c))) else pure (.yield c)) (fun _ _ _ => rfl) sc.names [] h
  have e : closureFor sc env = (forIn sc.names ([] : List (Str × Addr)) (fun (y : Str × NameKind) c => if y.2 == .free then (do let a ← cellOf env y.1; pure (.yield ((y.1, a) :: c))) else pure (.yield c)) >>= fun cs => pure cs) := rfl
  rw [e, q]
  rfl
theorem clos_look {cells : List (Str × Addr)} {x : Str} : ∀ (names : List (Str × NameKind)) (acc : List (Str × Addr)),
    (closL cells names acc).lookup x = some ((cells.lookup x).getD 0) ∨ ((closL cells names acc).lookup x = acc.lookup x ∧ (x, NameKind.free) ∉ names)
  | [], acc => .inr ⟨rfl, by simp⟩
  | (n, k) :: r, acc => by
    unfold closL
    split
    · rename_i hk
      rcases clos_look (cells := cells) (x := x) r ((n, (cells.lookup n).getD 0) :: acc) with q | ⟨q, q2⟩
      · exact .inl q
      · rw [List.lookup_cons] at q
        cases hx : x == n with
        | true => obtain rfl : x = n := eq_of_beq hx; rw [hx] at q; exact .inl q
        | false =>
          rw [hx] at q
          refine .inr ⟨q, fun z => ?_⟩
          rcases List.mem_cons.mp z with z | z
          · cases z; simp at hx
          · exact q2 z
    · rename_i hk
      rcases clos_look (cells := cells) (x := x) r acc with q | ⟨q, q2⟩
      · exact .inl q
      · refine .inr ⟨q, fun z => ?_⟩
        rcases List.mem_cons.mp z with z | z
        · cases z; simp at hk
        · exact q2 z
/-- the cells: new ones, or the closure's -/
theorem cf_look {x : Str} : ∀ (names : List (Str × NameKind)) (n : Nat) (acc : List (Str × Addr)),
    (∃ c : Nat, n ≤ c ∧ c < n + names.length ∧ (cellsFrom n names acc).lookup x = some c ∧ (x, NameKind.cell) ∈ names) ∨ ((cellsFrom n names acc).lookup x = acc.lookup x ∧ (x, NameKind.cell) ∉ names)
  | [], n, acc => .inr ⟨rfl, by simp⟩
  | (m, k) :: r, n, acc => by
    unfold cellsFrom
    split
    · rename_i hk
      rcases cf_look (x := x) r (n + 1) ((m, n) :: acc) with ⟨c, h1, h2, h3, h4⟩ | ⟨q, q2⟩
      · exact .inl ⟨c, by omega, by rw [List.length_cons]; omega, h3, List.mem_cons_of_mem _ h4⟩
      · rw [List.lookup_cons] at q
        cases hx : x == m with
        | true =>
          obtain rfl : x = m := eq_of_beq hx
          rw [hx] at q
          exact .inl ⟨n, Nat.le_refl _, by rw [List.length_cons]; omega, q, by rw [eq_of_beq hk]; exact List.mem_cons_self⟩
        | false =>
          rw [hx] at q
          refine .inr ⟨q, fun z => ?_⟩
          rcases List.mem_cons.mp z with z | z
          · cases z; simp at hx
          · exact q2 z
    · rename_i hk
      rcases cf_look (x := x) r n acc with ⟨c, h1, h2, h3, h4⟩ | ⟨q, q2⟩
      · exact .inl ⟨c, h1, by rw [List.length_cons]; omega, h3, List.mem_cons_of_mem _ h4⟩
      · refine .inr ⟨q, fun z => ?_⟩
        rcases List.mem_cons.mp z with z | z
        · cases z; simp at hk
        · exact q2 z
theorem cf_inj : ∀ (names : List (Str × NameKind)) (n : Nat) (acc : List (Str × Addr)), (∀ (x : Str) (c : Nat), acc.lookup x = some c → c < n) → ∀ (x y : Str) (c : Nat), n ≤ c → (cellsFrom n names acc).lookup x = some c → (cellsFrom n names acc).lookup y = some c → x = y
  | [], n, acc, h, x, y, c, hc, e1, e2 => absurd (h x c e1) (by omega)
  | (m, k) :: r, n, acc, h, x, y, c, hc, e1, e2 => by
    unfold cellsFrom at e1 e2
    split at e1
    · rename_i hk
      rw [if_pos hk] at e2
      by_cases hcn : n + 1 ≤ c
      · refine cf_inj r (n + 1) ((m, n) :: acc) (fun z c' q => ?_) x y c hcn e1 e2
        rw [List.lookup_cons] at q
        cases hz : z == m with
        | true => rw [hz] at q; cases q; exact Nat.lt_succ_self _
        | false => rw [hz] at q; have := h z c' q; omega
      · have ecn : c = n := by omega
        subst ecn
        have one : ∀ z, (cellsFrom (c + 1) r ((m, c) :: acc)).lookup z = some c → z = m := fun z q => by
          rcases cf_look (x := z) r (c + 1) ((m, c) :: acc) with ⟨c', h1, _, h3, _⟩ | ⟨q', _⟩
          · rw [h3] at q; cases q; omega
          · rw [q', List.lookup_cons] at q
            cases hz : z == m with
            | true => exact eq_of_beq hz
            | false => rw [hz] at q; have := h z c q; omega
        rw [one x e1, one y e2]
    · rename_i hk
      rw [if_neg hk] at e2
      exact cf_inj r n acc h x y c hc e1 e2
theorem pc_cell : ∀ (names : List (Str × NameKind)) (h : Heap) (acc : List (Str × Addr)) (x : Str) (c : Nat), h.objs.size ≤ c → (∀ (y : Str) (c' : Nat), acc.lookup y = some c' → c' < h.objs.size) → (cellsFrom h.objs.size names acc).lookup x = some c → (pushCells h names).IsCell c none
  | [], h, acc, x, c, hc, ha, e => absurd (ha x c e) (by omega)
  | (m, k) :: r, h, acc, x, c, hc, ha, e => by
    unfold cellsFrom at e
    unfold pushCells
    split
    · rename_i hk
      rw [if_pos hk] at e
      have hsz : (h.push { cls := .type "cell", data := .cell none }).objs.size = h.objs.size + 1 := Heap.size_push ..
      rw [← hsz] at e
      by_cases hcn : h.objs.size + 1 ≤ c
      · refine pc_cell r _ _ x c (by rw [hsz]; exact hcn) (fun y c' q => ?_) e
        rw [List.lookup_cons] at q
        cases hy : y == m with
        | true => rw [hy] at q; cases q; rw [hsz]; exact Nat.lt_succ_self _
        | false => rw [hy] at q; have := ha y c' q; rw [hsz]; omega
      · have ecn : c = h.objs.size := by omega
        refine ⟨{ cls := .type "cell", data := .cell none }, ?_, rfl⟩
        rw [ecn]
        exact pushCells_keeps r _ _ _ (Heap.get?_push_size _ rfl)
    · rename_i hk
      rw [if_neg hk] at e
      exact pc_cell r h acc x c hc ha e
end L2
/-! COMPREHENSIONS: the block (own work) -/
namespace L2
open PySem PySem.Spec PyProof.Rows

/-- what a block is entered with: its closure, its names' dict, the state and the heap ahead of it, the iterator's objects, what is wanted of an error -/
structure BP where
  cl : List (Str × Addr)
  C : Addr
  s : Shared
  H : Hp
  ex : List Addr
  xe : Value → Shared → Prop
def blkEnv (sc : Scope) (cl : List (Str × Addr)) (C : Addr) (env : Env) : Env :=
  { scope := relabel sc env, locals := C, globals := env.globals, cells := cellsFrom (C + 1) sc.names cl, qual := env.qual, func := none, code := env.code, frame := env.frame, builtins := env.builtins }
def blk (X : Cx) (sc : Scope) (b : BP) : Cx :=
  { X with s₀ := b.s, H₀ := b.H, env := blkEnv sc b.cl b.C X.env, outer := X.stack, ex := b.ex, fn := fun x => sc.names.lookup x == some .cell, pn := [], xe := b.xe }

/-- the block's names against the frame's -/
structure BlkOk (N : List Str) (outer sc : Scope) (own : List Nat) : Prop where
  kind : sc.kind = .function
  nd : (sc.names.map (·.1)).Nodup
  free : ∀ y ∈ sc.names, y.2 = .free → outer.names.lookup y.1 = some .cell ∨ outer.names.lookup y.1 = some .free
  own : ∀ y ∈ sc.names, (y.2 = .local ∨ y.2 = .cell) → ∀ i, N[i]? = some y.1 → i ∈ own

theorem look_mem {l : List (Str × NameKind)} (nd : (l.map (·.1)).Nodup) {x : Str} {k : NameKind} (h : (x, k) ∈ l) : l.lookup x = some k := by
  induction l with
  | nil => cases h
  | cons y r ih =>
    obtain ⟨n, k'⟩ := y
    rw [List.map_cons, List.nodup_cons] at nd
    rw [List.lookup_cons]
    rcases List.mem_cons.mp h with e | h
    · cases e; simp
    · have : (x == n) = false := by
        rw [beq_eq_false_iff_ne]
        intro e
        exact nd.1 (List.mem_map.mpr ⟨_, h, e⟩)
      rw [this]
      exact ih nd.2 h
/-- own slots are empty -/
def wipe (own : List Nat) (σ : St) : St := own.foldl (fun σ i => σ.set i none) σ
theorem wipe_len (own : List Nat) : ∀ σ : St, (wipe own σ).length = σ.length := by
  induction own with
  | nil => intro σ; rfl
  | cons i r ih => intro σ; show (wipe r (σ.set i none)).length = _; rw [ih]; simp
theorem wipe_get (own : List Nat) : ∀ (σ : St) (i : Nat) (v : V), (wipe own σ)[i]? = some (some v) → σ[i]? = some (some v) ∧ i ∉ own := by
  induction own with
  | nil => intro σ i v h; exact ⟨h, by simp⟩
  | cons j r ih =>
    intro σ i v h
    obtain ⟨h1, h2⟩ := ih (σ.set j none) i v h
    by_cases hj : j = i
    · subst hj
      rw [List.getElem?_set] at h1
      split at h1
      · split at h1 <;> cases h1
      · rename_i z; exact absurd rfl z
    · rw [List.getElem?_set_ne hj] at h1
      exact ⟨h1, by simp [h2, Ne.symm hj]⟩
/-- only own slots are changed -/
def Back (σ σ' : St) : Prop := σ'.length = σ.length ∧ ∀ (i : Nat) v, σ[i]? = some (some v) → σ'[i]? = some (some v)

section
variable {X : Cx} {pins : List (Addr × Obj)} {σ : St} {H : Hp} {s : Shared} {sc : Scope} {own : List Nat} {fp : List Addr} {xe : Value → Shared → Prop}
theorem relK_vis {env : Env} {x : Str} {k k0 : NameKind} (e : relK env x k0 = k) (hk : k = .local ∨ k = .cell ∨ k = .free) : k0 = k ∨ (k0 = .free ∧ k = .cell) := by
  unfold relK at e
  split at e
  · rename_i hc
    rw [Bool.and_eq_true, Bool.and_eq_true] at hc
    exact .inr ⟨eq_of_beq hc.1.1, e.symm⟩
  · exact .inl e
/-- at a block's entry: the accumulator at D, the names' dict at C, the cells behind it -/
theorem blk_start (I : Inv X pins σ H s) (B : BlkOk X.N X.env.scope sc own) (hf : ∀ b ∈ fp, FpOk X pins H b) (hfo : ∀ b ∈ fp, b < s.heap.objs.size) :
    Inv (blk X sc ⟨closL X.env.cells sc.names [], s.heap.objs.size + 1, s, H, fp, xe⟩) [(s.heap.objs.size, { cls := .type "list", data := .seq ([] : List Value).toArray })] (wipe own σ) H
      { s with heap := pushCells ((s.heap.push { cls := .type "list", data := .seq ([] : List Value).toArray }).push { cls := .type "dict", data := .dict #[] }) sc.names } := by
  generalize hh2 : s.heap.push { cls := .type "list", data := .seq ([] : List Value).toArray } = h2
  have sz2 : h2.objs.size = s.heap.objs.size + 1 := by rw [← hh2, Heap.size_push]
  generalize hh3 : h2.push { cls := .type "dict", data := .dict #[] } = h3
  have sz3 : h3.objs.size = s.heap.objs.size + 2 := by rw [← hh3, Heap.size_push, sz2]
  have k3 : ∀ b o, h3.get? b = some o → (pushCells h3 sc.names).get? b = some o := pushCells_keeps sc.names h3
  have k2 : ∀ b o, h2.get? b = some o → (pushCells h3 sc.names).get? b = some o := fun b o e => k3 b o (by rw [← hh3]; exact Heap.get?_push_of_some _ e)
  have k1 : ∀ b o, s.heap.get? b = some o → (pushCells h3 sc.names).get? b = some o := fun b o e => k2 b o (by rw [← hh2]; exact Heap.get?_push_of_some _ e)
  have free_has : ∀ x, (x, NameKind.free) ∈ sc.names → ∃ c, X.env.cells.lookup x = some c := fun x hx => I.ok.has x (B.free (x, .free) hx rfl)
  have clL : ∀ x c, (closL X.env.cells sc.names []).lookup x = some c → (x, NameKind.free) ∈ sc.names → X.env.cells.lookup x = some c := fun x c e hx => by
    obtain ⟨c', e'⟩ := free_has x hx
    rcases clos_look (cells := X.env.cells) (x := x) sc.names [] with q | ⟨q, q2⟩
    · rw [q, e'] at e; rw [e']; exact e
    · exact absurd hx q2
  have clM : ∀ x c, (closL X.env.cells sc.names []).lookup x = some c → (x, NameKind.free) ∈ sc.names ∨ (closL X.env.cells sc.names []).lookup x = none := fun x c e => by
    by_cases hx : (x, NameKind.free) ∈ sc.names
    · exact .inl hx
    · refine .inr ?_
      have : ∀ (names : List (Str × NameKind)) (acc : List (Str × Addr)), (x, NameKind.free) ∉ names → (closL X.env.cells names acc).lookup x = acc.lookup x := by
        intro names
        induction names with
        | nil => intro acc _; rfl
        | cons y r ih =>
          obtain ⟨n, k⟩ := y
          intro acc hn
          unfold closL
          split
          · rename_i hk
            rw [ih _ fun z => hn (List.mem_cons_of_mem _ z), List.lookup_cons]
            have : (x == n) = false := by
              rw [beq_eq_false_iff_ne]
              rintro rfl
              exact hn (by rw [eq_of_beq hk]; exact List.mem_cons_self)
            rw [this]
          · exact ih _ fun z => hn (List.mem_cons_of_mem _ z)
      exact this sc.names [] hx
  have clX : ∀ x c, (closL X.env.cells sc.names []).lookup x = some c → X.env.cells.lookup x = some c ∧ (x, NameKind.free) ∈ sc.names := fun x c e => by
    rcases clM x c e with hx | hx
    · exact ⟨clL x c e hx, hx⟩
    · rw [hx] at e; cases e
  have clLt : ∀ (x : Str) (c : Nat), (closL X.env.cells sc.names []).lookup x = some c → c < s.heap.objs.size := fun x c e => by
    obtain ⟨v, q⟩ := I.cell x c (clX x c e).1
    exact q.lt
  have cells : ∀ (x : Str) (c : Nat), (cellsFrom (s.heap.objs.size + 1 + 1) sc.names (closL X.env.cells sc.names [])).lookup x = some c →
      (s.heap.objs.size + 2 ≤ c ∧ (x, NameKind.cell) ∈ sc.names ∧ (pushCells h3 sc.names).IsCell c none) ∨ (X.env.cells.lookup x = some c ∧ (x, NameKind.free) ∈ sc.names) := fun x c e => by
    rcases cf_look (x := x) sc.names (s.heap.objs.size + 1 + 1) (closL X.env.cells sc.names []) with ⟨c', h1, _, h3', h4⟩ | ⟨q, _⟩
    · rw [h3'] at e; cases e
      refine .inl ⟨h1, h4, ?_⟩
      refine pc_cell sc.names h3 (closL X.env.cells sc.names []) x c (by rw [sz3]; exact h1) (fun y d q => ?_) (by rw [sz3]; exact h3')
      have := clLt y d q
      rw [sz3]; omega
    · rw [q] at e
      exact .inr (clX x c e)
  have hfrs : ∀ b ∈ frs X.stack, b < s.heap.objs.size := fun b hb => by
    obtain ⟨_, o, ho, _⟩ := I.stack.mem hb
    exact Heap.lt_size ho
  have newNs : (pushCells h3 sc.names).Ns (s.heap.objs.size + 1) fun _ => none := by
    have := (Heap.Ns.new h2 (.type "dict")).keeps (h' := pushCells h3 sc.names) (by rw [hh3]; exact k3)
    rw [sz2] at this
    exact this
  refine ⟨⟨I.ok.mod, B.kind, I.ok.glob, I.ok.blt, Nat.le_succ _, fun x y c e1 e2 => ?_, fun x hx => ?_, fun x c hx e => ?_, I.ok.hd, I.ok.frames, .inl rfl, fun b hb => ⟨?_, fun x c e => ?_⟩, fun b o e => I.bs b o e, Nat.le_trans I.ok.bsz I.sz, fun b o e hb => ?_, fun b hb hb' => ?_, I.stack, I.stkFree⟩,
    rfl, I.bare, Un.kept k1, ⟨_, newNs, fun i x v h1 h2' h3' => ?_⟩, fun x c e => ?_, I.hok.fresh (Nat.le_succ _), fun x c e => ?_, fun p hp => ?_, I.hok.kept k1, ?_⟩
  · -- inj
    rcases cells x c e1 with ⟨a1, a2, _⟩ | ⟨a1, _⟩ <;> rcases cells y c e2 with ⟨b1, b2, _⟩ | ⟨b1, _⟩
    · exact cf_inj sc.names _ _ (fun z d q => by have := clLt z d q; omega) x y c a1 e1 e2
    · obtain ⟨v, q⟩ := I.cell y c b1
      exact absurd q.lt (Nat.not_lt.mpr (Nat.le_trans (Nat.le_add_right _ 2) (by assumption)))
    · obtain ⟨v, q⟩ := I.cell x c a1
      exact absurd q.lt (Nat.not_lt.mpr (Nat.le_trans (Nat.le_add_right _ 2) (by assumption)))
    · exact I.ok.inj x y c a1 b1
  · -- has
    have hx : (relabel sc X.env).names.lookup x = some .cell ∨ (relabel sc X.env).names.lookup x = some .free := hx
    have : (x, NameKind.cell) ∈ sc.names ∨ (x, NameKind.free) ∈ sc.names := by
      rcases hx with hx | hx
      · obtain ⟨k0, q1, q2⟩ := rel_look hx
        rcases relK_vis q2 (.inr (.inl rfl)) with rfl | ⟨rfl, _⟩
        · exact .inl (PySem.mem_of_lookup q1)
        · exact .inr (PySem.mem_of_lookup q1)
      · obtain ⟨k0, q1, q2⟩ := rel_look hx
        rcases relK_vis q2 (.inr (.inr rfl)) with rfl | ⟨_, z⟩
        · exact .inr (PySem.mem_of_lookup q1)
        · cases z
    show ∃ c, (cellsFrom (s.heap.objs.size + 1 + 1) sc.names (closL X.env.cells sc.names [])).lookup x = some c
    rcases cf_look (x := x) sc.names (s.heap.objs.size + 1 + 1) (closL X.env.cells sc.names []) with ⟨c', _, _, h3', _⟩ | ⟨q, qn⟩
    · exact ⟨c', h3'⟩
    · rcases this with z | z
      · exact absurd z qn
      · rw [q]
        rcases clos_look (cells := X.env.cells) (x := x) sc.names [] with q' | ⟨_, q2⟩
        · exact ⟨_, q'⟩
        · exact absurd z q2
  · -- cab
    rcases cells x c e with ⟨a1, _⟩ | ⟨_, a2⟩
    · show s.heap.objs.size ≤ c; omega
    · have hx' : sc.names.lookup x = some .cell := eq_of_beq hx
      rw [look_mem B.nd a2] at hx'
      cases hx'
  · exact Nat.ne_of_lt (Nat.lt_succ_of_lt (hfo b hb))
  · have := hfo b hb
    rcases cells x c e with ⟨a1, _⟩ | ⟨a1, _⟩
    · exact fun z => absurd this (Nat.not_lt.mpr (by rw [← z]; exact Nat.le_trans (Nat.le_add_right _ 2) a1))
    · exact (hf b hb).2.2.2.2.1 x c a1
  · -- noex
    rcases (hf b hb).2.2.2.1 with z | z
    · exact I.ok.noex b o e z
    · exact absurd (Heap.lt_size e) (Nat.not_lt.mpr (Nat.le_trans I.ok.bsz z))
  · rcases List.mem_cons.mp (I.stkSub b hb') with z | z
    · exact (hf b hb).2.1 z
    · exact (hf b hb).2.2.1 z
  · -- loc
    obtain ⟨h2a, h2b⟩ := wipe_get own σ i v h2'
    have h3c : (relabel sc X.env).names.lookup x = some .local ∨ (relabel sc X.env).names.lookup x = some .cell ∨ (relabel sc X.env).names.lookup x = some .free := h3'
    have notown : ∀ k, sc.names.lookup x = some k → k ≠ .local ∧ k ≠ .cell := fun k q => ⟨fun z => h2b (B.own (x, k) (PySem.mem_of_lookup q) (.inl z) i h1), fun z => h2b (B.own (x, k) (PySem.mem_of_lookup q) (.inr z) i h1)⟩
    have fr : (x, NameKind.free) ∈ sc.names := by
      rcases h3c with z | z | z
      · obtain ⟨k0, q1, q2⟩ := rel_look z
        rcases relK_vis q2 (.inl rfl) with rfl | ⟨_, z⟩
        · exact absurd rfl (notown _ q1).1
        · cases z
      · obtain ⟨k0, q1, q2⟩ := rel_look z
        rcases relK_vis q2 (.inr (.inl rfl)) with rfl | ⟨rfl, _⟩
        · exact absurd rfl (notown _ q1).2
        · exact PySem.mem_of_lookup q1
      · obtain ⟨k0, q1, q2⟩ := rel_look z
        rcases relK_vis q2 (.inr (.inr rfl)) with rfl | ⟨_, z⟩
        · exact PySem.mem_of_lookup q1
        · cases z
    obtain ⟨m, hn, hl⟩ := I.loc
    have hv : Vis X.env.scope x := by
      rcases B.free _ fr rfl with z | z
      · exact .inr (.inl z)
      · exact .inr (.inr z)
    obtain ⟨u, r, l⟩ := hl i x v h1 h2a hv
    refine ⟨u, r, ?_⟩
    have kk : (blkEnv sc (closL X.env.cells sc.names []) (s.heap.objs.size + 1) X.env).kindOf x = some .cell ∨ (blkEnv sc (closL X.env.cells sc.names []) (s.heap.objs.size + 1) X.env).kindOf x = some .free := by
      rcases h3c with z | z | z
      · obtain ⟨k0, q1, q2⟩ := rel_look z
        rw [look_mem B.nd fr] at q1
        cases q1
        rcases relK_vis q2 (.inl rfl) with z | ⟨_, z⟩ <;> cases z
      · exact .inl z
      · exact .inr z
    rcases l with ⟨l1, _⟩ | ⟨_, c, ec, z⟩
    · have l1 : X.env.scope.names.lookup x = some .local := l1
      rcases B.free _ fr rfl with z | z <;> (rw [l1] at z; cases z)
    · refine .inr ⟨kk, c, ?_, z.keeps k1⟩
      show (cellsFrom (s.heap.objs.size + 1 + 1) sc.names (closL X.env.cells sc.names [])).lookup x = some c
      rcases cf_look (x := x) sc.names (s.heap.objs.size + 1 + 1) (closL X.env.cells sc.names []) with ⟨c', _, _, _, h4⟩ | ⟨q, _⟩
      · have := look_mem B.nd h4
        rw [look_mem B.nd fr] at this
        cases this
      · rw [q]
        rcases clos_look (cells := X.env.cells) (x := x) sc.names [] with q' | ⟨_, q2⟩
        · rw [q', ec]; rfl
        · exact absurd fr q2
  · -- cell
    rcases cells x c e with ⟨_, _, a3⟩ | ⟨a1, _⟩
    · exact ⟨_, a3⟩
    · obtain ⟨v, q⟩ := I.cell x c a1
      exact ⟨v, q.keeps k1⟩
  · -- freeC
    rcases cells x c e with ⟨a1, _⟩ | ⟨a1, _⟩
    · exact I.hok.fresh (by show s.heap.objs.size ≤ c; omega)
    · exact I.freeC x c a1
  · -- pins
    have hp' : p ∈ ([(s.heap.objs.size, { cls := .type "list", data := .seq ([] : List Value).toArray })] : List (Addr × Obj)) := hp
    obtain rfl : p = (s.heap.objs.size, { cls := .type "list", data := .seq ([] : List Value).toArray }) := by simpa using hp'
    refine ⟨k2 _ _ (by rw [← hh2]; exact Heap.get?_push_size _ rfl), I.hok.fresh (Nat.le_refl _), Nat.ne_of_lt (Nat.lt_succ_self _), fun z => Nat.lt_irrefl _ (hfrs _ z), fun v z => ?_⟩
    have z' : Data.seq ([] : List Value).toArray 0 = Data.cell v := z
    cases z'
  · rw [wipe_len]; exact I.len
end
end L2
/-! COMPREHENSIONS: the rules (own work) -/
namespace L2
open PySem PySem.Spec PyProof.Rows

def testsOf (ifs : List Expr) (env : Env) : Sem Bool :=
  forIn ifs true fun c r => if r = true then (do let ok ← isTrue c env (eval c env); pure (ForInStep.yield ok)) else pure (ForInStep.yield r)
def PTs (X : Cx) (ifs : List Expr) (t : TT) : Prop :=
  ∀ (pins : List (Addr × Obj)) (s : Shared) (σ : St) (H : Hp) (Q : Bool → Hp → Prop), Inv X pins σ H s → t σ H Q → wpAny (model X.prog X.w) X.A (testsOf ifs X.env) (TP X pins σ Q) X.xe s
def tYes : TT := fun _ H Q => Q true H
theorem pts_nil {X : Cx} : PTs X [] tYes := fun _ _ _ H _ I h => wpAny_tests_nil ⟨H, I, h⟩
theorem pts_one {X : Cx} {c : Expr} {t : TT} (hc : PT X c t) : PTs X [c] t := fun pins s σ H Q I h => wpAny_tests_one (hc pins s σ H Q I h)

section
variable {prog : Program} {w : World} {A : Around} {E : Value → Shared → Prop} {R : Result → Shared → Prop} {s : Shared}
theorem newEnv_run {M : Model} {sc : Scope} {g : Addr} {cl : List (Str × Addr)} {qual : Str} {env : Env} {bl : Addr} {Q : Env → Shared → Prop}
    (h : Q { scope := sc, locals := s.heap.objs.size, globals := g, cells := cellsFrom (s.heap.objs.size + 1) sc.names cl, qual := qual, func := none, code := env.code, frame := env.frame, builtins := env.builtins }
      { s with heap := pushCells (s.heap.push { cls := .type "dict", data := .dict #[] }) sc.names }) : wpAny M A (newFunctionEnv sc g cl [] qual none .none (some env) bl) Q E s := by
  simp only [newFunctionEnv, Option.isSome_some, if_true]
  refine wpAny_bind (wpAny_alloc ?_)
  refine wpAny_bind (wpAny_layCells _ (fun name kind cells => by cases hkc : kind == NameKind.cell <;> simp [hkc]) _ _ _ _ ?_)
  rw [show ({ s with heap := s.heap.push { cls := .type "dict", data := .dict #[] } } : Shared).heap.objs.size = s.heap.objs.size + 1 from Heap.size_push ..]
  exact wpAny_bind (wpAny_pure (wpAny_pure h))
theorem comp_loop {elt tg iter : Expr} {ifs : List Expr} {sc : Scope} {pos : Pos} {it acc : Value} {env : Env} (J : Nat → Shared → Prop)
    (turn : ∀ n s, J n s → wpAny (model prog w) A (pyNext it) (fun r s1 => match r with
      | none => R (.ok .next) s1
      | some v => wpAny (model prog w) A (letOwnedTupleGo tg it v) (fun _ s2 => wpAny (model prog w) A (assign tg env v) (fun _ s3 => wpAny (model prog w) A (testsOf ifs env) (fun ok s4 =>
          if ok = true then wpAny (model prog w) A (eval elt env) (fun x s5 => wpAny (model prog w) A (call (.builtin "list.append") [acc, x]) (fun _ s6 => ∃ m, m < n ∧ J m s6) (notedBy (model prog w) A env fun e s' => R (.error e) s') s5) (notedBy (model prog w) A env fun e s' => R (.error e) s') s4
          else ∃ m, m < n ∧ J m s4) (notedBy (model prog w) A env fun e s' => R (.error e) s') s3) (notedBy (model prog w) A env fun e s' => R (.error e) s') s2) (notedBy (model prog w) A env fun e s' => R (.error e) s') s1) (notedBy (model prog w) A env fun e s' => R (.error e) s') s)
    (n : Nat) (h : J n s) : codeAny (model prog w) A (.compLoop (.ListComp elt [⟨tg, iter, ifs, 0⟩] sc pos) 0 it acc env) R s := by
  refine codeAny_loop rfl J (fun n s hJ => ?_) n h
  show wpAny _ A ((compTurn (.ListComp elt [⟨tg, iter, ifs, 0⟩] sc pos) 0 it acc env).onRaise fun x => (do noteFrame x env; theTreesLotGoes x)) _ _ s
  refine wpAny_noted ?_
  rw [compTurn_list]
  refine wpAny_bind (wpAny_standAt (wpAny_bind (thn (turn n s hJ) fun r s1 h1 => ?_)))
  cases r with
  | none => exact wpAny_pure h1
  | some v =>
    refine wpAny_bind (thn h1 fun _ s2 h2 => wpAny_bind (thn h2 fun _ s3 h3 => wpAny_bind (thn h3 fun ok s4 h4 => ?_)))
    cases ok with
    | false => exact wpAny_pure ⟨rfl, h4⟩
    | true => exact wpAny_bind (wpAny_bind (thn h4 fun x s5 h5 => wpAny_bind (thn h5 fun _ s6 h6 => wpAny_pure (wpAny_pure ⟨rfl, h6⟩))))
end

theorem HOk.track {P : Program} {w : World} {H : Hp} {h : Heap} {a : Addr} {o : HO} (x : HOk P w H h) (n : H a = none) (new : ObjOk P w (upd H a o) h a o) : HOk P w (upd H a o) h := fun b u e => by
  by_cases hb : b = a
  · subst hb; rw [upd_same] at e; cases e; exact new
  · rw [upd_ne hb] at e
    exact (x b u e).stay (fun c v _ q => q) (fun c q => by rw [upd_ne (ne_of_none q n)]; exact q) fun c xs q => by rw [upd_ne (ne_of_none q n)]; exact q
theorem Un.track {fs ex : List Addr} {H H' : Hp} {h h' : Heap} {a : Addr} {o : HO} (u : Un fs ex H H' h h') (n : H' a = none) (hz : h.objs.size ≤ a) : Un fs ex H (upd H' a o) h h' where
  keep := u.keep
  slot := u.slot
  free := fun b ob q m hx => by rw [upd_ne (Nat.ne_of_lt (Nat.lt_of_lt_of_le (Heap.lt_size q) hz))]; exact u.free b ob q m hx
  there := u.there
  tups := fun b xs q => by have := u.tups b xs q; rw [upd_ne (ne_of_none this n)]; exact this
  frzs := fun b ob w q => by have := u.frzs b ob w q; rw [upd_ne (ne_of_none this n)]; exact this
  tbls := fun b ps q => by obtain ⟨m, e⟩ := u.tbls b ps q; exact ⟨m, by rw [upd_ne (ne_of_none e n)]; exact e⟩

/-- what a comprehension asks: R is wanted of the items and the heap behind the last turn -/
def CompW (J : It) (g : TG) (tt : TT) (te : TE) (σ0 : St) (R : List V → Hp → Prop) (H1 : Hp) : Prop :=
  ∃ W : Nat → Nat → List V → Hp → Prop, (∃ m, W 0 m [] H1) ∧ ∀ i m ys H, W i m ys H →
    (J.stop i H ∧ R ys H) ∨ (J.go i H ∧ i < sizeLine ∧ ∃ N : List V → Hp → Prop, (∀ ys' H', N ys' H' → ∃ m', m' < m ∧ W (i + 1) m' ys' H') ∧ ∀ x H', J.yld i H x H' → g x σ0 H' fun σ2 H2 => Back σ0 σ2 ∧ tt σ2 H2 fun b H3 =>
      if b = true then te σ2 H3 fun y H4 => N (ys ++ [y]) H4 else N ys H3)

section
variable {X : Cx} {sc : Scope} {own : List Nat} {tg iter elt : Expr} {ifs : List Expr} {wi : TI} {g : TG} {tt : TT} {te : TE}
theorem comp_run {pins : List (Addr × Obj)} {σ : St} {H : Hp} {s : Shared} {pos ppos : Pos} {use : Option (Value → Sem Unit)} {Qc : Value → Shared → Prop} {R : List V → Hp → Prop}
    (hc : X.calm = true) (B : BlkOk X.N X.env.scope sc own) (hi : PI X tg iter wi) (hg : ∀ b, PG (blk X sc b) tg g) (ht : ∀ b, PTs (blk X sc b) ifs tt) (he : ∀ b, PE (blk X sc b) elt te)
    (hs : ∀ x, foldedSetIterable iter X.env x = pure x) (I : Inv X pins σ H s) (h : wi σ H fun J H1 => CompW J g tt te (wipe own σ) R H1)
    (fin : ∀ D C H' ys s' m, Inv X pins σ (upd H' D (.lst ys)) s' → H' D = none → R ys H' → s'.heap.Ns C m → FpOk X pins (upd H' D (.lst ys)) C → compPost (model X.prog X.w) X.A X.xe use Qc (.ref D) C (.ok .next) s') :
    wpAny (model X.prog X.w) X.A (comprehension (.ListComp elt [⟨tg, iter, ifs, 0⟩] sc pos) sc X.env ppos (newList []) false (eval iter X.env) use) Qc X.xe s := by
  have hnames : ∀ x ∈ sc.names, x.2 = .local → sc.names.lookup x.1 = some .local := fun x hx e => look_mem B.nd (by rw [← e]; exact hx)
  refine wpAny_comprehension_free (cl := closL X.env.cells sc.names []) (use := use) rfl hs (clos_is fun y hy e => I.ok.has y.1 (B.free y hy e)) B.kind hnames ?_
  refine thn (hi pins s σ H _ I h) fun v s1 h1 => thn h1 fun itv s2 h2 => ?_
  obtain ⟨it, fp, tn, J, H2, e, I2, T, st2, f2, W, ⟨m0, w0⟩, turn⟩ := h2
  subst e
  refine wpAny_newObj_type (newEnv_run ?_)
  have fpo : ∀ b ∈ fp, b < s2.heap.objs.size := fun b hb => let ⟨o, ho, _⟩ := T.obj _ _ st2 b hb; Heap.lt_size ho
  obtain ⟨D, hD⟩ : ∃ D, D = s2.heap.objs.size := ⟨_, rfl⟩
  obtain ⟨C, hC⟩ : ∃ C, C = s2.heap.objs.size + 1 := ⟨_, rfl⟩
  have szp : (s2.heap.push { cls := .type "list", dict := none, data := .seq ([] : List Value).toArray }).objs.size = C := by rw [hC, Heap.size_push]
  have hDC : D ≠ C := by rw [hD, hC]; exact Nat.ne_of_lt (Nat.lt_succ_self _)
  have st := blk_start (xe := notedBy (model X.prog X.w) X.A (blkEnv sc (closL X.env.cells sc.names []) C X.env) fun e s' => compPost (model X.prog X.w) X.A X.xe use Qc (.ref D) C (.error e) s') I2 B f2 fpo
  dsimp only
  rw [szp, ← hD]
  rw [← hC, ← hD] at st
  generalize hX : blk X sc ⟨closL X.env.cells sc.names [], C, s2, H2, fp, notedBy (model X.prog X.w) X.A (blkEnv sc (closL X.env.cells sc.names []) C X.env) fun e s' => compPost (model X.prog X.w) X.A X.xe use Qc (.ref D) C (.error e) s'⟩ = Y at st
  have eY : Y.env = blkEnv sc (closL X.env.cells sc.names []) C X.env := by rw [← hX]; rfl
  have exY : Y.xe = notedBy (model X.prog X.w) X.A Y.env fun e s' => compPost (model X.prog X.w) X.A X.xe use Qc (.ref D) C (.error e) s' := by rw [eY, ← hX]; rfl
  have pY : Y.prog = X.prog := by rw [← hX]; rfl
  have wY : Y.w = X.w := by rw [← hX]; rfl
  have KY : Y.K = X.K := by rw [← hX]; rfl
  have AY : Y.A = X.A := by rw [← hX]; rfl
  have cY : Y.calm = true := by rw [← hX]; exact hc
  have gY := hg ⟨closL X.env.cells sc.names [], C, s2, H2, fp, notedBy (model X.prog X.w) X.A (blkEnv sc (closL X.env.cells sc.names []) C X.env) fun e s' => compPost (model X.prog X.w) X.A X.xe use Qc (.ref D) C (.error e) s'⟩
  have tY := ht ⟨closL X.env.cells sc.names [], C, s2, H2, fp, notedBy (model X.prog X.w) X.A (blkEnv sc (closL X.env.cells sc.names []) C X.env) fun e s' => compPost (model X.prog X.w) X.A X.xe use Qc (.ref D) C (.error e) s'⟩
  have lY := he ⟨closL X.env.cells sc.names [], C, s2, H2, fp, notedBy (model X.prog X.w) X.A (blkEnv sc (closL X.env.cells sc.names []) C X.env) fun e s' => compPost (model X.prog X.w) X.A X.xe use Qc (.ref D) C (.error e) s'⟩
  rw [hX] at gY tY lY
  have fsY : Y.fs = frs X.stack := by rw [← hX]; rfl
  have exfY : Y.ex = fp := by rw [← hX]; rfl
  have s0Y : Y.s₀ = s2 := by rw [← hX]; rfl
  have H0Y : Y.H₀ = H2 := by rw [← hX]; rfl
  have LY : Y.env.locals = C := by rw [eY]; rfl
  have pnY : Y.pn = [] := by rw [← hX]; rfl
  have eEnv : ({ scope := relabel sc X.env, locals := C, globals := X.env.globals, cells := cellsFrom (C + 1) sc.names (closL X.env.cells sc.names []), qual := X.env.qual, func := none, code := X.env.code, frame := X.env.frame, builtins := X.env.builtins } : Env) = Y.env := by rw [eY]; rfl
  rw [eEnv]
  have TY : Turn Y.prog Y.w Y.K tg J fp it tn := by rw [pY, wY, KY]; exact T
  -- the iterator's objects stay its own
  have dfp : ∀ b ∈ fp, b ≠ D := fun b hb => by rw [hD]; exact Nat.ne_of_lt (fpo b hb)
  have stat : ∀ {pl : List (Addr × Obj)} {H' : Hp}, (∀ p ∈ pl, p.1 = D) → (∀ b ∈ fp, H' b = none) → ∀ b ∈ fp, FpOk Y pl H' b := fun {pl H'} hpl hn b hb => by
    have f := st.ok.exf b (by rw [exfY]; exact hb)
    refine ⟨hn b hb, f.1, st.ok.exfs b (by rw [exfY]; exact hb), .inl (by rw [exfY]; exact hb), f.2, fun p hp => ?_⟩
    rw [pnY, List.nil_append] at hp
    rw [hpl p hp]
    exact Ne.symm (dfp b hb)
  let Lp : Nat → Shared → Prop := fun n s' => ∃ i ys us k H', Inv Y [(D, { cls := .type "list", data := .seq (us : List Value).toArray k })] (wipe own σ) H' s' ∧ tn i s'.heap ∧ (∀ b ∈ fp, H' b = none) ∧ Vals ys us ∧ ys.length ≤ sizeLine ∧ ys.length ≤ i ∧ W i n ys H'
  have start : Lp m0 { s2 with heap := pushCells ((s2.heap.push { cls := .type "list", dict := none, data := .seq ([] : List Value).toArray }).push { cls := .type "dict", data := .dict #[] }) sc.names } := by
    refine ⟨0, [], [], 0, H2, st, T.keep _ _ _ st2 fun b hb o e => ?_, fun b hb => (f2 b hb).1, .nil, Nat.zero_le _, Nat.zero_le _, w0⟩
    exact pushCells_keeps sc.names _ _ _ (Heap.get?_push_of_some _ (Heap.get?_push_of_some _ e))
  have loop : ∀ s4, Lp m0 s4 → codeAny (model X.prog X.w) X.A (.compLoop (.ListComp elt [⟨tg, iter, ifs, 0⟩] sc pos) 0 (.ref it) (.ref D) Y.env) (compPost (model X.prog X.w) X.A X.xe use Qc (.ref D) C) s4 := by
    intro s4 h4
    refine comp_loop Lp ?_ m0 h4
    rintro n s5 ⟨i, ys, us, k, H5, I5, st5, fr5, vs5, le5, ll5, w5⟩
    rw [← exY, ← pY, ← wY, ← AY]
    have pinD : ∀ p ∈ ([(D, { cls := .type "list", data := .seq us.toArray k })] : List (Addr × Obj)), p.1 = D := fun p hp => by
      obtain rfl : p = (D, { cls := .type "list", data := .seq us.toArray k }) := by simpa using hp
      rfl
    rcases turn i n ys H5 w5 with ⟨stop, qn⟩ | ⟨go, lt, N, hN, step⟩
    · refine thn (TY.done Y rfl rfl rfl cY i _ s5 _ H5 Y.xe I5 (stat pinD fr5) st5 stop) fun r s6 ⟨hr, I6⟩ => ?_
      subst hr
      obtain ⟨p1, p2, p3, p4, _⟩ := I6.pin (D, { cls := .type "list", data := .seq us.toArray k }) (List.mem_append_right _ (by simp))
      have u6 : Un (frs X.stack) fp H2 (upd H5 D (.lst ys)) s2.heap s6.heap := by
        have u := I6.base
        rw [fsY, exfY, s0Y, H0Y] at u
        exact u.track p2 (by rw [hD]; exact Nat.le_refl _)
      have hok : HOk X.prog X.w (upd H5 D (.lst ys)) s6.heap := by
        have := I6.hok
        rw [pY, wY] at this
        exact this.track p2 ⟨le5, us, k, vs5, p1⟩
      have I7 : Inv X pins σ (upd H5 D (.lst ys)) s6 := I2.call' (ch := fp) (by rw [← s0Y]; exact I6.os) u6 hok I6.bare fun b hb => ⟨(f2 b hb).2.2.2.1, (f2 b hb).2.1, (f2 b hb).2.2.2.2.1, (f2 b hb).2.2.2.2.2⟩
      obtain ⟨m, hn, _⟩ := I6.loc
      rw [LY] at hn
      rw [pY, wY, AY]
      refine fin D C H5 ys s6 m I7 p2 qn hn (I2.fpOk (by rw [hC]; exact Nat.le_succ _) ?_)
      rw [upd_ne (Ne.symm hDC), ← LY]
      exact I6.free
    · refine thn (TY.item Y rfl rfl rfl cY i _ s5 _ H5 Y.xe I5 (stat pinD fr5) st5 go) fun r s6 ⟨u, hr, h6⟩ => ?_
      subst hr
      refine thn h6 fun _ s7 ⟨x, H7, I7, r7, y7, st7, fr7⟩ => ?_
      have I7' := I7.pinned (stat pinD fr7) (T.obj _ _ st7)
      refine thn (gY _ s7 _ H7 x u _ I7' r7 (step x H7 y7)) fun _ s8 ⟨σ8, H8, I8, bk, q8⟩ => ?_
      refine thn (tY _ s8 σ8 H8 _ I8 q8) fun ok s9 ⟨H9, I9, q9⟩ => ?_
      have fpk : ∀ {σ' : St} {H' : Hp} {s' : Shared}, Inv Y ([(D, { cls := .type "list", data := .seq us.toArray k })] ++ pinsAt fp s7.heap) σ' H' s' → tn (i + 1) s'.heap ∧ (∀ b ∈ fp, H' b = none) := fun {σ' H' s'} I' =>
        ⟨T.keep _ _ _ st7 fun b hb o e => (I'.pin (b, o) (List.mem_append_right _ (List.mem_append_right _ (mem_pinsAt hb e)))).1, fun b hb => by
          obtain ⟨o, e, d⟩ := T.obj _ _ st7 b hb
          exact (I'.pin (b, o) (List.mem_append_right _ (List.mem_append_right _ (mem_pinsAt hb e)))).2.1⟩
      cases ok with
      | false =>
        obtain ⟨m', hm, w'⟩ := hN _ _ q9
        obtain ⟨t9, fr9⟩ := fpk I9
        exact ⟨m', hm, i + 1, ys, us, k, H9, I9.unpinned.weak bk.1.symm bk.2, t9, fr9, vs5, le5, Nat.le_succ_of_le ll5, w'⟩
      | true =>
        refine thn (lY _ s9 σ8 H9 _ I9 q9) fun yv sa ⟨y, Ha, Ia, ra, qa⟩ => ?_
        obtain ⟨m', hm, w'⟩ := hN _ _ qa
        obtain ⟨ta, fra⟩ := fpk Ia
        obtain ⟨p1, p2, p3, p4, _⟩ := Ia.pin (D, { cls := .type "list", data := .seq us.toArray k }) (List.mem_append_right _ (List.mem_append_left _ (by simp)))
        have lus := vs5.length
        refine call_meets F.slot_list_append ⟨_, p1, rfl⟩ F.entry_list_append (F.args_list_append_2 _ _) (PySem.list_append D us.toArray k yv (by rw [List.size_toArray]; omega)) ⟨p1, ?_⟩
        have q := PySem.IsL.update p1 (fun z => z.push yv)
        have Ib : Inv Y [] (wipe own σ) Ha { sa with heap := sa.heap.update D (Obj.mapSeq fun z => z.push yv) } := by
          have I0 : Inv Y [] (wipe own σ) Ha sa := (Ia.pins_of (pins' := []) fun p hp => absurd hp (by simp)).weak bk.1.symm bk.2
          refine I0.turned (t' := sa.toks) (it := D) (fun b o hb e => (Heap.get?_update_other sa.heap _ (Ne.symm hb)).trans e) p2 (by rw [LY]; exact hDC) (.inr (by rw [s0Y, hD]; exact Nat.le_refl _)) (fun z c e => ?_) fun p hp => absurd (show p ∈ ([] : List (Addr × Obj)) by rw [← pnY]; simpa using hp) (by simp)
          obtain ⟨v, o, ho, hd⟩ := st.cell z c e
          rintro rfl
          obtain ⟨o1, _⟩ := st.pin (c, { cls := .type "list", data := .seq ([] : List Value).toArray }) (List.mem_append_right _ (by simp))
          rw [o1] at ho
          cases ho
          cases hd
        have q' : (sa.heap.update D (Obj.mapSeq fun z => z.push yv)).get? D = some { cls := .type "list", data := .seq (us ++ [yv]).toArray (if (us.toArray.push yv).size == us.toArray.size then k else k + 1) } := by
          have e1 : (us ++ [yv]).toArray = us.toArray.push yv := by simp
          rw [e1]; exact q
        refine ⟨m', hm, i + 1, ys ++ [y], us ++ [yv], (if (us.toArray.push yv).size == us.toArray.size then k else k + 1), Ha, Ib.pins_of fun p hp => ?_, T.keep _ _ _ ta fun b hb o e => (Heap.get?_update_other sa.heap _ (Ne.symm (dfp b hb))).trans e, fra, vs5.append (.cons ra .nil), by rw [List.length_append, List.length_singleton]; omega, by rw [List.length_append, List.length_singleton]; omega, w'⟩
        obtain rfl : p = (D, { cls := .type "list", data := .seq (us ++ [yv]).toArray (if (us.toArray.push yv).size == us.toArray.size then k else k + 1) }) := by simpa using hp
        exact ⟨q', p2, by rw [LY]; exact hDC, p4, fun v z => by
          have z' : Data.seq (us ++ [yv]).toArray (if (us.toArray.push yv).size == us.toArray.size then k else k + 1) = Data.cell v := z
          cases z'⟩
  refine codeAny_compStart_list (loop _ start) ?_
  refine T.self X.A 0 _ _ _ ?_ (loop _ start)
  exact T.keep _ _ _ st2 fun b hb o e => pushCells_keeps sc.names _ _ _ (Heap.get?_push_of_some _ (Heap.get?_push_of_some _ e))
end
end L2
/-! COMPREHENSIONS: in use (own work) -/
namespace L2
open PySem PySem.Spec PyProof.Rows

def nodupS : List Str → Bool
  | [] => true
  | x :: r => !(r.contains x) && nodupS r
theorem nodupS_of : ∀ {l : List Str}, nodupS l = true → l.Nodup
  | [], _ => List.nodup_nil
  | x :: r, h => by
    unfold nodupS at h
    rw [Bool.and_eq_true] at h
    refine List.nodup_cons.mpr ⟨fun z => ?_, nodupS_of h.2⟩
    have : r.contains x = true := List.contains_iff_mem.mpr z
    rw [this] at h
    exact absurd h.1 (by decide)
def blkB (N : List Str) (outer sc : Scope) (own : List Nat) : Bool :=
  sc.kind == .function && nodupS (sc.names.map (·.1)) && sc.names.all (fun y => !(y.2 == .free) || (outer.names.lookup y.1 == some .cell || outer.names.lookup y.1 == some .free)) &&
    sc.names.all (fun y => !(y.2 == .local || y.2 == .cell) || (List.range N.length).all fun i => !(N[i]? == some y.1) || own.contains i)
theorem blk_of {N : List Str} {outer sc : Scope} {own : List Nat} (h : blkB N outer sc own = true) : BlkOk N outer sc own := by
  unfold blkB at h
  rw [Bool.and_eq_true, Bool.and_eq_true, Bool.and_eq_true] at h
  obtain ⟨⟨⟨h1, h2⟩, h3⟩, h4⟩ := h
  refine ⟨eq_of_beq h1, nodupS_of h2, fun y hy e => ?_, fun y hy e i hi => ?_⟩
  · have := List.all_eq_true.mp h3 y hy
    rw [e] at this
    rw [show (!(NameKind.free == NameKind.free)) = false from rfl, Bool.false_or, Bool.or_eq_true] at this
    exact this.imp eq_of_beq eq_of_beq
  · have := List.all_eq_true.mp h4 y hy
    have e' : (y.2 == NameKind.local || y.2 == NameKind.cell) = true := by
      rcases e with e | e <;> rw [e] <;> rfl
    rw [e', Bool.not_true, Bool.false_or] at this
    have hlt : i < N.length := (List.getElem?_eq_some_iff.mp hi).1
    have := List.all_eq_true.mp this i (List.mem_range.mpr hlt)
    rw [hi, beq_self_eq_true, Bool.not_true, Bool.false_or] at this
    exact List.contains_iff_mem.mp this

/-- [elt for tg in iter if ..]: a new list; R's heap behind the last turn -/
def tComp (wi : TI) (g : TG) (tt : TT) (te : TE) (own : List Nat) : TE := fun σ H Q => wi σ H fun J H1 => CompW J g tt te (wipe own σ) (fun ys H' => ∀ p H2, New H' H2 p (.lst ys) → Q (.ref p) H2) H1
section
variable {X : Cx} {sc : Scope} {tg iter elt : Expr} {ifs : List Expr} {wi : TI} {g : TG} {tt : TT} {te : TE} {pos : Pos}
theorem Heap.SameBut.keeps {a : Addr} {h h' : Heap} (x : Heap.SameBut a h h') : ∀ b o, b ≠ a → h.get? b = some o → h'.get? b = some o := fun b o hb e => (x.2 b hb).trans e
theorem FpOk.turned {pins : List (Addr × Obj)} {σ : St} {H : Hp} {s : Shared} {C : Addr} {h' : Heap} (I : Inv X pins σ H s) (f : FpOk X pins H C) (sb : Heap.SameBut C s.heap h') : Inv X pins σ H { s with heap := h' } :=
  I.turned (t' := s.toks) (Heap.SameBut.keeps sb) f.1 f.2.1 f.2.2.2.1 f.2.2.2.2.1 f.2.2.2.2.2
theorem ps_setC {i : Nat} {y : Str} {py spos : Pos} (own : List Nat) (hc : X.calm = true) (B : BlkOk X.N X.env.scope sc own) (hi : PI X tg iter wi) (hg : ∀ b, PG (blk X sc b) tg g) (ht : ∀ b, PTs (blk X sc b) ifs tt) (he : ∀ b, PE (blk X sc b) elt te)
    (hN : X.N.Nodup) (hy : X.N[i]? = some y) (hl : X.env.scope.names.lookup y = some .local)
    (hsw : swapsWith (.ListComp elt [⟨tg, iter, ifs, 0⟩] sc pos) (some (.Name y py)) spos.line X.env = pure true := by rfl)
    (hs : ∀ x, foldedSetIterable iter X.env x = pure x := by intro _; rfl) : PS X (.Assign [.Name y py] (.ListComp elt [⟨tg, iter, ifs, 0⟩] sc pos) spos) (tAsg (tComp wi g tt te own) (gName i)) := by
  intro pins s σ H D I h
  rw [exec_Assign_Name_used _ _ _ _ hsw]
  refine wpAny_bind (wpAny_standAt (wpAny_bind ?_))
  show wpAny _ X.A (comprehension (.ListComp elt [⟨tg, iter, ifs, 0⟩] sc pos) sc X.env _ (newList []) false (eval iter X.env) (some (assign (.Name y py) X.env)) >>= fun _ => pure ()) _ _ s
  refine wpAny_bind (comp_run (use := some (assign (.Name y py) X.env)) (Qc := fun _ s' => wpAny (model X.prog X.w) X.A (pure ()) (fun _ s'' => wpAny (model X.prog X.w) X.A (pure Flow.next) (SP X pins D) X.xe s'') X.xe s') hc B hi hg ht he hs I h fun L C H' ys s' m I' n r hn f => ?_)
  refine wpAny_assign_Name (store_ok2 I' hN hy (.inl hl) (v := .ref L) rfl (fun s2 I2 hsb => ?_) (.inr hl))
  obtain ⟨a, sb, ha⟩ := hsb
  have hCa : C ≠ a := by
    rcases ha with z | z
    · rw [z]; exact f.2.1
    · exact Ne.symm (f.2.2.2.2.1 y a z)
  refine ⟨m, hn.sameBut sb hCa, fun h' sb2 => wpAny_pure (wpAny_pure ?_)⟩
  exact ⟨_, _, f.turned I2 sb2, r L _ (.of n)⟩
end

/-! ### the forms one uses -/
theorem back_set {σ : St} {j : Nat} {v : Option V} (h : ∀ x, σ[j]? ≠ some (some x)) : Back σ (σ.set j v) := by
  refine ⟨by simp, fun i x e => ?_⟩
  by_cases hij : j = i
  · subst hij; exact absurd e (h x)
  · rw [List.getElem?_set_ne hij]; exact e
theorem wipe_one {σ : St} {j : Nat} : ∀ x, (wipe [j] σ)[j]? ≠ some (some x) := fun x e => by
  have := (wipe_get [j] σ j x e).2
  simp at this
theorem wipe_set {σ : St} {j : Nat} {v : Option V} : (wipe [j] σ).set j v = σ.set j v := by
  show (σ.set j none).set j v = _
  simp
section
variable {K : PySem.W.Frag} {tt : TT} {te : TE} {σ : St} {j : Nat} {R : List V → Hp → Prop} {H1 : Hp}
theorem comp_list {a : Addr} {xs : List V} (Pv : Nat → List V → Hp → Prop) (hz : xs.length ≤ sizeLine) (h0 : Pv 0 [] H1) (hl : ∀ i ys H, i ≤ xs.length → Pv i ys H → SqL K H a xs)
    (hs : ∀ i x ys H, xs[i]? = some x → Pv i ys H → tt (σ.set j (some x)) H fun b H3 => if b = true then te (σ.set j (some x)) H3 fun y H4 => Pv (i + 1) (ys ++ [y]) H4 else Pv (i + 1) ys H3) (hd : ∀ ys H, Pv xs.length ys H → R ys H) :
    CompW (Itl K a) (gName j) tt te (wipe [j] σ) R H1 := by
  refine ⟨fun i m ys H => m = xs.length - i ∧ i ≤ xs.length ∧ Pv i ys H, ⟨xs.length, by simp, Nat.zero_le _, h0⟩, ?_⟩
  rintro i m ys H ⟨rfl, hi, p⟩
  have q := hl i ys H hi p
  by_cases hlt : i < xs.length
  · refine .inr ⟨⟨xs, xs[i], q, by simp [hlt]⟩, by omega, Pv (i + 1), fun ys' H' q' => ⟨xs.length - (i + 1), by omega, rfl, hlt, q'⟩, fun x H' y => ?_⟩
    obtain ⟨e, y⟩ := y
    subst e
    show Back _ _ ∧ _
    refine ⟨back_set wipe_one, ?_⟩
    rw [wipe_set]
    exact hs i x ys _ (y xs q) p
  · have e : i = xs.length := by omega
    subst e
    exact .inl ⟨⟨xs, q, Nat.le_refl _⟩, hd ys H p⟩
theorem comp_range {lo : Int} {n : Nat} (Pv : Nat → List V → Hp → Prop) (hz : n ≤ sizeLine) (h0 : Pv 0 [] H1)
    (hs : ∀ i ys H, i < n → Pv i ys H → tt (σ.set j (some (.int (lo + i)))) H fun b H3 => if b = true then te (σ.set j (some (.int (lo + i)))) H3 fun y H4 => Pv (i + 1) (ys ++ [y]) H4 else Pv (i + 1) ys H3) (hd : ∀ ys H, Pv n ys H → R ys H) :
    CompW (Itr lo n) (gName j) tt te (wipe [j] σ) R H1 := by
  refine ⟨fun i m ys H => m = n - i ∧ i ≤ n ∧ Pv i ys H, ⟨n, by simp, Nat.zero_le _, h0⟩, ?_⟩
  rintro i m ys H ⟨rfl, hi, p⟩
  by_cases hlt : i < n
  · refine .inr ⟨hlt, by omega, Pv (i + 1), fun ys' H' q' => ⟨n - (i + 1), by omega, rfl, hlt, q'⟩, fun x H' y => ?_⟩
    obtain ⟨e, y⟩ := y
    subst e y
    show Back _ _ ∧ _
    refine ⟨back_set wipe_one, ?_⟩
    rw [wipe_set]
    exact hs i ys _ hlt p
  · have e : i = n := by omega
    subst e
    exact .inl ⟨Nat.le_refl _, hd ys H p⟩
end
end L2
/-! LISTS: sum, max, min, all, any (own work) -/
namespace L2
open PySem PySem.Spec PyProof.Rows

theorem ints_of : ∀ {ns : List Int} {us : List Value}, Vals (ns.map V.int) us → ∃ xs : Array (Int × Tok), us.toArray = intItems xs ∧ ns = xs.toList.map (·.1)
  | [], _, .nil => ⟨#[], by simp [intItems], rfl⟩
  | n :: ns, u :: us, .cons r t => by
    obtain ⟨tk, rfl⟩ := r
    obtain ⟨xs, e1, e2⟩ := ints_of t
    refine ⟨((n, tk) :: xs.toList).toArray, ?_, by simp [e2]⟩
    have e3 : us = (intItems xs).toList := by rw [← e1]
    rw [e3]
    simp [intItems]
section
variable {X : Cx}
theorem call_sumL (hc : X.calm = true) : CallR X (.builtin "sum") (fun xs H Q => ∃ (p : Addr) (ns : List Int), xs = [.ref p] ∧ SqL X.K H p (ns.map V.int) ∧ Q (.int ns.sum) H) := by
  intro pins s σ H xs us Q I r h
  obtain ⟨p, ns, rfl, hq, q⟩ := h
  obtain ⟨u, rfl, rx⟩ := vals1 r
  cases rx
  obtain ⟨its, rv, pl, _⟩ := I.list hq
  obtain ⟨xs, e1, e2⟩ := ints_of rv
  have hl := pl.isList
  rw [e1] at hl
  refine sum_intListG (I.ok.hd hc) hl fun h' tk t' k => ⟨.int ns.sum, H, I.kept k, ⟨t', ?_⟩, q⟩
  rw [preSum_eq, List.take_of_length_le (by simp), e2]
theorem call_maxL (hc : X.calm = true) : CallR X (.builtin "max") (fun xs H Q => ∃ (p : Addr) (ns : List Int), xs = [.ref p] ∧ SqL X.K H p (ns.map V.int) ∧ 0 < ns.length ∧ ∀ M, M ∈ ns → (∀ a, a ∈ ns → a ≤ M) → Q (.int M) H) := by
  intro pins s σ H xs us Q I r h
  obtain ⟨p, ns, rfl, hq, hp, q⟩ := h
  obtain ⟨u, rfl, rx⟩ := vals1 r
  cases rx
  obtain ⟨its, rv, pl, _⟩ := I.list hq
  obtain ⟨xs, e1, e2⟩ := ints_of rv
  have hl := pl.isList
  rw [e1] at hl
  have hsz : 0 < xs.size := by rw [e2, List.length_map, Array.length_toList] at hp; exact hp
  refine max_intList (I.ok.hd hc) hl hsz fun v h' tk hv k => ?_
  obtain ⟨t, rfl⟩ := intItems_at hv
  obtain ⟨h1, h2⟩ := argBest_gt (numAt xs) (xs.size - 1)
  refine ⟨.int _, H, I.kept k, ⟨t, rfl⟩, q _ ?_ fun a ha => ?_⟩
  · rw [e2, numAt_eq]; exact getD_mem (by rw [List.length_map, Array.length_toList]; omega)
  · rw [e2] at ha
    obtain ⟨j, hj, rfl⟩ := mem_getD ha
    rw [List.length_map, Array.length_toList] at hj
    rw [← numAt_eq]; exact h2 j (by omega)
theorem call_minL (hc : X.calm = true) : CallR X (.builtin "min") (fun xs H Q => ∃ (p : Addr) (ns : List Int), xs = [.ref p] ∧ SqL X.K H p (ns.map V.int) ∧ 0 < ns.length ∧ ∀ M, M ∈ ns → (∀ a, a ∈ ns → M ≤ a) → Q (.int M) H) := by
  intro pins s σ H xs us Q I r h
  obtain ⟨p, ns, rfl, hq, hp, q⟩ := h
  obtain ⟨u, rfl, rx⟩ := vals1 r
  cases rx
  obtain ⟨its, rv, pl, _⟩ := I.list hq
  obtain ⟨xs, e1, e2⟩ := ints_of rv
  have hl := pl.isList
  rw [e1] at hl
  have hsz : 0 < xs.size := by rw [e2, List.length_map, Array.length_toList] at hp; exact hp
  refine min_intList (I.ok.hd hc) hl hsz fun v h' tk hv k => ?_
  obtain ⟨t, rfl⟩ := intItems_at hv
  obtain ⟨h1, h2⟩ := argBest_lt (numAt xs) (xs.size - 1)
  refine ⟨.int _, H, I.kept k, ⟨t, rfl⟩, q _ ?_ fun a ha => ?_⟩
  · rw [e2, numAt_eq]; exact getD_mem (by rw [List.length_map, Array.length_toList]; omega)
  · rw [e2] at ha
    obtain ⟨j, hj, rfl⟩ := mem_getD ha
    rw [List.length_map, Array.length_toList] at hj
    rw [← numAt_eq]; exact h2 j (by omega)
end
/-! ### the same with the new list's heap as a letter -/
section
variable {X : Cx}
theorem call_listN : CallR X (.type "list") (fun xs H Q => ∃ p ys, xs = [.ref p] ∧ (SqL X.K H p ys ∨ SqT X.K H p ys) ∧ ∀ l H', New H H' l (.lst ys) → Q (.ref l) H') := by
  intro pins s σ H xs us Q I r h
  obtain ⟨p, ys, e, hq, q⟩ := h
  exact call_list_of pins s σ H xs us Q I r ⟨p, ys, e, hq, fun l hl => q l _ (.of hl)⟩
end
end L2
/-! COMPREHENSIONS that leave the heap; o[i] op= e of lists (own work) -/
namespace L2
open PySem PySem.Spec PyProof.Rows
section
variable {X : Cx}
theorem get_list : PGet X (rIxL X.K) := by
  intro pins s σ H x y v u Q I rx ry h
  obtain ⟨p, xs, i, z, rfl, rfl, hq, he, q⟩ := h
  cases rx
  obtain ⟨t, rfl⟩ := ry
  obtain ⟨its, r, pl, hz⟩ := I.list hq
  obtain ⟨j, h1, h2, h3, h4, h5⟩ := atI_get he
  obtain ⟨w, ew, rw'⟩ := r.get h2
  have hl := r.length
  have hn := line63
  have fin : EP X pins σ Q w s := ⟨z, H, I, rw', q⟩
  by_cases h0 : 0 ≤ i
  · have hj : i.toNat = j := by
      rw [seqIndex_of h0 h5] at h1
      exact Option.some.inj h1
    exact wpAny_getItem_list pl.isList h0 (by omega) (by rw [hj]; simpa using ew) fin
  · have hj : (i + (its.toArray.size : Int)).toNat = j := by
      rw [seqIndex_neg (by omega) h4] at h1
      rw [List.size_toArray, ← hl]
      exact Option.some.inj h1
    exact wpAny_getItem_list_neg pl.isList (by omega) (by rw [List.size_toArray] <;> omega) (by omega) (by rw [hj]; simpa using ew) fin
end
section
variable {K : PySem.W.Frag} {tt : TT} {te : TE} {σ : St} {j : Nat} {R : List V → Hp → Prop} {H1 : Hp}
theorem yes {σ : St} {H : Hp} {F G : Hp → Prop} (h : F H) : tYes σ H (fun b H3 => if b = true then F H3 else G H3) := by
  show if true = true then F H else G H
  exact iteT h
theorem take_map {α β : Type} (f : α → β) {xs : List α} {i : Nat} {x : α} (e : xs[i]? = some x) : (xs.take i).map f ++ [f x] = (xs.take (i + 1)).map f := by
  rw [List.take_add_one, e]; simp
theorem comp_mapL {a : Addr} {xs : List V} (f : V → V) (hl : SqL K H1 a xs) (hz : xs.length ≤ sizeLine) (hs : ∀ (i : Nat) x (Q : VK), xs[i]? = some x → Q (f x) H1 → te (σ.set j (some x)) H1 Q) (hd : R (xs.map f) H1) :
    CompW (Itl K a) (gName j) tYes te (wipe [j] σ) R H1 := by
  refine comp_list (fun i ys H => H = H1 ∧ ys = (xs.take i).map f) hz ⟨rfl, rfl⟩ (fun i ys H _ h => by rw [h.1]; exact hl) (fun i x ys H e h => ?_) (fun ys H h => ?_)
  · obtain ⟨rfl, rfl⟩ := h
    exact yes (hs i x _ e ⟨rfl, take_map f e⟩)
  · obtain ⟨rfl, rfl⟩ := h
    rw [List.take_length]
    exact hd
theorem comp_filR {lo : Int} {n : Nat} (p : Nat → Bool) (f : Nat → V) (hz : n ≤ sizeLine) (ht : ∀ (i : Nat) (Q : Bool → Hp → Prop), i < n → Q (p i) H1 → tt (σ.set j (some (.int (lo + i)))) H1 Q) (hs : ∀ (i : Nat) (Q : VK), i < n → p i = true → Q (f i) H1 → te (σ.set j (some (.int (lo + i)))) H1 Q)
    (hd : R (((List.range n).filter p).map f) H1) : CompW (Itr lo n) (gName j) tt te (wipe [j] σ) R H1 := by
  refine comp_range (fun i ys H => H = H1 ∧ ys = ((List.range i).filter p).map f) hz ⟨rfl, rfl⟩ (fun i ys H e h => ?_) (fun ys H h => ?_)
  · obtain ⟨rfl, rfl⟩ := h
    refine ht i _ e ?_
    cases hp : p i with
    | true =>
      refine iteT (hs i _ e hp ⟨rfl, ?_⟩)
      rw [List.range_succ, List.filter_append, List.filter_cons, List.filter_nil, hp]; simp
    | false =>
      refine iteF ⟨rfl, ?_⟩
      rw [List.range_succ, List.filter_append, List.filter_cons, List.filter_nil, hp]; simp
  · obtain ⟨rfl, rfl⟩ := h
    exact hd
end
/-- all that stood at the entry stays, where a newer object is written -/
theorem Same.upd {H0 H : Hp} {l : Addr} {o : HO} (S : Same H0 H) (n : H0 l = none) : Same H0 (upd H l o) := fun b u e => by
  rw [upd_ne (ne_of_none e n)]
  exact S b u e
end L2
/-! READING by a tactic (own work): rd walks a reading from the left as far as it goes by itself; carry S takes the facts on a heap over to the next -/
namespace L2
open PySem PySem.Spec PyProof.Rows
/-- len(xs) of a list or a tuple -/
def rLen (K : PySem.W.Frag) : List V → Hp → VK → Prop := fun xs H Q => ∃ (p : Addr) (ys : List V), xs = [.ref p] ∧ Sq K H p ys ∧ Q (.int ys.length) H
theorem call_lenQ {X : Cx} : CallR X (.builtin "len") (rLen X.K) := call_len_seq
def rSumL (K : PySem.W.Frag) : List V → Hp → VK → Prop := fun xs H Q => ∃ (p : Addr) (ns : List Int), xs = [.ref p] ∧ SqL K H p (ns.map V.int) ∧ Q (.int ns.sum) H
theorem call_sumQ {X : Cx} (hc : X.calm = true) : CallR X (.builtin "sum") (rSumL X.K) := call_sumL hc
/-- isinstance(x, C) -/
def rIsT (K : PySem.W.Frag) (c : V) (cv : Value) : List V → Hp → VK → Prop := fun xs H Q => ∃ x t b, xs = [x, c] ∧ TyOf K H x t ∧ PySem.W.kitOne K t cv = some b ∧ Q (.bl b) H
def rMaxL (K : PySem.W.Frag) : List V → Hp → VK → Prop := fun xs H Q => ∃ (p : Addr) (ns : List Int), xs = [.ref p] ∧ SqL K H p (ns.map V.int) ∧ 0 < ns.length ∧ ∀ M, M ∈ ns → (∀ a, a ∈ ns → a ≤ M) → Q (.int M) H
def rMinL (K : PySem.W.Frag) : List V → Hp → VK → Prop := fun xs H Q => ∃ (p : Addr) (ns : List Int), xs = [.ref p] ∧ SqL K H p (ns.map V.int) ∧ 0 < ns.length ∧ ∀ M, M ∈ ns → (∀ a, a ∈ ns → M ≤ a) → Q (.int M) H
def rAllL (K : PySem.W.Frag) : List V → Hp → VK → Prop := fun xs H Q => ∃ (p : Addr) (bs : List Bool), xs = [.ref p] ∧ SqL K H p (bs.map V.bl) ∧ Q (.bl (bs.all id)) H
def rAnyL (K : PySem.W.Frag) : List V → Hp → VK → Prop := fun xs H Q => ∃ (p : Addr) (bs : List Bool), xs = [.ref p] ∧ SqL K H p (bs.map V.bl) ∧ Q (.bl (bs.any id)) H
def rListN (K : PySem.W.Frag) : List V → Hp → VK → Prop := fun xs H Q => ∃ p ys, xs = [.ref p] ∧ Sq K H p ys ∧ ∀ l H', New H H' l (.lst ys) → Q (.ref l) H'
theorem kit_bool_int (K : PySem.W.Frag) : PySem.W.kitOne K (.type "bool") (.type "int") = some true := kit_tt K (by decide +kernel) (by decide +kernel) (by decide +kernel)
theorem kit_str_int (K : PySem.W.Frag) : PySem.W.kitOne K (.type "str") (.type "int") = some false := kit_tt K (by decide +kernel) (by decide +kernel) (by decide +kernel)
theorem kit_none_int (K : PySem.W.Frag) : PySem.W.kitOne K (.type "NoneType") (.type "int") = some false := kit_tt K (by decide +kernel) (by decide +kernel) (by decide +kernel)
section
variable {X : Cx} (K : PySem.W.Frag)
theorem ix_Q (h : X.K = K := by rfl) : IxR X (rAt K) := by subst h; exact ix_any
theorem len_Q (h : X.K = K := by rfl) : CallR X (.builtin "len") (rLen K) := by subst h; exact call_lenQ
theorem sum_Q (hc : X.calm = true) (h : X.K = K := by rfl) : CallR X (.builtin "sum") (rSumL K) := by subst h; exact call_sumL hc
theorem max_Q (hc : X.calm = true) (h : X.K = K := by rfl) : CallR X (.builtin "max") (rMaxL K) := by subst h; exact call_maxL hc
theorem min_Q (hc : X.calm = true) (h : X.K = K := by rfl) : CallR X (.builtin "min") (rMinL K) := by subst h; exact call_minL hc
theorem list_Q (h : X.K = K := by rfl) : CallR X (.type "list") (rListN K) := by subst h; exact call_listN
theorem pi_listQ {tg l : Expr} {tl : TE} (hl : PE X l tl) (h : X.K = K := by rfl) : PI X tg l (iList K tl) := by subst h; exact pi_list hl
theorem pg_tupQ {es : List Expr} {k : Nat} {t : TGs} {n : Nat} {pos : Pos} (hc : X.calm = true) (ht : PGs X es t) (hn : (assignEach es X.env).length = n := by rfl) (hst : (assignEach es X.env).findIdx? (·.1) = none := by rfl) (h : X.K = K := by rfl) :
    PG X (.Tuple es k pos) (gTup K n t) := by subst h; exact pg_tup hc ht hn hst
theorem pe_isT {e : Expr} {te : TE} {T : Str} {n : String} {p p2 pos : Pos} (hg : Gl X "isinstance") (hm : X.mg "isinstance" = none) (hgT : Gl X T) (hmT : X.mg T = none) (hvT : bootBuiltins T = some (.type n)) (he : PE X e te)
    (hn : T ≠ "__name__" := by decide) (hd : (T == ("__debug__" : Str)) = false := by decide)
    (s1 : starEach [e, .Name T p2] X.env = (false, eval e X.env) :: starEach [.Name T p2] X.env := by rfl) (hpl : (backTo pos (starEach [.Name T p2] X.env)).any (·.1) = false := by rfl) (h : X.K = K := by rfl) :
    PE X (.Call (.Name "isinstance" p) [e, .Name T p2] [] pos) (tCB (rIsT K (.ty n) (.type n)) (tCons te (tCons (tC (.ty n)) tNil))) := by subst h; exact pe_isinstT hg hm hgT hmT hvT he hn hd s1 hpl
theorem op_eqI : OpR X (compareOp .Eq) (rI0 fun i j => .bl (decide (i = j))) := by
  intro pins s σ H x y v u Q I rx ry ⟨i, j, e1, e2, q⟩
  subst e1 e2
  refine op_eq pins s σ H _ _ v u Q I rx ry ⟨rfl, ?_⟩
  rw [dec_int, Bool.beq_eq_decide_eq]
  exact q
theorem op_neI : OpR X (compareOp .NotEq) (rI0 fun i j => .bl (!decide (i = j))) := by
  intro pins s σ H x y v u Q I rx ry ⟨i, j, e1, e2, q⟩
  subst e1 e2
  refine op_ne pins s σ H _ _ v u Q I rx ry ⟨rfl, ?_⟩
  rw [dec_int, Bool.beq_eq_decide_eq]
  exact q
end
end L2
/-! WHAT ALL TEXTS SHARE (own work): promises of the program's small defs, whatever the law -/
namespace L2
open PySem PySem.Spec PyProof.Rows
section
variable {P : Program} {w : World} {K : PySem.W.Frag} {mg : Str → Option Value} {base : Heap}
/-- a def whose errors are told by CX -/
theorem Fun.okX {CX : CXT} {x qual : Str} {st : Stmt} {f : Addr} {fd : FuncData} {N ps : List Str} {k : Nat} {sp : Sp} (F : Fun K x qual st f fd) (S : FnScope N ps (defScope st)) (len : ∀ vs H Q E, sp vs H Q E → vs.length = ps.length)
    (hbody : ∀ (cdv : Value) (A : Around) (outer : List Env) (s : Shared) (H : Hp) (vs : List V) (Q : VK) (E : XK), Room k (A.deeper (envOfC qual (defScope st) s.heap.objs.size f cdv)) → sp vs H Q E →
      ∃ t, PSs (cxOf CX P w K mg base N qual (defScope st) f cdv A outer s H E) (defBody st) t ∧ t { nx := fun _ H' => Q .non H', rt := Q } (start N vs) H) : FnOk P w K mg base CX (k + 1) f fd ps sp := by
  obtain ⟨oc, od, kV, doc, pm, an, cdv, ct, osl, rfl, lk, hcd⟩ := F.ex
  exact fn_of lk hcd S len fun A outer s H vs Q E hr hsp => hbody cdv A outer s H vs Q E hr hsp
end
/-- no error comes -/
theorem pass1F {P : Program} {w : World} {X : Cx} : Passes (CX1 P w) X E0 := fun _ _ _ _ _ _ _ h => by
  obtain ⟨_, _, _, _, _, _, _, _, _, z⟩ := h
  exact z.elim
/-- the mro of ValueError -/
abbrev bmV : List Value := [.type "ValueError", .type "Exception", .type "BaseException", .type "object"]
/-- a class as isinstance sees it -/
structure ClsTy (K : PySem.W.Frag) (C : Addr) : Prop where
  ha : PySem.W.findIn K (.ref C) "__class__" = some (some (.builtin "object.__class__"))
  hn : PySem.W.specialIn K (.builtin "object.__class__") "__get__" = some (some (.builtin "getset_descriptor.__get__"))
  tk : PySem.W.takesIn K (.builtin "object.__class__") = some true
  ob : PySem.W.mroIn K C (.type "object") = some true
theorem boot_ValueError : bootBuiltins "ValueError" = some (.type "ValueError") := by decide +kernel
/-- isinstance(e, C), e in slot i -/
abbrev tIsE (K : PySem.W.Frag) (i : Nat) (c : V) (cv : Value) : TE := tCB (rIsE K c cv) (tCons (tVar i) (tCons (tC c) tNil))
theorem rep_pair {K : PySem.W.Frag} {H : Hp} {p : Addr} {a b : Int} (h : H p = some (.tup [.int a, .int b])) : Rep K H (.tuple [.int a, .int b]) (.ref p) := by
  simp only [Rep, RepAll]
  exact ⟨p, _, rfl, SqT.of h, _, _, rfl, rfl, _, _, rfl, rfl, rfl⟩
/-- .. a list of ints -/
theorem rep_ints {K : PySem.W.Frag} {H : Hp} : ∀ (ns : List Int), RepAll K H (ns.map PyData.int) (ns.map V.int)
  | [] => by simp only [List.map_nil, RepAll]
  | n :: ns => by
    rw [List.map_cons, List.map_cons, RepAll]
    exact ⟨_, _, rfl, by rw [Rep], rep_ints ns⟩
theorem rep_list {K : PySem.W.Frag} {H : Hp} {p : Addr} {ns : List Int} (h : SqL K H p (ns.map V.int)) : Rep K H (.list (ns.map PyData.int)) (.ref p) := by
  rw [Rep]
  exact ⟨p, _, rfl, h, rep_ints ns⟩
/-- all but the object at p stays -/
def But (p : Addr) (H H' : Hp) : Prop := ∀ b o, H b = some o → b ≠ p → H' b = some o
theorem Fits.le {i j : Int} (h0 : 0 ≤ i) (h : i ≤ j) (f : Fits j) : Fits i := by
  unfold Fits at *
  omega
end L2
namespace SW
open PySem L2
/-! ### the promises -/
def spGcd : Sp := fun vs H Q _ => ∃ a b : Int, vs = [.int a, .int b] ∧ 0 ≤ a ∧ 0 ≤ b ∧ Q (.int (gcdI a b)) H
def spRatio : Sp := fun vs H Q _ => ∃ a b : Int, vs = [.int a, .int b] ∧ 0 ≤ a ∧ 0 < b ∧ Fits b ∧
  ∀ (p : Addr) (H' : Hp) (x y : Int), Low a b x y → New H H' p (.tup [.int x, .int y]) → Q (.ref p) H'
/-- a ratio at p -/
structure Rat (H : Hp) (p : Addr) (x y : Int) : Prop where
  at_ : H p = some (.tup [.int x, .int y])
  x0 : 0 ≤ x
  y0 : 0 < y
  xl : x < 10 ^ 40
  yl : y < 10 ^ 40
def spBelow : Sp := fun vs H Q _ => ∃ (p q : Addr) (a b c d : Int), vs = [.ref p, .ref q] ∧ Rat H p a b ∧ Rat H q c d ∧ Q (.bl (decide (a * d < c * b))) H
def spOver : Sp := fun vs H Q _ => ∃ (p q : Addr) (a b c d : Int), vs = [.ref p, .ref q] ∧ Rat H p a b ∧ Rat H q c d ∧ 0 < c ∧
  ∀ (r : Addr) (H' : Hp) (x y : Int), Low (a * d) (b * c) x y → New H H' r (.tup [.int x, .int y]) → Q (.ref r) H'
def spDraw : Sp := fun vs H Q _ => ∃ c k m : Int, vs = [.int c, .int k, .int m] ∧ 0 ≤ k ∧ k < 1000 ∧ 0 < m ∧ ∀ (v : Int) (H' : Hp), 0 ≤ v → v < m → Same H H' → Q (.int v) H'
/-- _law_great: a number below the third -/
def spGreat : Sp := fun vs H Q _ => ∃ c k m : Int, vs = [.int c, .int k, .int m] ∧ 0 ≤ k ∧ k < 900 ∧ 0 < m ∧ ∀ (v : Int) (H' : Hp), 0 ≤ v → v < m → Same H H' → Q (.int v) H'
/-- _law_vote -/
def spVote : Sp := fun vs H Q _ => ∃ c : Int, vs = [.int c] ∧ ∀ (v : Int) (H' : Hp), 0 ≤ v → v ≤ 1000000000 → Same H H' → Q (.int v) H'
/-- _law_cell_at -/
def spCellAt (K : PySem.W.Frag) : Sp := fun vs H Q _ => ∃ (a : Addr) (ns : List Int) (k : Int), vs = [.ref a, .int k] ∧ SqL K H a (ns.map V.int) ∧ 0 ≤ k ∧ ∀ v : Int, Q (.int v) H
/-- a plain value -/
def plainV : V → Bool
  | .non => true | .bl _ => true | .int _ => true | .str _ => true | _ => false
def wholeV : V → Bool
  | .int _ => true | _ => false
def spWhole : Sp := fun vs H Q _ => ∃ v, vs = [v] ∧ plainV v = true ∧ Q (.bl (wholeV v)) H
def spRuleInit (K : PySem.W.Frag) : Sp := fun vs H Q _ => ∃ (p C dx t : Addr), vs = [.ref p, .ref t] ∧ H p = some (.ins C dx []) ∧ Cls K C ∧ NoAttr K C "whole" ∧ Q .non (upd H p (.ins C dx [("whole", .ref t)]))
/-- a rule's class -/
structure RuleC (K : PySem.W.Frag) (C fm : Addr) (ff : Option Addr) : Prop where
  cl : Cls K C
  nw : NoAttr K C "whole"
  mr : Meth K C "mark" fm
  ft : ∀ f, ff = some f → Meth K C "fits" f
  ty : ClsTy K C
/-- a rule at p, its own part a by b -/
structure RuleAt (K : PySem.W.Frag) (fm : Addr) (ff : Option Addr) (H : Hp) (p : Addr) (a b : Int) : Prop where
  ob : ∃ C dx t, RuleC K C fm ff ∧ H p = some (.ins C dx [("whole", .ref t)]) ∧ H t = some (.tup [.int a, .int b])
  a0 : 0 < a
  ab : a ≤ b
  b1 : b ≤ 1000
section
variable {K : PySem.W.Frag} {fm : Addr} {ff : Option Addr}
theorem RuleAt.same {H H' : Hp} {p : Addr} {a b : Int} (R : RuleAt K fm ff H p a b) (S : Same H H') : RuleAt K fm ff H' p a b := by
  obtain ⟨C, dx, t, hC, h1, h2⟩ := R.ob
  exact ⟨⟨C, dx, t, hC, S _ _ h1, S _ _ h2⟩, R.a0, R.ab, R.b1⟩
/-- what a rule's __init__ leaves -/
def Made (C : Addr) (H H' : Hp) (p dx : Addr) (a b : Int) : Prop := ∃ t, H' p = some (.ins C dx [("whole", .ref t)]) ∧ H' t = some (.tup [.int a, .int b]) ∧ But p H H'
def spInit1 (C : Addr) (a b : Int) : Sp := fun vs H Q _ => ∃ p dx, vs = [.ref p] ∧ H p = some (.ins C dx []) ∧ ∀ H', Made C H H' p dx a b → Q .non H'
def goodPQ (u v : V) : Prop := ∃ p q : Int, u = .int p ∧ v = .int q ∧ 0 < p ∧ p ≤ q ∧ q ≤ 1000
/-- Between(u, v), the class at C, the error's class at B -/
def spBetween (C B : Addr) : Sp := fun vs H Q E => ∃ p dx u v, vs = [.ref p, u, v] ∧ H p = some (.ins C dx []) ∧ plainV u = true ∧ plainV v = true ∧
  (∀ m n H' x y, u = .int m → v = .int n → 0 < m → m ≤ n → n ≤ 1000 → Low m n x y → Made C H H' p dx x y → Q .non H') ∧ (¬ goodPQ u v → ∀ H', Same H H' → E (.ref B) none H')
def spMark (K : PySem.W.Frag) (fm : Addr) (ff : Option Addr) : Sp := fun vs H Q _ => ∃ (p : Addr) (n a b : Int), vs = [.ref p, .int n] ∧ RuleAt K fm ff H p a b ∧ 1 ≤ n ∧ n ≤ 1000 ∧
  ∀ (r : Addr) (H' : Hp) (x y : Int), Low (a + (n - 1) * b) b x y → New H H' r (.tup [.int x, .int y]) → Q (.ref r) H'
/-- whether u by v is rounded to n by the rule whose part is a by b -/
def fitsB (u v a b n : Int) : Bool := !(decide (0 < n) && decide (u * b < v * (a + (n - 1) * b))) && decide (u * b ≤ v * (a + n * b))
def spFits (K : PySem.W.Frag) (fm : Addr) (ff : Option Addr) : Sp := fun vs H Q _ => ∃ (p r : Addr) (n u v a b : Int), vs = [.ref p, .ref r, .int n] ∧ RuleAt K fm ff H p a b ∧ Rat H r u v ∧ 0 ≤ n ∧ n ≤ 900 ∧ ∀ H', Same H H' → Q (.bl (fitsB u v a b n)) H'
def spLFits : Sp := fun vs H Q _ => ∃ (t : Addr) (u v p q n : Int), vs = [.int u, .int v, .ref t, .int n] ∧ H t = some (.tup [.int p, .int q]) ∧ 0 ≤ u ∧ u < 10 ^ 40 ∧ 0 < v ∧ v < 10 ^ 40 ∧ 0 < p ∧ p ≤ q ∧ q ≤ 1000 ∧ 0 ≤ n ∧ n ≤ 1000 ∧ Q (.bl (fitsB u v p q n)) H
def spRule (K : PySem.W.Frag) (fm : Addr) (ff : Option Addr) : Sp := fun vs H Q _ => ∃ c : Int, vs = [.int c] ∧ ∀ (r p t : Addr) (H' : Hp) (a b m n : Int), H' r = some (.tup [.ref p, .ref t]) → RuleAt K fm ff H' p a b → H' t = some (.tup [.int m, .int n]) → 0 < m → m ≤ n → n ≤ 1000 → a * n = b * m → Same H H' → Q (.ref r) H'
def spLaw (K : PySem.W.Frag) : Sp := fun vs H Q _ => ∃ (a : Addr) (ns : List Int), vs = [.ref a] ∧ SqL K H a (ns.map V.int) ∧ ns.length ≤ 63 ∧ ∀ H', Q (.bl true) H'
theorem whole_look (t : Addr) : List.lookup ("whole" : Str) ([("whole", V.ref t)] : List (Str × V)) = some (.ref t) := by
  rw [List.lookup_cons, beq_self_eq_true]
theorem look_no {m : Str} (v : V) (h : (m == ("whole" : Str)) = false) : List.lookup m ([("whole", v)] : List (Str × V)) = none := by
  rw [List.lookup_cons, h]
  rfl
theorem made_of2 {C : Addr} {H H' : Hp} {p dx t : Addr} {a b : Int} (N : New H H' t (.tup [.int a, .int b])) (hp : H p = some (.ins C dx [])) : Made C H (upd H' p (.ins C dx [("whole", .ref t)])) p dx a b := by
  have ne : t ≠ p := fun e => by rw [← e, N.gone] at hp; cases hp
  refine ⟨t, upd_same, by rw [upd_ne ne]; exact N.at_, fun c o z n => ?_⟩
  rw [upd_ne n]
  exact N.same c o z
theorem same_made {C : Addr} {H H2 : Hp} {x dx : Addr} {a b : Int} (nx : H x = none) (ndx : H dx = none) (M : Made C (upd (upd H dx (.own x)) x (.ins C dx [])) H2 x dx a b) : Same H H2 := by
  obtain ⟨t, h1, h2, h3⟩ := M
  intro c o z
  refine h3 c o ?_ (ne_of_none z nx)
  rw [upd_ne (ne_of_none z nx), upd_ne (ne_of_none z ndx)]
  exact z
theorem rule_made {C : Addr} {H H2 : Hp} {x dx : Addr} {a b : Int} (hC : RuleC K C fm ff) (M : Made C H H2 x dx a b) (a0 : 0 < a) (ab : a ≤ b) (b1 : b ≤ 1000) : RuleAt K fm ff H2 x a b := by
  obtain ⟨t, h1, h2, _⟩ := M
  exact ⟨⟨C, dx, t, hC, h1, h2⟩, a0, ab, b1⟩
theorem not_good {u v : V} (h : ¬ (wholeV u = true ∧ wholeV v = true)) : ¬ goodPQ u v := fun ⟨p, q, e1, e2, _⟩ => h ⟨by rw [e1]; rfl, by rw [e2]; rfl⟩
theorem log_1000 : (1000 : Int).natAbs.log2 < 1920 := by decide
/-! a rule's methods, whichever class it is of -/
def tRuleM (K : PySem.W.Frag) (fm : Addr) (ff : Option Addr) (sp : Sp) (ta : TE) (t : TA) : TE := fun σ H Q => ta σ H fun x H1 => ∃ a C dx t0, x = .ref a ∧ RuleC K C fm ff ∧ H1 a = some (.ins C dx [("whole", .ref t0)]) ∧ t σ H1 fun vs H2 => sp (x :: vs) H2 Q E0
section
variable {X : Cx} {o e : Expr} {es : List Expr} {ta : TE} {t : TA} {apos pos : Pos} {fd : FuncData} {k : Nat} {ps : List Str} {sp : Sp}
theorem pe_mark {pl : Sem Bool} (F : FnOk X.prog X.w X.K X.mg X.base CX0 k fm fd ps sp) (hb : Binds X.K fd ps []) (hr : Room k X.A) (he : PE X o ta) (ha : PA X (e :: es) t) (hst : starEach (e :: es) X.env = (false, eval e X.env) :: starEach es X.env := by rfl) (hpl : (backTo pos (starEach es X.env)).any (·.1) = false := by rfl)
    (ht : eval (.Call (.Attribute o "mark" apos) (e :: es) [] pos) X.env = (do
      let ov ← eval o X.env
      standAt apos.atName
      let (f, first) ← holding [ov] (getMethod ov "mark" pl)
      callWith pos f first (backTo pos (starEach (e :: es) X.env)) (backToKw pos (keywordEach [] X.env))) := by rfl) :
    PE X (.Call (.Attribute o "mark" apos) (e :: es) [] pos) (tRuleM X.K fm ff sp ta t) := by
  intro pins s σ H Q I h
  refine PySem.W.methodCall_KW (pl := pl) (thn (he pins s σ H _ I h) fun u s1 ⟨x, H1, I1, rx, a, C, dx, t0, ex, RC, ea, q⟩ => ?_) ht
  subst ex
  obtain rfl : u = Value.ref a := rx
  refine getmeth_ok I1 ea RC.cl RC.mr (look_no _ (by decide +kernel)) ?_
  refine PySem.W.callWith_K (first := [.ref a]) (h₀ := X.base) I.ok.mod.kin RC.mr.kp (thn (ha pos pins s1 σ H1 _ I1 q) fun us s2 ⟨vs, H2, I2, r, q2⟩ => ⟨I2.kIn, ?_⟩) hst hpl
  exact run_fn (us := .ref a :: us) (vs := .ref a :: vs) (dvs := []) F hr hb .nil pass0 I2 (.cons rfl r) (by rw [List.append_nil]; exact q2)
end
end
/-! ### arithmetic -/
/-- the same answer by two tellings of one part -/
theorem fitsB_same {u v a b p q n : Int} (b0 : 0 < b) (q0 : 0 < q) (e : a * q = b * p) : fitsB u v a b n = fitsB u v p q n := by
  have key : ∀ k : Int, q * (v * (a + k * b)) = b * (v * (p + k * q)) := fun k => by grind
  have key2 : q * (u * b) = b * (u * q) := by grind
  have lt : ∀ k : Int, (u * b < v * (a + k * b)) ↔ (u * q < v * (p + k * q)) := fun k => by
    constructor
    · intro h
      have := Int.mul_lt_mul_of_pos_left h q0
      rw [key k, key2] at this
      exact Int.lt_of_mul_lt_mul_left this (Int.le_of_lt b0)
    · intro h
      have := Int.mul_lt_mul_of_pos_left h b0
      rw [← key k, ← key2] at this
      exact Int.lt_of_mul_lt_mul_left this (Int.le_of_lt q0)
  have le : (u * b ≤ v * (a + n * b)) ↔ (u * q ≤ v * (p + n * q)) := by
    constructor
    · intro h
      have := Int.mul_le_mul_of_nonneg_left h (Int.le_of_lt q0)
      rw [key n, key2] at this
      exact Int.le_of_mul_le_mul_left this b0
    · intro h
      have := Int.mul_le_mul_of_nonneg_left h (Int.le_of_lt b0)
      rw [← key n, ← key2] at this
      exact Int.le_of_mul_le_mul_left this q0
  unfold fitsB
  rw [decide_eq_decide.mpr (lt (n - 1)), decide_eq_decide.mpr le]
def primes : List V := [1000003, 1000033, 1000037, 1000039, 1000081, 1000099, 1000117, 1000121, 1000133, 1000151, 1000159, 1000171, 1000183, 1000187, 1000193, 1000199].map V.int
theorem prime_at (k : Int) (h0 : 0 ≤ k) (h1 : k < 16) : ∃ n : Int, 0 < n ∧ atI primes k = some (.int n) := by
  have hk : k.toNat < 16 := by omega
  have e : ∀ j : Nat, j < 16 → ∃ n : Int, 0 < n ∧ primes[j]? = some (.int n) := by
    intro j hj
    match j, hj with
    | (n + 16), h => exact absurd h (by omega)
    | 0, _ | 1, _ | 2, _ | 3, _ | 4, _ | 5, _ | 6, _ | 7, _ | 8, _ | 9, _ | 10, _ | 11, _ | 12, _ | 13, _ | 14, _ | 15, _ => exact ⟨_, by decide, rfl⟩
  obtain ⟨n, hn, e'⟩ := e k.toNat hk
  exact ⟨n, hn, atI_of h0 e'⟩
end SW
/-! == OF DATA: lists of numbers, tables, pairs (own work) -/
namespace L2
open PySem PySem.Spec PyProof.Rows
def dI (ns : List Int) : PyData := .list (ns.map .int)
def dM (rs : List (List Int)) : PyData := .list (rs.map dI)
def dP (a b : Int) : PyData := .tuple [.int a, .int b]
theorem lay_ints : ∀ ns : List Int, PyData.canLayAll0 (ns.map .int) = true
  | [] => by simp [PyData.canLayAll0]
  | n :: ns => by simp [PyData.canLayAll0, PyData.canLay0, lay_ints ns]
theorem lay_dI (ns : List Int) : (dI ns).canLay0 = true := by unfold dI; rw [PyData.canLay0]; exact lay_ints ns
theorem lay_dP (a b : Int) : (dP a b).canLay0 = true := by simp [dP, PyData.canLay0, PyData.canLayAll0]
theorem dep_ints : ∀ ns : List Int, PyData.depthAll (ns.map .int) = 0
  | [] => by simp [PyData.depthAll]
  | n :: ns => by simp [PyData.depthAll, PyData.depth, dep_ints ns]
theorem dep_dI (ns : List Int) : (dI ns).depth ≤ 64 := by unfold dI; rw [PyData.depth, dep_ints]; decide
theorem dep_dP (a b : Int) : (dP a b).depth ≤ 64 := by simp [dP, PyData.depth, PyData.depthAll]
theorem eqv_ints : ∀ ns ms : List Int, PyData.eqvAll (ns.map .int) (ms.map .int) = decide (ns = ms)
  | [], [] => by simp [PyData.eqvAll]
  | [], _ :: _ => by simp [PyData.eqvAll]
  | _ :: _, [] => by simp [PyData.eqvAll]
  | n :: ns, m :: ms => by
    rw [List.map_cons, List.map_cons, PyData.eqvAll, PyData.eqv, eqv_ints ns ms]
    by_cases h : n = m
    · subst h; simp
    · simp [h]
theorem eqv_dI (ns ms : List Int) : PyData.eqv (dI ns) (dI ms) = decide (ns = ms) := by unfold dI; rw [PyData.eqv]; exact eqv_ints ns ms
theorem eqv_dP (a b c d : Int) : PyData.eqv (dP a b) (dP c d) = decide (a = c ∧ b = d) := by
  unfold dP
  rw [PyData.eqv, PyData.eqvAll, PyData.eqvAll, PyData.eqvAll, PyData.eqv, PyData.eqv]
  by_cases h : a = c <;> by_cases h' : b = d <;> simp [h, h']
section
variable {K : PySem.W.Frag} {H : Hp}
theorem rep_dI {p : Addr} {ns : List Int} (h : SqL K H p (ns.map V.int)) : Rep K H (dI ns) (.ref p) := rep_list h
theorem rep_dP {p : Addr} {a b : Int} (h : H p = some (.tup [.int a, .int b])) : Rep K H (dP a b) (.ref p) := rep_pair h
/-- a table at p: a list of lists of numbers -/
def Mat (K : PySem.W.Frag) (H : Hp) (p : Addr) (rs : List (List Int)) : Prop := ∃ as : List Addr, SqL K H p (as.map V.ref) ∧ as.length = rs.length ∧ ∀ (i : Nat) (a : Addr) (r : List Int), as[i]? = some a → rs[i]? = some r → SqL K H a (r.map V.int)
end
/-! ### rules in short -/
def rEqLI (K : PySem.W.Frag) (neg : Bool) : R2 := fun x y H Q => ∃ (p q : Addr) (ns ms : List Int), x = .ref p ∧ y = .ref q ∧ SqL K H p (ns.map V.int) ∧ SqL K H q (ms.map V.int) ∧ Q (.bl (if neg then !decide (ns = ms) else decide (ns = ms))) H
def rEqM (K : PySem.W.Frag) (neg : Bool) : R2 := fun x y H Q => ∃ (p q : Addr) (ns ms : List (List Int)), x = .ref p ∧ y = .ref q ∧ Mat K H p ns ∧ Mat K H q ms ∧ Q (.bl (if neg then !decide (ns = ms) else decide (ns = ms))) H
def rEqP (neg : Bool) : R2 := fun x y H Q => ∃ (p q : Addr) (a b c d : Int), x = .ref p ∧ y = .ref q ∧ H p = some (.tup [.int a, .int b]) ∧ H q = some (.tup [.int c, .int d]) ∧ Q (.bl (if neg then !decide (a = c ∧ b = d) else decide (a = c ∧ b = d))) H
section
variable {X : Cx}
theorem op_eqLI (hu : X.A.units + 64 < cLine) : OpR X (compareOp .Eq) (rEqLI X.K false) := by
  intro pins s σ H x y v u Q I rx ry ⟨p, q, ns, ms, e1, e2, h1, h2, k⟩
  subst e1 e2
  exact op_eqD hu pins s σ H _ _ v u Q I rx ry ⟨_, _, rep_dI h1, rep_dI h2, lay_dI _, lay_dI _, dep_dI _, by rw [eqv_dI]; exact k⟩
theorem op_neLI (hu : X.A.units + 64 < cLine) : OpR X (compareOp .NotEq) (rEqLI X.K true) := by
  intro pins s σ H x y v u Q I rx ry ⟨p, q, ns, ms, e1, e2, h1, h2, k⟩
  subst e1 e2
  exact op_neD hu pins s σ H _ _ v u Q I rx ry ⟨_, _, rep_dI h1, rep_dI h2, lay_dI _, lay_dI _, dep_dI _, by rw [eqv_dI]; exact k⟩
theorem op_neP (hu : X.A.units + 64 < cLine) : OpR X (compareOp .NotEq) (rEqP true) := by
  intro pins s σ H x y v u Q I rx ry ⟨p, q, a, b, c, d, e1, e2, h1, h2, k⟩
  subst e1 e2
  exact op_neD hu pins s σ H _ _ v u Q I rx ry ⟨_, _, rep_dP h1, rep_dP h2, lay_dP _ _, lay_dP _ _, dep_dP _ _, by rw [eqv_dP]; exact k⟩
end
section
variable {X : Cx} (K : PySem.W.Frag)
theorem eqLI_Q (hu : X.A.units + 64 < cLine) (h : X.K = K := by rfl) : OpR X (compareOp .Eq) (rEqLI K false) := by subst h; exact op_eqLI hu
theorem neLI_Q (hu : X.A.units + 64 < cLine) (h : X.K = K := by rfl) : OpR X (compareOp .NotEq) (rEqLI K true) := by subst h; exact op_neLI hu
end
theorem decVI (a b : Int) : decide (V.int a = V.int b) = decide (a = b) := by
  by_cases h : a = b
  · subst h; simp
  · have : ¬ V.int a = V.int b := fun z => h (V.int.inj z)
    rw [decide_eq_false this, decide_eq_false h]
end L2
namespace SW
/-- the price of the n-th seat of v votes by the rule whose part is a by b, in least numbers -/
structure Pr (a b v n x y : Int) : Prop where
  x0 : 0 < x
  y0 : 0 < y
  one : gcdI x y = 1
  eq : x * (b * v) = y * (a + (n - 1) * b)
  xl : x ≤ a + (n - 1) * b
  yl : y ≤ b * v
theorem pr_of {a b v n m k x y : Int} (b0 : 0 < b) (v0 : 0 < v) (A0 : 0 < a + (n - 1) * b) (L1 : Low (a + (n - 1) * b) b m k) (L2 : Low (m * 1) (k * v) x y) : Pr a b v n x y := by
  have e1 := L1.eq
  have e2 := L2.eq
  have k0 := L1.y0
  have y0 := L2.y0
  have eq : x * (b * v) = y * (a + (n - 1) * b) := by
    have : k * (x * (b * v)) = k * (y * (a + (n - 1) * b)) := by grind
    exact Int.eq_of_mul_eq_mul_left (Int.ne_of_gt k0) this
  have x0 : 0 < x := by
    rcases Int.lt_or_le 0 x with z | z
    · exact z
    · have : x = 0 := by have := L2.x0; omega
      subst this
      have := Int.mul_pos y0 A0
      rw [Int.zero_mul] at eq
      omega
  refine ⟨x0, y0, L2.one, eq, ?_, ?_⟩
  · have h1 := L2.lex; have h2 := L1.lex; omega
  · have h1 := L2.ley
    have h2 := Int.mul_le_mul_of_nonneg_right L1.ley (Int.le_of_lt v0)
    omega
theorem lt_le_tr {x y x' y' z t : Int} (y0 : 0 < y) (y1 : 0 < y') (t0 : 0 < t) (h : x' * y < x * y') (g : ¬ z * y < x * t) : x' * t < z * y' := by
  have g' : x * t ≤ z * y := by omega
  have h1 := Int.mul_lt_mul_of_pos_right h t0
  have h2 := Int.mul_le_mul_of_nonneg_right g' (Int.le_of_lt y1)
  have : y * (x' * t) < y * (z * y') := by grind
  exact Int.lt_of_mul_lt_mul_left this (Int.le_of_lt y0)
theorem le_le_tr {x y x' y' z t : Int} (y0 : 0 < y) (y1 : 0 < y') (t0 : 0 < t) (h : x' * y < x * y') (g : ¬ z * y < x * t) : ¬ z * y' < x' * t := by
  have := lt_le_tr y0 y1 t0 h g
  omega

theorem sum_set : ∀ (gs : List Int) (k : Nat) (g h : Int), gs[k]? = some g → (gs.set k h).sum = gs.sum + (h - g)
  | [], _, _, _, e => by simp at e
  | x :: r, 0, g, h, e => by simp at e; subst e; simp; omega
  | x :: r, k + 1, g, h, e => by
    have := sum_set r k g h (by simpa using e)
    simp only [List.set_cons_succ, List.sum_cons]
    omega
theorem get_set {α : Type} {gs : List α} {k j : Nat} {h x : α} (e : (gs.set k h)[j]? = some x) : (j = k ∧ x = h ∧ k < gs.length) ∨ (j ≠ k ∧ gs[j]? = some x) := by
  by_cases hj : k = j
  · subst hj
    rw [List.getElem?_set] at e
    rw [if_pos rfl] at e
    split at e
    · rename_i hlt; cases e; exact .inl ⟨rfl, rfl, hlt⟩
    · cases e
  · rw [List.getElem?_set_ne hj] at e
    exact .inr ⟨fun z => hj z.symm, e⟩

theorem up_of {N D x y B A : Int} (B0 : 0 < B) (y0 : 0 < y) (h : N * B ≤ D * A) (e : x * B = y * A) : N * y ≤ D * x := by
  have h1 := Int.mul_le_mul_of_nonneg_right h (Int.le_of_lt y0)
  have q1 : B * (N * y) = N * B * y := by grind
  have q2 : B * (D * x) = D * A * y := by
    have : B * (D * x) = D * (x * B) := by grind
    rw [this, e]; grind
  rw [← q1, ← q2] at h1
  exact Int.le_of_mul_le_mul_left h1 B0
theorem lo_of {N D x y B A : Int} (B0 : 0 ≤ B) (y0 : 0 ≤ y) (D0 : 0 < D) (h : D * A ≤ N * B) (up : N * y ≤ D * x) : y * A ≤ x * B := by
  have h1 := Int.mul_le_mul_of_nonneg_right h y0
  have h2 := Int.mul_le_mul_of_nonneg_right up B0
  have q1 : D * (y * A) = D * A * y := by grind
  have q2 : D * (x * B) = D * x * B := by grind
  have q3 : N * B * y = N * y * B := by grind
  have : D * (y * A) ≤ D * (x * B) := by omega
  exact Int.le_of_mul_le_mul_left this D0
theorem dn_of {N D x y B A : Int} (B0 : 0 < B) (y0 : 0 < y) (h : D * A ≤ N * B) (e : x * B = y * A) : D * x ≤ N * y := by
  have h1 := Int.mul_le_mul_of_nonneg_right h (Int.le_of_lt y0)
  have q1 : B * (N * y) = N * B * y := by grind
  have q2 : B * (D * x) = D * A * y := by
    have : B * (D * x) = D * (x * B) := by grind
    rw [this, e]; grind
  rw [← q1, ← q2] at h1
  exact Int.le_of_mul_le_mul_left h1 B0
theorem eq_of {N D x y B A : Int} (y0 : 0 < y) (h : N * y = D * x) (e : x * B = y * A) : N * B = D * A := by
  have : y * (N * B) = y * (D * A) := by
    have q1 : y * (N * B) = N * y * B := by grind
    have q2 : D * x * B = D * (x * B) := by grind
    rw [q1, h, q2, e]; grind
  exact Int.eq_of_mul_eq_mul_left (Int.ne_of_gt y0) this
/-- n seats are dealt: gs by the ratio N by D -/
structure Dl (a b : Int) (vs gs : List Int) (n N D : Int) : Prop where
  len : gs.length = vs.length
  sum : gs.sum = n
  nn : ∀ (k : Nat) (v g : Int), vs[k]? = some v → gs[k]? = some g → 0 ≤ g ∧ (v = 0 → g = 0)
  hi : ∀ (k : Nat) (v g : Int), vs[k]? = some v → gs[k]? = some g → 0 < v → N * (b * v) ≤ D * (a + g * b)
  lo : ∀ (k : Nat) (v g : Int), vs[k]? = some v → gs[k]? = some g → 0 < v → 0 < g → D * (a + (g - 1) * b) ≤ N * (b * v)
  giver : 0 < n → ∃ (k : Nat) (v g : Int), vs[k]? = some v ∧ gs[k]? = some g ∧ 0 < v ∧ 0 < g ∧ N * (b * v) = D * (a + (g - 1) * b)
  taker : n = 0 → (∃ v, v ∈ vs ∧ 0 < v) → ∃ (k : Nat) (v : Int), vs[k]? = some v ∧ gs[k]? = some 0 ∧ 0 < v ∧ N * (b * v) = D * a
  tie : ∀ (k j : Nat) (v g w h : Int), vs[k]? = some v → gs[k]? = some g → 0 < v → 0 < g → N * (b * v) = D * (a + (g - 1) * b) → vs[j]? = some w → gs[j]? = some h → 0 < w → N * (b * w) = D * (a + h * b) → k < j
  N0 : 0 < N
  D0 : 0 < D
  one : gcdI N D = 1
  none : (∀ v, v ∈ vs → v = 0) → N = 1 ∧ D = 1
theorem dl_start {a b N D : Int} {vs : List Int} (hv : ∀ v, v ∈ vs → 0 ≤ v) (N0 : 0 < N) (D0 : 0 < D) (one : gcdI N D = 1) (none : (∀ v, v ∈ vs → v = 0) → N = 1 ∧ D = 1)
    (first : ∀ (k : Nat) (v : Int), vs[k]? = some v → 0 < v → N * (b * v) ≤ D * a) (is : (∃ v, v ∈ vs ∧ 0 < v) → ∃ (k : Nat) (v : Int), vs[k]? = some v ∧ 0 < v ∧ N * (b * v) = D * a) :
    Dl a b vs (vs.map fun _ => 0) 0 N D := by
  have z : ∀ (k : Nat) (g : Int), (vs.map fun _ => (0 : Int))[k]? = some g → g = 0 := fun k g e => by
    rw [List.getElem?_map] at e
    cases q : vs[k]? with
    | none => rw [q] at e; cases e
    | some v => rw [q] at e; exact (Option.some.inj e).symm
  refine ⟨by simp, ?_, fun k v g h1 h2 => ?_, fun k v g h1 h2 h3 => ?_, fun k v g h1 h2 h3 h4 => ?_, fun h => absurd h (by omega), fun _ h => ?_, fun k j v g w h h1 h2 h3 h4 => ?_, N0, D0, one, none⟩
  · clear z hv none first is
    induction vs with
    | nil => rfl
    | cons x r ih => rw [List.map_cons, List.sum_cons, ih]; rfl
  · rw [z k g h2]; exact ⟨Int.le_refl _, fun _ => rfl⟩
  · rw [z k g h2, Int.zero_mul, Int.add_zero]; exact first k v h1 h3
  · have := z k g h2; omega
  · obtain ⟨k, v, e1, e2, e3⟩ := is h
    exact ⟨k, v, e1, by rw [List.getElem?_map, e1]; rfl, e2, e3⟩
  · have := z k g h2; omega
theorem dl_step {a b n N D v g x y : Int} {vs gs : List Int} {k : Nat} (a0 : 0 < a) (b0 : 0 < b) (dl : Dl a b vs gs n N D) (hv : vs[k]? = some v) (hg : gs[k]? = some g) (v0 : 0 < v) (pr : Pr a b v (g + 1) x y) (n0 : 0 ≤ n)
    (best : ∀ (j : Nat) (w h : Int), vs[j]? = some w → gs[j]? = some h → 0 < w → x * (b * w) ≤ y * (a + h * b) ∧ (j < k → x * (b * w) < y * (a + h * b))) : Dl a b vs (gs.set k (g + 1)) (n + 1) x y := by
  have x0 := pr.x0
  have y0 := pr.y0
  have N0 := dl.N0
  have D0 := dl.D0
  have g0 := (dl.nn k v g hv hg).1
  have e : x * (b * v) = y * (a + g * b) := by have := pr.eq; rwa [show g + 1 - 1 = g by omega] at this
  have bv : 0 < b * v := Int.mul_pos b0 v0
  have up : N * y ≤ D * x := up_of bv y0 (dl.hi k v g hv hg v0) e
  have klt : k < gs.length := (List.getElem?_eq_some_iff.mp hg).1
  have old : ∀ (j : Nat) (w h : Int), vs[j]? = some w → (gs.set k (g + 1))[j]? = some h → (j = k ∧ w = v ∧ h = g + 1) ∨ (j ≠ k ∧ gs[j]? = some h) := fun j w h h1 h2 => by
    rcases get_set h2 with ⟨rfl, rfl, _⟩ | z
    · rw [hv] at h1; cases h1; exact .inl ⟨rfl, rfl, rfl⟩
    · exact .inr z
  refine ⟨by simp [dl.len], ?_, fun j w h h1 h2 => ?_, fun j w h h1 h2 h3 => ?_, fun j w h h1 h2 h3 h4 => ?_, fun _ => ?_, fun h => absurd h (by omega), ?_, x0, y0, pr.one, fun h => ?_⟩
  · rw [sum_set gs k g (g + 1) hg, dl.sum]; omega
  · rcases old j w h h1 h2 with ⟨_, rfl, rfl⟩ | ⟨_, z⟩
    · exact ⟨by omega, fun h => absurd h (by omega)⟩
    · exact dl.nn j w h h1 z
  · rcases old j w h h1 h2 with ⟨_, rfl, rfl⟩ | ⟨_, z⟩
    · have : 0 < y * b := Int.mul_pos y0 b0
      have : y * (a + (g + 1) * b) = y * (a + g * b) + y * b := by grind
      omega
    · exact (best j w h h1 z h3).1
  · rcases old j w h h1 h2 with ⟨_, rfl, rfl⟩ | ⟨_, z⟩
    · rw [show g + 1 - 1 = g by omega, e]; exact Int.le_refl _
    · exact lo_of (Int.le_of_lt (Int.mul_pos b0 h3)) (Int.le_of_lt y0) D0 (dl.lo j w h h1 z h3 h4) up
  · refine ⟨k, v, g + 1, hv, by rw [List.getElem?_set_self klt], v0, by omega, ?_⟩
    rw [show g + 1 - 1 = g by omega]; exact e
  · intro i j v' g' w h h1 h2 h3 h4 h5 h6 h7 h8 h9
    have jk : j ≠ k ∧ gs[j]? = some h := by
      rcases old j w h h6 h7 with ⟨_, rfl, rfl⟩ | z
      · have : 0 < y * b := Int.mul_pos y0 b0
        have : y * (a + (g + 1) * b) = y * (a + g * b) + y * b := by grind
        omega
      · exact z
    rcases old i v' g' h1 h2 with ⟨rfl, rfl, rfl⟩ | ⟨_, z⟩
    · have hlt : ¬ j < i := fun z => by have := (best j w h h6 jk.2 h8).2 z; omega
      have := jk.1
      omega
    · have up' : D * x ≤ N * y := dn_of (Int.mul_pos b0 h3) y0 (dl.lo i v' g' h1 z h3 h4) h5
      have eqv : N * y = D * x := by omega
      exact dl.tie i j v' g' w h h1 z h3 h4 (eq_of y0 eqv h5) h6 jk.2 h8 (eq_of y0 eqv h9)
  · have := h v (List.mem_of_getElem? hv)
    omega
end SW
namespace K3
open PySem L2 SW
def top (i : Nat) : Stmt := PySem.Challenge.pw_seatweave_k03_one_row.main.body.getD i (.Pass ⟨0, 0, 0, 0⟩)
abbrev s_common_divisor : Stmt := top 8
abbrev s_ratio : Stmt := top 9
abbrev s_over : Stmt := top 10
abbrev s_below : Stmt := top 11
abbrev s_price : Stmt := top 13
abbrev s_next_price : Stmt := top 14
abbrev s_cheapest : Stmt := top 15
abbrev s_dealt : Stmt := top 16
abbrev s_is_whole_number : Stmt := top 19
abbrev s_lcell_at : Stmt := top 25
abbrev s_ldraw : Stmt := top 26
abbrev s_lgreat : Stmt := top 27
abbrev s_lrule : Stmt := top 28
abbrev s_lratio : Stmt := top 29
abbrev s_lfits : Stmt := top 30
abbrev s_lvote : Stmt := top 31
abbrev s_lat_mark : Stmt := top 32
abbrev s_lright : Stmt := top 33
abbrev s_lrefused : Stmt := top 34
abbrev s_law : Stmt := top 35
abbrev s_Rule_init : Stmt := inClass (top 20) 0
abbrev s_Rule_mark : Stmt := inClass (top 20) 1
abbrev s_Down_init : Stmt := inClass (top 21) 0
abbrev s_Half_init : Stmt := inClass (top 22) 0
abbrev s_Between_init : Stmt := inClass (top 23) 0
theorem sc_common_divisor : FnScope ["a", "b", "rest"] ["a", "b"] (defScope s_common_divisor) := ⟨rfl, rfl, rfl, by decide +kernel, rfl, by decide +kernel, by decide +kernel⟩
theorem sc_ratio : FnScope ["a", "b", "divisor"] ["a", "b"] (defScope s_ratio) := ⟨rfl, rfl, rfl, by decide +kernel, rfl, by decide +kernel, by decide +kernel⟩
theorem sc_over : FnScope ["one", "other"] ["one", "other"] (defScope s_over) := ⟨rfl, rfl, rfl, by decide +kernel, rfl, by decide +kernel, by decide +kernel⟩
theorem sc_below : FnScope ["one", "other"] ["one", "other"] (defScope s_below) := ⟨rfl, rfl, rfl, by decide +kernel, rfl, by decide +kernel, by decide +kernel⟩
theorem sc_price : FnScope ["number", "n", "rule"] ["number", "n", "rule"] (defScope s_price) := ⟨rfl, rfl, rfl, by decide +kernel, rfl, by decide +kernel, by decide +kernel⟩
theorem sc_next_price : FnScope ["number", "seats", "rule"] ["number", "seats", "rule"] (defScope s_next_price) := ⟨rfl, rfl, rfl, by decide +kernel, rfl, by decide +kernel, by decide +kernel⟩
theorem sc_cheapest : FnScope ["prices", "found", "k"] ["prices"] (defScope s_cheapest) := ⟨rfl, rfl, rfl, by decide +kernel, rfl, by decide +kernel, by decide +kernel⟩
theorem sc_dealt : FnScope ["votes", "seats", "rule", "told", "prices", "first", "paid", "seat", "k", "number"] ["votes", "seats", "rule"] (defScope s_dealt) := ⟨rfl, rfl, rfl, by decide +kernel, rfl, by decide +kernel, by decide +kernel⟩
theorem sc_is_whole_number : FnScope ["value"] ["value"] (defScope s_is_whole_number) := ⟨rfl, rfl, rfl, by decide +kernel, rfl, by decide +kernel, by decide +kernel⟩
theorem sc_lcell_at : FnScope ["_law_script", "_law_k"] ["_law_script", "_law_k"] (defScope s_lcell_at) := ⟨rfl, rfl, rfl, by decide +kernel, rfl, by decide +kernel, by decide +kernel⟩
theorem sc_ldraw : FnScope ["_law_cell", "_law_k", "_law_many", "_law_primes"] ["_law_cell", "_law_k", "_law_many"] (defScope s_ldraw) := ⟨rfl, rfl, rfl, by decide +kernel, rfl, by decide +kernel, by decide +kernel⟩
theorem sc_lgreat : FnScope ["_law_cell", "_law_k", "_law_most"] ["_law_cell", "_law_k", "_law_most"] (defScope s_lgreat) := ⟨rfl, rfl, rfl, by decide +kernel, rfl, by decide +kernel, by decide +kernel⟩
theorem sc_lrule : FnScope ["_law_cell", "_law_kind", "_law_q", "_law_p"] ["_law_cell"] (defScope s_lrule) := ⟨rfl, rfl, rfl, by decide +kernel, rfl, by decide +kernel, by decide +kernel⟩
theorem sc_lratio : FnScope ["_law_told", "_law_one", "_law_a", "_law_b"] ["_law_told"] (defScope s_lratio) := ⟨rfl, rfl, rfl, by decide +kernel, rfl, by decide +kernel, by decide +kernel⟩
theorem sc_lfits : FnScope ["_law_top", "_law_low", "_law_part", "_law_n"] ["_law_top", "_law_low", "_law_part", "_law_n"] (defScope s_lfits) := ⟨rfl, rfl, rfl, by decide +kernel, rfl, by decide +kernel, by decide +kernel⟩
theorem sc_lvote : FnScope ["_law_cell", "_law_kind"] ["_law_cell"] (defScope s_lvote) := ⟨rfl, rfl, rfl, by decide +kernel, rfl, by decide +kernel, by decide +kernel⟩
theorem sc_lat_mark : FnScope ["_law_vote_here", "_law_number", "_law_part", "_law_n", "_law_mark"] ["_law_vote_here", "_law_number", "_law_part", "_law_n"] (defScope s_lat_mark) := ⟨rfl, rfl, rfl, by decide +kernel, rfl, by decide +kernel, by decide +kernel⟩
theorem sc_lright : FnScope ["_law_votes", "_law_seats", "_law_part", "_law_told", "_law_given", "_law_number", "_law_k", "_law_gives", "_law_takes"] ["_law_votes", "_law_seats", "_law_part", "_law_told"] (defScope s_lright) := ⟨rfl, rfl, rfl, by decide +kernel, rfl, by decide +kernel, by decide +kernel⟩
theorem sc_lrefused : FnScope ["_law_votes", "_law_seats", "_law_rule_here", "e", "_law_others"] ["_law_votes", "_law_seats", "_law_rule_here"] (defScope s_lrefused) := ⟨rfl, rfl, rfl, by decide +kernel, rfl, by decide +kernel, by decide +kernel⟩
theorem sc_law : FnScope ["_law_script", "_law_cell", "_law_rule_here", "_law_part", "_law_many", "_law_votes", "_law_seats", "_law_handed", "_law_told", "_law_k", "_law_vote_here"] ["_law_script"] (defScope s_law) := ⟨rfl, rfl, rfl, by decide +kernel, rfl, by decide +kernel, by decide +kernel⟩
theorem sc_Rule_init : FnScope ["self", "whole"] ["self", "whole"] (defScope s_Rule_init) := ⟨rfl, rfl, rfl, by decide +kernel, rfl, by decide +kernel, by decide +kernel⟩
theorem sc_Rule_mark : FnScope ["self", "n"] ["self", "n"] (defScope s_Rule_mark) := ⟨rfl, rfl, rfl, by decide +kernel, rfl, by decide +kernel, by decide +kernel⟩
theorem sc_Down_init : FnScope ["self"] ["self"] (defScope s_Down_init) := ⟨rfl, rfl, rfl, by decide +kernel, rfl, by decide +kernel, by decide +kernel⟩
theorem sc_Half_init : FnScope ["self"] ["self"] (defScope s_Half_init) := ⟨rfl, rfl, rfl, by decide +kernel, rfl, by decide +kernel, by decide +kernel⟩
theorem sc_Between_init : FnScope ["self", "p", "q"] ["self", "p", "q"] (defScope s_Between_init) := ⟨rfl, rfl, rfl, by decide +kernel, rfl, by decide +kernel, by decide +kernel⟩
structure Txt (K : PySem.W.Frag) (mg : Str → Option Value) where
  a_common_divisor : Addr
  fd_common_divisor : FuncData
  F_common_divisor : Fun K "common_divisor" "common_divisor" s_common_divisor a_common_divisor fd_common_divisor
  b_common_divisor : Binds K fd_common_divisor ["a", "b"] []
  m_common_divisor : mg "common_divisor" = some (.ref a_common_divisor)
  a_ratio : Addr
  fd_ratio : FuncData
  F_ratio : Fun K "ratio" "ratio" s_ratio a_ratio fd_ratio
  b_ratio : Binds K fd_ratio ["a", "b"] []
  m_ratio : mg "ratio" = some (.ref a_ratio)
  a_over : Addr
  fd_over : FuncData
  F_over : Fun K "over" "over" s_over a_over fd_over
  b_over : Binds K fd_over ["one", "other"] []
  m_over : mg "over" = some (.ref a_over)
  a_below : Addr
  fd_below : FuncData
  F_below : Fun K "below" "below" s_below a_below fd_below
  b_below : Binds K fd_below ["one", "other"] []
  m_below : mg "below" = some (.ref a_below)
  a_price : Addr
  fd_price : FuncData
  F_price : Fun K "price" "price" s_price a_price fd_price
  b_price : Binds K fd_price ["number", "n", "rule"] []
  m_price : mg "price" = some (.ref a_price)
  a_next_price : Addr
  fd_next_price : FuncData
  F_next_price : Fun K "next_price" "next_price" s_next_price a_next_price fd_next_price
  b_next_price : Binds K fd_next_price ["number", "seats", "rule"] []
  m_next_price : mg "next_price" = some (.ref a_next_price)
  a_cheapest : Addr
  fd_cheapest : FuncData
  F_cheapest : Fun K "cheapest" "cheapest" s_cheapest a_cheapest fd_cheapest
  b_cheapest : Binds K fd_cheapest ["prices"] []
  m_cheapest : mg "cheapest" = some (.ref a_cheapest)
  a_dealt : Addr
  fd_dealt : FuncData
  F_dealt : Fun K "dealt" "dealt" s_dealt a_dealt fd_dealt
  b_dealt : Binds K fd_dealt ["votes", "seats", "rule"] []
  m_dealt : mg "dealt" = some (.ref a_dealt)
  a_is_whole_number : Addr
  fd_is_whole_number : FuncData
  F_is_whole_number : Fun K "is_whole_number" "is_whole_number" s_is_whole_number a_is_whole_number fd_is_whole_number
  b_is_whole_number : Binds K fd_is_whole_number ["value"] []
  m_is_whole_number : mg "is_whole_number" = some (.ref a_is_whole_number)
  a_lcell_at : Addr
  fd_lcell_at : FuncData
  F_lcell_at : Fun K "_law_cell_at" "_law_cell_at" s_lcell_at a_lcell_at fd_lcell_at
  b_lcell_at : Binds K fd_lcell_at ["_law_script", "_law_k"] []
  m_lcell_at : mg "_law_cell_at" = some (.ref a_lcell_at)
  a_ldraw : Addr
  fd_ldraw : FuncData
  F_ldraw : Fun K "_law_draw" "_law_draw" s_ldraw a_ldraw fd_ldraw
  b_ldraw : Binds K fd_ldraw ["_law_cell", "_law_k", "_law_many"] []
  m_ldraw : mg "_law_draw" = some (.ref a_ldraw)
  a_lgreat : Addr
  fd_lgreat : FuncData
  F_lgreat : Fun K "_law_great" "_law_great" s_lgreat a_lgreat fd_lgreat
  b_lgreat : Binds K fd_lgreat ["_law_cell", "_law_k", "_law_most"] []
  m_lgreat : mg "_law_great" = some (.ref a_lgreat)
  a_lrule : Addr
  fd_lrule : FuncData
  F_lrule : Fun K "_law_rule" "_law_rule" s_lrule a_lrule fd_lrule
  b_lrule : Binds K fd_lrule ["_law_cell"] []
  m_lrule : mg "_law_rule" = some (.ref a_lrule)
  a_lratio : Addr
  fd_lratio : FuncData
  F_lratio : Fun K "_law_ratio" "_law_ratio" s_lratio a_lratio fd_lratio
  b_lratio : Binds K fd_lratio ["_law_told"] []
  m_lratio : mg "_law_ratio" = some (.ref a_lratio)
  a_lfits : Addr
  fd_lfits : FuncData
  F_lfits : Fun K "_law_fits" "_law_fits" s_lfits a_lfits fd_lfits
  b_lfits : Binds K fd_lfits ["_law_top", "_law_low", "_law_part", "_law_n"] []
  m_lfits : mg "_law_fits" = some (.ref a_lfits)
  a_lvote : Addr
  fd_lvote : FuncData
  F_lvote : Fun K "_law_vote" "_law_vote" s_lvote a_lvote fd_lvote
  b_lvote : Binds K fd_lvote ["_law_cell"] []
  m_lvote : mg "_law_vote" = some (.ref a_lvote)
  a_lat_mark : Addr
  fd_lat_mark : FuncData
  F_lat_mark : Fun K "_law_at_mark" "_law_at_mark" s_lat_mark a_lat_mark fd_lat_mark
  b_lat_mark : Binds K fd_lat_mark ["_law_vote_here", "_law_number", "_law_part", "_law_n"] []
  m_lat_mark : mg "_law_at_mark" = some (.ref a_lat_mark)
  a_lright : Addr
  fd_lright : FuncData
  F_lright : Fun K "_law_right" "_law_right" s_lright a_lright fd_lright
  b_lright : Binds K fd_lright ["_law_votes", "_law_seats", "_law_part", "_law_told"] []
  m_lright : mg "_law_right" = some (.ref a_lright)
  a_lrefused : Addr
  fd_lrefused : FuncData
  F_lrefused : Fun K "_law_refused" "_law_refused" s_lrefused a_lrefused fd_lrefused
  b_lrefused : Binds K fd_lrefused ["_law_votes", "_law_seats", "_law_rule_here"] []
  m_lrefused : mg "_law_refused" = some (.ref a_lrefused)
  a_law : Addr
  fd_law : FuncData
  F_law : Fun K "law" "law" s_law a_law fd_law
  a_Rule_init : Addr
  fd_Rule_init : FuncData
  F_Rule_init : Fun K "__init__" "Rule.__init__" s_Rule_init a_Rule_init fd_Rule_init
  b_Rule_init : Binds K fd_Rule_init ["self", "whole"] []
  a_Rule_mark : Addr
  fd_Rule_mark : FuncData
  F_Rule_mark : Fun K "mark" "Rule.mark" s_Rule_mark a_Rule_mark fd_Rule_mark
  b_Rule_mark : Binds K fd_Rule_mark ["self", "n"] []
  a_Down_init : Addr
  fd_Down_init : FuncData
  F_Down_init : Fun K "__init__" "Down.__init__" s_Down_init a_Down_init fd_Down_init
  b_Down_init : Binds K fd_Down_init ["self"] []
  a_Half_init : Addr
  fd_Half_init : FuncData
  F_Half_init : Fun K "__init__" "Half.__init__" s_Half_init a_Half_init fd_Half_init
  b_Half_init : Binds K fd_Half_init ["self"] []
  a_Between_init : Addr
  fd_Between_init : FuncData
  F_Between_init : Fun K "__init__" "Between.__init__" s_Between_init a_Between_init fd_Between_init
  b_Between_init : Binds K fd_Between_init ["self", "p", "q"] []
  c_Rule : Addr
  m_Rule : mg "Rule" = some (.ref c_Rule)
  c_Down : Addr
  m_Down : mg "Down" = some (.ref c_Down)
  c_Half : Addr
  m_Half : mg "Half" = some (.ref c_Half)
  c_Between : Addr
  m_Between : mg "Between" = some (.ref c_Between)
  c_DealError : Addr
  m_DealError : mg "DealError" = some (.ref c_DealError)
  c_BadRule : Addr
  m_BadRule : mg "BadRule" = some (.ref c_BadRule)
  c_NoTable : Addr
  m_NoTable : mg "NoTable" = some (.ref c_NoTable)
  c_NoVotes : Addr
  m_NoVotes : mg "NoVotes" = some (.ref c_NoVotes)
  c_BadLine : Addr
  m_BadLine : mg "BadLine" = some (.ref c_BadLine)
  tk_GREATEST_Q : Tok
  m_GREATEST_Q : mg "GREATEST_Q" = some (.int 1000 tk_GREATEST_Q)
  cf_Rule_init : ClsFn K c_Rule "__init__" a_Rule_init
  cl_Down : Cls K c_Down
  M_Down : Mk K c_Down a_Down_init
  ty_Down : ClsTy K c_Down
  na_Down_whole : NoAttr K c_Down "whole"
  mt_Down_mark : Meth K c_Down "mark" a_Rule_mark
  cl_Half : Cls K c_Half
  M_Half : Mk K c_Half a_Half_init
  ty_Half : ClsTy K c_Half
  na_Half_whole : NoAttr K c_Half "whole"
  mt_Half_mark : Meth K c_Half "mark" a_Rule_mark
  cl_Between : Cls K c_Between
  M_Between : Mk K c_Between a_Between_init
  ty_Between : ClsTy K c_Between
  na_Between_whole : NoAttr K c_Between "whole"
  mt_Between_mark : Meth K c_Between "mark" a_Rule_mark
  x_BadRule : PySem.W.excIn K c_BadRule bmV "ValueError.__new__" = true
  x_NoVotes : PySem.W.excIn K c_NoVotes bmV "ValueError.__new__" = true
  ct_NoVotes_DealError : Catches K c_NoVotes c_DealError true
  t_NoVotes : ExcT K c_NoVotes
  k_NoVotes_BadLine : PySem.W.kitOne K (.ref c_NoVotes) (.ref c_BadLine) = some false
  k_NoVotes_NoTable : PySem.W.kitOne K (.ref c_NoVotes) (.ref c_NoTable) = some false
  k_NoVotes_BadRule : PySem.W.kitOne K (.ref c_NoVotes) (.ref c_BadRule) = some false
  k_NoVotes_ValueError : PySem.W.kitOne K (.ref c_NoVotes) (.type "ValueError") = some true
  n_isinstance : mg "isinstance" = none
  n_int : mg "int" = none
  n_bool : mg "bool" = none
  n_tuple : mg "tuple" = none
  n_list : mg "list" = none
  n_ValueError : mg "ValueError" = none
  n_len : mg "len" = none
  n_min : mg "min" = none
  n_max : mg "max" = none
  n_range : mg "range" = none
  n_sum : mg "sum" = none
end K3
namespace K3
open PySem L2 SW
section
variable {P : Program} {w : World} {K : PySem.W.Frag} {mg : Str → Option Value} {base : Heap}
theorem ok_common_divisor (T : Txt K mg) : FnOk P w K mg base CX0 1 T.a_common_divisor T.fd_common_divisor ["a", "b"] spGcd := by
  refine T.F_common_divisor.ok sc_common_divisor (fun vs H Q E h => ?_) (fun cdv A outer s H vs Q E hr h => ?_)
  · obtain ⟨a, b, rfl, _⟩ := h
    rfl
  obtain ⟨a, b, rfl, ha, hb, q⟩ := h
  refine ⟨_, (pss_cons (ps_while PassesOwn.never (pt_cmpR op_gt (pv 1) pe_int (nomark _))
      (pss_cons (ps_set (i := 2) sc_common_divisor.nd rfl (Or.inl rfl) (pe_op op_mod (pv 0) (pv 1)))
      (pss_cons (ps_set (i := 0) sc_common_divisor.nd rfl (Or.inl rfl) (pv 1))
      (pss_one (ps_set (i := 1) sc_common_divisor.nd rfl (Or.inl rfl) (pv 2))))))
      (pss_one (ps_ret (pv 0)))), ?_⟩
  refine ⟨fun m σ H' => H' = H ∧ ∃ (x y : Int) (r : Option V), σ = [some (.int x), some (.int y), r] ∧ 0 ≤ x ∧ 0 ≤ y ∧ gcdI x y = gcdI a b ∧ m = y.toNat, ⟨_, rfl, a, b, none, rfl, ha, hb, rfl, rfl⟩, ?_⟩
  rintro m σ H' ⟨rfl, x, y, r, rfl, hx, hy, hg, rfl⟩
  refine ⟨_, rfl, _, _, rfl, rfl, _, rfl, ?_⟩
  refine ite2 (fun c => ?_) (fun c => ?_)
  · have c' : 0 < y := of_decide_eq_true c
    refine ⟨_, fun _ _ h => h, ?_⟩
    refine ⟨_, rfl, _, rfl, _, _, rfl, rfl, c', ?_⟩
    refine ⟨_, rfl, _, rfl, ?_⟩
    have h1 := Int.emod_nonneg x (by omega : y ≠ 0)
    have h2 := Int.emod_lt_of_pos x c'
    exact ⟨_, by omega, rfl, y, x % y, _, rfl, hy, h1, by rw [gcdI_step]; exact hg, rfl⟩
  · have c' : ¬ 0 < y := of_decide_eq_false (Bool.eq_false_iff.mpr c)
    have y0 : y = 0 := by omega
    subst y0
    rw [gcdI_zero hx] at hg
    refine ⟨_, rfl, ?_⟩
    rw [hg]
    exact q
theorem ok_ratio (T : Txt K mg) : FnOk P w K mg base CX0 2 T.a_ratio T.fd_ratio ["a", "b"] spRatio := by
  refine T.F_ratio.ok sc_ratio (fun vs H Q E h => ?_) (fun cdv A outer s H vs Q E hr h => ?_)
  · obtain ⟨a, b, rfl, _⟩ := h
    rfl
  obtain ⟨a, b, rfl, ha, hb, fb, q⟩ := h
  refine ⟨_, (pss_cons (ps_set (i := 2) sc_ratio.nd rfl (Or.inl rfl) (pe_call (ok_common_divisor T) (hr.mono (by decide)) rfl T.m_common_divisor T.F_common_divisor.kp T.b_common_divisor .nil pass0 (pa_cons (pv 0) (pa_cons (pv 1) pa_nil))))
      (pss_one (ps_ret (pe_tupA (pa_cons (pe_op op_fdivF (pv 0) (pv 2)) (pa_cons (pe_op op_fdivF (pv 1) (pv 2)) pa_nil)))))), ?_⟩
  have hg := gcdI_pos (a := a) hb
  have fg : Fits (gcdI a b) := Fits.le (by omega) (gcdI_le hb) fb
  refine ⟨_, rfl, _, rfl, ?_⟩
  refine ⟨a, b, rfl, ha, by omega, ?_⟩
  refine ⟨_, rfl, _, rfl, _, _, rfl, rfl, ⟨hg, fg⟩, _, rfl, _, rfl, _, _, rfl, rfl, ⟨hg, fg⟩, ?_⟩
  exact ⟨(by show 2 ≤ sizeLine; decide), fun p H' N => q p _ _ _ (low_ok ha hb) N⟩
theorem ok_below (T : Txt K mg) : FnOk P w K mg base CX0 1 T.a_below T.fd_below ["one", "other"] spBelow := by
  refine T.F_below.ok sc_below (fun vs H Q E h => ?_) (fun cdv A outer s H vs Q E hr h => ?_)
  · obtain ⟨p, q, a, b, c, d, rfl, _⟩ := h
    rfl
  obtain ⟨p, q, a, b, c, d, rfl, R1, R2, k⟩ := h
  refine ⟨_, (pss_one (ps_ret (pe_cmpR op_lt (pe_op op_mulF (pe_ix ix_any (pv 0) pe_int (fun _ _ => rfl)) (pe_ix ix_any (pv 1) pe_int (fun _ _ => rfl))) (pe_op op_mulF (pe_ix ix_any (pv 1) pe_int (fun _ _ => rfl)) (pe_ix ix_any (pv 0) pe_int (fun _ _ => rfl))) (nomark _)))), ?_⟩
  obtain ⟨h1, a0, b0, al, bl⟩ := R1
  obtain ⟨h2, c0, d0, cl, dl⟩ := R2
  refine ⟨_, rfl, p, _, _, _, rfl, rfl, .inr (SqT.of h1), rfl, _, rfl, q, _, _, _, rfl, rfl, .inr (SqT.of h2), rfl, _, _, rfl, rfl, .inr ⟨fits_of (by omega) (by omega), fits_of (by omega) (by omega)⟩, ?_⟩
  refine ⟨_, rfl, q, _, _, _, rfl, rfl, .inr (SqT.of h2), rfl, _, rfl, p, _, _, _, rfl, rfl, .inr (SqT.of h1), rfl, _, _, rfl, rfl, .inr ⟨fits_of (by omega) (by omega), fits_of (by omega) (by omega)⟩, ?_⟩
  exact ⟨_, _, rfl, rfl, k⟩
theorem ok_ldraw (T : Txt K mg) : FnOk P w K mg base CX0 1 T.a_ldraw T.fd_ldraw ["_law_cell", "_law_k", "_law_many"] spDraw := by
  refine T.F_ldraw.ok sc_ldraw (fun vs H Q E h => ?_) (fun cdv A outer s H vs Q E hr h => ?_)
  · obtain ⟨c, k, m, rfl, _⟩ := h
    rfl
  obtain ⟨c, k, m, rfl, k0, k1, m0, q⟩ := h
  refine ⟨_, (@pss_cons _ _ _ _ _ (@ps_setInts _ 3 _ _ _ _ _ _ _ sc_ldraw.nd rfl (Or.inl rfl) (.cons (.cons (.cons (.cons (.cons (.cons (.cons (.cons (.cons (.cons (.cons (.cons (.cons (.cons (.cons (.cons (.nil))))))))))))))))) (.inl rfl))
      (pss_one (ps_ret (pe_op op_mod (pe_op op_mod (pe_op op_add (pe_op op_mulF (pv 0) pe_int) (pe_op op_mulF (pv 1) pe_int)) (pe_ix ix_any (pv 3) (pe_op op_mod (pv 1) pe_int) (fun _ _ => rfl))) (pv 2))))), ?_⟩
  refine ⟨(by show 16 ≤ sizeLine; decide), fun p hp => ?_⟩
  obtain ⟨n, n0, en⟩ := prime_at (k % 16) (Int.emod_nonneg _ (by decide)) (Int.emod_lt_of_pos _ (by decide))
  refine ⟨_, rfl, _, _, rfl, rfl, .inl (.inr ⟨by decide, by decide⟩), _, rfl, _, _, rfl, rfl, .inl (.inr ⟨by decide, by decide⟩), _, _, rfl, rfl, ?_⟩
  refine ⟨_, rfl, _, rfl, _, _, rfl, rfl, (by show (0 : Int) < 16; decide), p, primes, _, _, rfl, rfl, .inr (SqT.of upd_same), en, ?_⟩
  refine ⟨_, _, rfl, rfl, n0, _, rfl, _, _, rfl, rfl, m0, ?_⟩
  exact q _ _ (Int.emod_nonneg _ (by omega)) (Int.emod_lt_of_pos _ m0) (same_new hp _)
theorem ok_lgreat (T : Txt K mg) : FnOk P w K mg base CX0 2 T.a_lgreat T.fd_lgreat ["_law_cell", "_law_k", "_law_most"] spGreat := by
  refine T.F_lgreat.ok sc_lgreat (fun vs H Q E h => ?_) (fun cdv A outer s H vs Q E hr h => ?_)
  · obtain ⟨c, k, m, rfl, _⟩ := h
    rfl
  obtain ⟨c, k, m, rfl, k0, k1, m0, q⟩ := h
  refine ⟨_, (pss_one (ps_ret (pe_op op_mod (pe_op op_add (pe_op op_mulF (pe_call (ok_ldraw T) (hr.mono (by decide)) rfl T.m_ldraw T.F_ldraw.kp T.b_ldraw .nil pass0 (pa_cons (pv 0) (pa_cons (pv 1) (pa_cons pe_int pa_nil)))) pe_int) (pe_call (ok_ldraw T) (hr.mono (by decide)) rfl T.m_ldraw T.F_ldraw.kp T.b_ldraw .nil pass0 (pa_cons (pv 0) (pa_cons (pe_op op_add (pv 1) pe_int) (pa_cons pe_int pa_nil))))) (pv 2)))), ?_⟩
  refine ⟨_, rfl, _, rfl, ?_⟩
  refine ⟨_, _, _, rfl, k0, by omega, by decide, fun d1 H1 a0 a1 s1 => ?_⟩
  refine ⟨_, _, rfl, rfl, .inl (.inr ⟨by decide, by decide⟩), ?_⟩
  refine ⟨_, rfl, _, rfl, _, _, rfl, rfl, ?_⟩
  refine ⟨_, _, _, rfl, by omega, by omega, by decide, fun d2 H2 b0 b1 s2 => ?_⟩
  refine ⟨_, _, rfl, rfl, _, rfl, ?_⟩
  refine ⟨_, _, rfl, rfl, m0, ?_⟩
  exact q _ _ (Int.emod_nonneg _ (by omega)) (Int.emod_lt_of_pos _ m0) (s1.trans s2)
theorem ok_lcell_at (T : Txt K mg) : FnOk P w K mg base CX0 1 T.a_lcell_at T.fd_lcell_at ["_law_script", "_law_k"] (spCellAt K) := by
  refine T.F_lcell_at.ok sc_lcell_at (fun vs H Q E h => ?_) (fun cdv A outer s H vs Q E hr h => ?_)
  · obtain ⟨a, ns, k, rfl, _⟩ := h
    rfl
  obtain ⟨a, ns, k, rfl, hS, k0, q⟩ := h
  refine ⟨_, (pss_cons (ps_if (pt_cmpR op_lt (pv 1) (pe_callB call_lenQ (by rfl) T.n_len PySem.boot_len (pa_cons (pv 0) pa_nil)) (nomark _))
      (pss_one (ps_ret (pe_ix ix_any (pv 0) (pv 1) (fun _ _ => rfl))))
      pss_nil)
      (pss_one (ps_ret pe_int))), ?_⟩
  refine ⟨_, rfl, _, rfl, ?_⟩
  refine ⟨a, _, rfl, .inl hS, ?_⟩
  refine ⟨_, _, rfl, rfl, _, rfl, ?_⟩
  refine ite2 (fun c => ?_) (fun c => ?_)
  · have c' : k < ((ns.map V.int).length : Int) := of_decide_eq_true c
    rw [List.length_map] at c'
    have hk : k.toNat < ns.length := by omega
    refine ⟨_, rfl, _, rfl, ?_⟩
    exact ⟨a, _, _, _, rfl, rfl, .inl hS, atI_of k0 (by rw [List.getElem?_map, List.getElem?_eq_getElem hk]; rfl), q _⟩
  · skip
    exact q 0
theorem ok_lvote (T : Txt K mg) : FnOk P w K mg base CX0 3 T.a_lvote T.fd_lvote ["_law_cell"] spVote := by
  refine T.F_lvote.ok sc_lvote (fun vs H Q E h => ?_) (fun cdv A outer s H vs Q E hr h => ?_)
  · obtain ⟨c, rfl, _⟩ := h
    rfl
  obtain ⟨c, rfl, q⟩ := h
  refine ⟨_, (pss_cons (ps_set (i := 1) sc_lvote.nd rfl (Or.inl rfl) (pe_call (ok_ldraw T) (hr.mono (by decide)) rfl T.m_ldraw T.F_ldraw.kp T.b_ldraw .nil pass0 (pa_cons (pv 0) (pa_cons pe_int (pa_cons pe_int pa_nil)))))
      (pss_cons (ps_if (pt_cmpR op_lt (pv 1) pe_int (nomark _))
      (pss_one (ps_ret pe_int))
      pss_nil)
      (pss_cons (ps_if (pt_cmpR op_eq (pv 1) pe_int (nomark _))
      (pss_one (ps_ret pe_int))
      pss_nil)
      (pss_cons (ps_if (pt_cmpR op_lt (pv 1) pe_int (nomark _))
      (pss_one (ps_ret (pe_op op_add pe_int (pe_call (ok_ldraw T) (hr.mono (by decide)) rfl T.m_ldraw T.F_ldraw.kp T.b_ldraw .nil pass0 (pa_cons (pv 0) (pa_cons pe_int (pa_cons pe_int pa_nil)))))))
      pss_nil)
      (pss_one (ps_ret (pe_call (ok_lgreat T) (hr.mono (by decide)) rfl T.m_lgreat T.F_lgreat.kp T.b_lgreat .nil pass0 (pa_cons (pv 0) (pa_cons pe_int (pa_cons pe_int pa_nil)))))))))), ?_⟩
  refine ⟨_, rfl, ?_⟩
  refine ⟨_, _, _, rfl, by decide, by decide, by decide, fun kd H1 _ _ s1 => ?_⟩
  refine ⟨_, rfl, _, _, rfl, rfl, _, rfl, ?_⟩
  refine ite2 (fun _ => q 0 H1 (by decide) (by decide) s1) (fun _ => ?_)
  refine ⟨_, rfl, rfl, _, rfl, ?_⟩
  refine ite2 (fun _ => q 6 H1 (by decide) (by decide) s1) (fun _ => ?_)
  refine ⟨_, rfl, _, _, rfl, rfl, _, rfl, ?_⟩
  refine ite2 (fun _ => ?_) (fun _ => ?_)
  · refine ⟨_, rfl, ?_⟩
    refine ⟨_, _, _, rfl, by decide, by decide, by decide, fun d H2 d0 d1 s2 => ?_⟩
    refine ⟨_, _, rfl, rfl, ?_⟩
    exact q _ H2 (by omega) (by omega) (s1.trans s2)
  · refine ⟨_, rfl, ?_⟩
    exact ⟨_, _, _, rfl, by decide, by decide, by decide, fun d H2 d0 d1 s2 => q _ H2 d0 (by omega) (s1.trans s2)⟩
end
end K3
namespace K3
open PySem L2 SW
section
variable {K : PySem.W.Frag} {mg : Str → Option Value}
def Txt.ff (_ : Txt K mg) : Option Addr := none
theorem Txt.rc_Down (T : Txt K mg) : RuleC K T.c_Down T.a_Rule_mark T.ff := ⟨T.cl_Down, T.na_Down_whole, T.mt_Down_mark, fun _ z => (nomatch z), T.ty_Down⟩
theorem Txt.rc_Half (T : Txt K mg) : RuleC K T.c_Half T.a_Rule_mark T.ff := ⟨T.cl_Half, T.na_Half_whole, T.mt_Half_mark, fun _ z => (nomatch z), T.ty_Half⟩
theorem Txt.rc_Between (T : Txt K mg) : RuleC K T.c_Between T.a_Rule_mark T.ff := ⟨T.cl_Between, T.na_Between_whole, T.mt_Between_mark, fun _ z => (nomatch z), T.ty_Between⟩
end
end K3
namespace K3
open PySem L2 SW
section
variable {P : Program} {w : World} {K : PySem.W.Frag} {mg : Str → Option Value} {base : Heap}
abbrev Txt.rl (T : Txt K mg) (H : Hp) (p : Addr) (a b : Int) : Prop := RuleAt K T.a_Rule_mark T.ff H p a b
theorem ok_over (T : Txt K mg) : FnOk P w K mg base CX0 3 T.a_over T.fd_over ["one", "other"] spOver := by
  refine T.F_over.ok sc_over (fun vs H Q E h => ?_) (fun cdv A outer s H vs Q E hr h => ?_)
  · obtain ⟨p, q, a, b, c, d, rfl, _⟩ := h
    rfl
  obtain ⟨p, q, a, b, c, d, rfl, R1, R2, c1, k⟩ := h
  refine ⟨_, (pss_one (ps_ret (pe_call (ok_ratio T) (hr.mono (by decide)) rfl T.m_ratio T.F_ratio.kp T.b_ratio .nil pass0 (pa_cons (pe_op op_mulF (pe_ix ix_any (pv 0) pe_int (fun _ _ => rfl)) (pe_ix ix_any (pv 1) pe_int (fun _ _ => rfl))) (pa_cons (pe_op op_mulF (pe_ix ix_any (pv 0) pe_int (fun _ _ => rfl)) (pe_ix ix_any (pv 1) pe_int (fun _ _ => rfl))) pa_nil))))), ?_⟩
  obtain ⟨h1, a0, b0, al, bl⟩ := R1
  obtain ⟨h2, c0, d0, cl, dl⟩ := R2
  refine ⟨_, rfl, p, _, _, _, rfl, rfl, .inr (SqT.of h1), rfl, _, rfl, q, _, _, _, rfl, rfl, .inr (SqT.of h2), rfl, _, _, rfl, rfl, .inr ⟨fits_of (by omega) (by omega), fits_of (by omega) (by omega)⟩, ?_⟩
  refine ⟨_, rfl, p, _, _, _, rfl, rfl, .inr (SqT.of h1), rfl, _, rfl, q, _, _, _, rfl, rfl, .inr (SqT.of h2), rfl, _, _, rfl, rfl, .inr ⟨fits_of (by omega) (by omega), fits_of (by omega) (by omega)⟩, ?_⟩
  have m1 := mul_bd (Int.le_of_lt b0) (Int.le_of_lt bl) c0 (Int.le_of_lt cl)
  exact ⟨_, _, rfl, Int.mul_nonneg a0 (Int.le_of_lt d0), Int.mul_pos b0 c1, fits_of (by omega) (by omega), k⟩
theorem ok_is_whole_number (T : Txt K mg) : FnOk P w K mg base CX0 1 T.a_is_whole_number T.fd_is_whole_number ["value"] spWhole := by
  refine T.F_is_whole_number.ok sc_is_whole_number (fun vs H Q E h => ?_) (fun cdv A outer s H vs Q E hr h => ?_)
  · obtain ⟨v, rfl, _⟩ := h
    rfl
  obtain ⟨v, rfl, hp, q⟩ := h
  refine ⟨_, (pss_one (ps_ret (pe_and (pe_isinstT rfl T.n_isinstance rfl T.n_int PyProof.Rows.boot_int (pv 0)) (pe_one (pe_not (pe_isinstT rfl T.n_isinstance rfl T.n_bool PyProof.Rows.boot_bool (pv 0))))))), ?_⟩
  cases v with
  | non => exact ⟨_, rfl, _, _, _, rfl, .non, kit_none_int _, _, rfl, iteF q⟩
  | bl b => exact ⟨_, rfl, _, _, _, rfl, .bl _, kit_bool_int _, _, rfl, iteT ⟨_, rfl, _, _, _, rfl, .bl _, kit_bool_bool _, _, rfl, q⟩⟩
  | int i => exact ⟨_, rfl, _, _, _, rfl, .int _, kit_int_int _, _, rfl, iteT ⟨_, rfl, _, _, _, rfl, .int _, kit_int_bool _, _, rfl, q⟩⟩
  | str y => exact ⟨_, rfl, _, _, _, rfl, .str _, kit_str_int _, _, rfl, iteF q⟩
  | _ => exact absurd (show false = true from hp) Bool.false_ne_true
theorem ok_Rule_init (T : Txt K mg) : FnOk P w K mg base CX0 1 T.a_Rule_init T.fd_Rule_init ["self", "whole"] (spRuleInit K) := by
  refine T.F_Rule_init.ok sc_Rule_init (fun vs H Q E h => ?_) (fun cdv A outer s H vs Q E hr h => ?_)
  · obtain ⟨p, C, dx, t, rfl, _⟩ := h
    rfl
  obtain ⟨p, C, dx, t, rfl, hp, cl, na, q⟩ := h
  refine ⟨_, (pss_one (ps_fld (pv 0) (pv 1) rfl)), ?_⟩
  exact ⟨_, rfl, _, rfl, p, C, dx, [], rfl, hp, cl, na, (by show 0 < 1000; decide), q⟩
theorem ok_Down_init (T : Txt K mg) : FnOk P w K mg base CX0 2 T.a_Down_init T.fd_Down_init ["self"] (spInit1 T.c_Down 1 1) := by
  refine T.F_Down_init.ok sc_Down_init (fun vs H Q E h => ?_) (fun cdv A outer s H vs Q E hr h => ?_)
  · obtain ⟨p, dx, rfl, _⟩ := h
    rfl
  obtain ⟨p, dx, rfl, hp, q⟩ := h
  refine ⟨_, (pss_one (ps_expr (pe_cls (ok_Rule_init T) (hr.mono (by decide)) rfl T.m_Rule T.cf_Rule_init T.b_Rule_init .nil pass0 (pa_cons (pv 0) (pa_cons (pe_tupA (pa_cons pe_int (pa_cons pe_int pa_nil))) pa_nil))))), ?_⟩
  refine ⟨_, rfl, (by show 2 ≤ sizeLine; decide), fun t H' N => ?_⟩
  exact ⟨p, T.c_Down, dx, t, rfl, N.same _ _ hp, T.cl_Down, T.na_Down_whole, q _ (made_of2 N hp)⟩
theorem ok_Half_init (T : Txt K mg) : FnOk P w K mg base CX0 2 T.a_Half_init T.fd_Half_init ["self"] (spInit1 T.c_Half 1 2) := by
  refine T.F_Half_init.ok sc_Half_init (fun vs H Q E h => ?_) (fun cdv A outer s H vs Q E hr h => ?_)
  · obtain ⟨p, dx, rfl, _⟩ := h
    rfl
  obtain ⟨p, dx, rfl, hp, q⟩ := h
  refine ⟨_, (pss_one (ps_expr (pe_cls (ok_Rule_init T) (hr.mono (by decide)) rfl T.m_Rule T.cf_Rule_init T.b_Rule_init .nil pass0 (pa_cons (pv 0) (pa_cons (pe_tupA (pa_cons pe_int (pa_cons pe_int pa_nil))) pa_nil))))), ?_⟩
  refine ⟨_, rfl, (by show 2 ≤ sizeLine; decide), fun t H' N => ?_⟩
  exact ⟨p, T.c_Half, dx, t, rfl, N.same _ _ hp, T.cl_Half, T.na_Half_whole, q _ (made_of2 N hp)⟩
theorem ok_Between_init (T : Txt K mg) : FnOk P w K mg base (CX1 P w) 3 T.a_Between_init T.fd_Between_init ["self", "p", "q"] (spBetween T.c_Between T.c_BadRule) := by
  refine T.F_Between_init.okX sc_Between_init (fun vs H Q E h => ?_) (fun cdv A outer s H vs Q E hr h => ?_)
  · obtain ⟨p, dx, u, v, rfl, _⟩ := h
    rfl
  obtain ⟨p, dx, u, v, rfl, hp, pu, pv', good, bad⟩ := h
  refine ⟨_, (pss_cons (ps_if (PW.pt (pw_or (pt_not (pt_val (pe_call (ok_is_whole_number T) (hr.mono (by decide)) rfl T.m_is_whole_number T.F_is_whole_number.kp T.b_is_whole_number .nil pass0 (pa_cons (pv 1) pa_nil)))) (pw_or1 (pt_not (pt_val (pe_call (ok_is_whole_number T) (hr.mono (by decide)) rfl T.m_is_whole_number T.F_is_whole_number.kp T.b_is_whole_number .nil pass0 (pa_cons (pv 2) pa_nil)))))))
      (pss_one (ps_raise (E := E) PySem.F.excBase_ValueError ⟨rfl, rfl, rfl, rfl⟩ rfl rfl T.m_BadRule T.x_BadRule (pa_cons pe_str pa_nil)))
      pss_nil)
      (pss_cons (ps_if (pt_not (pt_chain3 op_lt op_le op_le pe_int (pv 1) (pv 2) (pe_glob (v := .int 1000) rfl T.m_GREATEST_Q ⟨T.tk_GREATEST_Q, rfl⟩)))
      (pss_one (ps_raise (E := E) PySem.F.excBase_ValueError ⟨rfl, rfl, rfl, rfl⟩ rfl rfl T.m_BadRule T.x_BadRule (pa_cons (pe_join2 pe_str (pe_fmt (pe_glob (v := .int 1000) rfl T.m_GREATEST_Q ⟨T.tk_GREATEST_Q, rfl⟩))) pa_nil)))
      pss_nil)
      (pss_one (ps_expr (pe_cls (ok_Rule_init T) (hr.mono (by decide)) rfl T.m_Rule T.cf_Rule_init T.b_Rule_init .nil pass0 (pa_cons (pv 0) (pa_cons (pe_call (ok_ratio T) (hr.mono (by decide)) rfl T.m_ratio T.F_ratio.kp T.b_ratio .nil pass0 (pa_cons (pv 1) (pa_cons (pv 2) pa_nil))) pa_nil))))))), ?_⟩
  refine ⟨_, rfl, u, rfl, pu, _, rfl, ?_⟩
  cases wu : wholeV u with
  | false =>
    refine iteT (iteT ?_)
    exact ⟨(by show 1 ≤ 1000; decide), bad (not_good fun z => by rw [wu] at z; cases z.1) H (Same.refl H)⟩
  | true =>
    refine iteF ⟨_, rfl, v, rfl, pv', _, rfl, ?_⟩
    cases wv : wholeV v with
    | false =>
      refine iteT ?_
      exact ⟨(by show 1 ≤ 1000; decide), bad (not_good fun z => by rw [wv] at z; cases z.2) H (Same.refl H)⟩
    | true =>
      refine iteF ?_
      obtain ⟨m, rfl⟩ : ∃ m, u = .int m := by cases u <;> first | exact ⟨_, rfl⟩ | cases wu
      obtain ⟨n, rfl⟩ : ∃ n, v = .int n := by cases v <;> first | exact ⟨_, rfl⟩ | cases wv
      refine ⟨_, rfl, _, _, rfl, rfl, _, rfl, ite2 (fun c1 => ?_) (fun c1 => ?_)⟩
      · have c1' : 0 < m := of_decide_eq_true c1
        refine ⟨_, rfl, _, _, rfl, rfl, _, rfl, ite2 (fun c2 => ?_) (fun c2 => ?_)⟩
        · have c2' : m ≤ n := of_decide_eq_true c2
          refine ⟨_, _, rfl, rfl, _, rfl, ?_⟩
          by_cases c3 : n ≤ 1000
          · rw [decide_eq_true c3]
            refine iteF ?_
            refine ⟨_, rfl, _, rfl, _, rfl, m, n, rfl, by omega, by omega, fits_of (by omega) (by omega), fun t H' x y L N => ?_⟩
            exact ⟨p, T.c_Between, dx, t, rfl, N.same p _ hp, T.cl_Between, T.na_Between_whole, good m n _ x y rfl rfl c1' c2' c3 L (made_of2 N hp)⟩
          · rw [decide_eq_false c3]
            refine iteT ?_
            exact ⟨_, rfl, by decide +kernel, _, rfl, log_1000, _, rfl, by decide +kernel, fun r => ⟨(by show 1 ≤ 1000; decide), bad (fun ⟨a, b, e1, e2, g1, g2, g3⟩ => by cases e1; cases e2; omega) H (Same.refl H)⟩⟩
        · have c2' : ¬ m ≤ n := of_decide_eq_false (Bool.eq_false_iff.mpr c2)
          refine ⟨_, rfl, iteT ?_⟩
          exact ⟨_, rfl, by decide +kernel, _, rfl, log_1000, _, rfl, by decide +kernel, fun r => ⟨(by show 1 ≤ 1000; decide), bad (fun ⟨a, b, e1, e2, g1, g2, g3⟩ => by cases e1; cases e2; omega) H (Same.refl H)⟩⟩
      · have c1' : ¬ 0 < m := of_decide_eq_false (Bool.eq_false_iff.mpr c1)
        refine ⟨_, rfl, iteT ?_⟩
        exact ⟨_, rfl, by decide +kernel, _, rfl, log_1000, _, rfl, by decide +kernel, fun r => ⟨(by show 1 ≤ 1000; decide), bad (fun ⟨a, b, e1, e2, g1, g2, g3⟩ => by cases e1; cases e2; omega) H (Same.refl H)⟩⟩
theorem ok_mark (T : Txt K mg) : FnOk P w K mg base CX0 3 T.a_Rule_mark T.fd_Rule_mark ["self", "n"] (spMark K T.a_Rule_mark T.ff) := by
  refine T.F_Rule_mark.ok sc_Rule_mark (fun vs H Q E h => ?_) (fun cdv A outer s H vs Q E hr h => ?_)
  · obtain ⟨p, n, a, b, rfl, _⟩ := h
    rfl
  obtain ⟨p, n, a, b, rfl, R, n0, n1, q⟩ := h
  refine ⟨_, (pss_one (ps_ret (pe_call (ok_ratio T) (hr.mono (by decide)) rfl T.m_ratio T.F_ratio.kp T.b_ratio .nil pass0 (pa_cons (pe_op op_add (pe_ix ix_any (pe_fld (pv 0) rfl) pe_int (fun _ _ => rfl)) (pe_op op_mulF (pe_op op_sub (pv 1) pe_int) (pe_ix ix_any (pe_fld (pv 0) rfl) pe_int (fun _ _ => rfl)))) (pa_cons (pe_ix ix_any (pe_fld (pv 0) rfl) pe_int (fun _ _ => rfl)) pa_nil))))), ?_⟩
  obtain ⟨C, dx, t, RC, h1, h2⟩ := R.ob
  have a0 := R.a0
  have ab := R.ab
  have b1 := R.b1
  have mb := mul_bd (by omega : 0 ≤ n - 1) (by omega : n - 1 ≤ 1000) (by omega : 0 ≤ b) b1
  refine ⟨_, rfl, p, C, dx, _, _, rfl, h1, RC.cl, RC.nw, whole_look t, t, _, _, _, rfl, rfl, .inr (SqT.of h2), rfl, ?_⟩
  refine ⟨_, rfl, _, _, rfl, rfl, _, rfl, p, C, dx, _, _, rfl, h1, RC.cl, RC.nw, whole_look t, t, _, _, _, rfl, rfl, .inr (SqT.of h2), rfl, _, _, rfl, rfl, .inr ⟨fits_of (by omega) (by omega), fits_of (by omega) (by omega)⟩, _, _, rfl, rfl, ?_⟩
  refine ⟨_, rfl, p, C, dx, _, _, rfl, h1, RC.cl, RC.nw, whole_look t, t, _, _, _, rfl, rfl, .inr (SqT.of h2), rfl, ?_⟩
  exact ⟨_, _, rfl, by omega, by omega, fits_of (by omega) (by omega), fun r H' x y L N => q r H' x y L N⟩
theorem ok_lrule (T : Txt K mg) : FnOk P w K mg base CX0 5 T.a_lrule T.fd_lrule ["_law_cell"] (spRule K T.a_Rule_mark T.ff) := by
  refine T.F_lrule.ok sc_lrule (fun vs H Q E h => ?_) (fun cdv A outer s H vs Q E hr h => ?_)
  · obtain ⟨c, rfl, _⟩ := h
    rfl
  obtain ⟨c, rfl, q⟩ := h
  refine ⟨_, (pss_cons (ps_set (i := 1) sc_lrule.nd rfl (Or.inl rfl) (pe_call (ok_ldraw T) (hr.mono (by decide)) rfl T.m_ldraw T.F_ldraw.kp T.b_ldraw .nil pass0 (pa_cons (pv 0) (pa_cons pe_int (pa_cons pe_int pa_nil)))))
      (pss_cons (ps_if (pt_cmpR op_eq (pv 1) pe_int (nomark _))
      (pss_one (ps_ret (pe_tupA (pa_cons (pe_make0 T.M_Down (ok_Down_init T) (hr.mono (by decide)) rfl T.m_Down T.b_Down_init .nil pass0) (pa_cons (pe_tupA (pa_cons pe_int (pa_cons pe_int pa_nil))) pa_nil)))))
      pss_nil)
      (pss_cons (ps_if (pt_cmpR op_eq (pv 1) pe_int (nomark _))
      (pss_one (ps_ret (pe_tupA (pa_cons (pe_make0 T.M_Half (ok_Half_init T) (hr.mono (by decide)) rfl T.m_Half T.b_Half_init .nil pass0) (pa_cons (pe_tupA (pa_cons pe_int (pa_cons pe_int pa_nil))) pa_nil)))))
      pss_nil)
      (pss_cons (ps_set (i := 2) sc_lrule.nd rfl (Or.inl rfl) (pe_op op_add pe_int (pe_op op_fdivF (pe_call (ok_ldraw T) (hr.mono (by decide)) rfl T.m_ldraw T.F_ldraw.kp T.b_ldraw .nil pass0 (pa_cons (pv 0) (pa_cons pe_int (pa_cons pe_int pa_nil)))) (pe_op op_add pe_int (pe_op op_mulF pe_int (pe_call (ok_ldraw T) (hr.mono (by decide)) rfl T.m_ldraw T.F_ldraw.kp T.b_ldraw .nil pass0 (pa_cons (pv 0) (pa_cons pe_int (pa_cons pe_int pa_nil)))))))))
      (pss_cons (ps_set (i := 3) sc_lrule.nd rfl (Or.inl rfl) (pe_op op_add pe_int (pe_call (ok_ldraw T) (hr.mono (by decide)) rfl T.m_ldraw T.F_ldraw.kp T.b_ldraw .nil pass0 (pa_cons (pv 0) (pa_cons pe_int (pa_cons (pv 2) pa_nil))))))
      (pss_one (ps_ret (pe_tupA (pa_cons (pe_make T.M_Between (ok_Between_init T) (hr.mono (by decide)) rfl T.m_Between T.b_Between_init .nil pass1F (pa_cons (pv 3) (pa_cons (pv 2) pa_nil))) (pa_cons (pe_tupA (pa_cons (pv 3) (pa_cons (pv 2) pa_nil))) pa_nil)))))))))), ?_⟩
  refine ⟨_, rfl, ?_⟩
  refine ⟨_, _, _, rfl, by decide, by decide, by decide, fun kd H1 k0 k1 s1 => ?_⟩
  refine ⟨_, rfl, rfl, _, rfl, ?_⟩
  refine ite2 (fun _ => ?_) (fun _ => ?_)
  · intro x dx nx ndx ne
    refine ⟨x, dx, rfl, upd_same, fun H2 M => ⟨rfl, ?_⟩⟩
    have S2 := s1.trans (same_made nx ndx M)
    refine ⟨(by show 2 ≤ sizeLine; decide), fun t H3 N3 => ⟨(by show 2 ≤ sizeLine; decide), fun r H4 N4 => ?_⟩⟩
    exact q r x t _ 1 1 1 1 N4.at_ ((rule_made T.rc_Down M (by decide) (by decide) (by decide)).same (N3.same.trans N4.same)) (N4.same _ _ N3.at_) (by decide) (by decide) (by decide) (by decide) (S2.trans (N3.same.trans N4.same))
  refine ⟨_, rfl, rfl, _, rfl, ?_⟩
  refine ite2 (fun _ => ?_) (fun _ => ?_)
  · intro x dx nx ndx ne
    refine ⟨x, dx, rfl, upd_same, fun H2 M => ⟨rfl, ?_⟩⟩
    have S2 := s1.trans (same_made nx ndx M)
    refine ⟨(by show 2 ≤ sizeLine; decide), fun t H3 N3 => ⟨(by show 2 ≤ sizeLine; decide), fun r H4 N4 => ?_⟩⟩
    exact q r x t _ 1 2 1 2 N4.at_ ((rule_made T.rc_Half M (by decide) (by decide) (by decide)).same (N3.same.trans N4.same)) (N4.same _ _ N3.at_) (by decide) (by decide) (by decide) (by decide) (S2.trans (N3.same.trans N4.same))
  refine ⟨_, rfl, ?_⟩
  refine ⟨_, _, _, rfl, by decide, by decide, by decide, fun d1 H2 a0 a1 s2 => ?_⟩
  refine ⟨_, rfl, ?_⟩
  refine ⟨_, _, _, rfl, by decide, by decide, by decide, fun d2 H3 b0 b1 s3 => ?_⟩
  refine ⟨_, _, rfl, rfl, .inl (.inl ⟨by decide, by decide⟩), _, _, rfl, rfl, _, _, rfl, rfl, ⟨by omega, fits_of (by omega) (by omega)⟩, _, _, rfl, rfl, ?_⟩
  have q0 : 0 ≤ d1 / (1 + 99 * d2) := Int.ediv_nonneg a0 (by omega)
  have q1 : d1 / (1 + 99 * d2) ≤ d1 := Int.ediv_le_self _ a0
  refine ⟨_, rfl, _, rfl, _, _, _, rfl, by decide, by decide, by omega, fun d3 H4 c0 c1 s4 => ⟨_, _, rfl, rfl, ?_⟩⟩
  refine ⟨_, rfl, _, rfl, ?_⟩
  intro x dx nx ndx ne
  refine ⟨x, dx, _, _, rfl, upd_same, rfl, rfl, fun m n H5 lx ly e1 e2 m0 mn n1 L M => ⟨rfl, ?_⟩, fun ng => absurd ⟨_, _, rfl, rfl, by omega, by omega, by omega⟩ ng⟩
  cases e1
  cases e2
  have S5 := same_made nx ndx M
  refine ⟨_, rfl, _, rfl, (by show 2 ≤ sizeLine; decide), fun t H6 N6 => ⟨(by show 2 ≤ sizeLine; decide), fun r H7 N7 => ?_⟩⟩
  have hx : 0 < lx := by
    rcases Int.lt_or_le 0 lx with z | z
    · exact z
    · have e := L.eq
      have : lx = 0 := by have := L.x0; omega
      rw [this, Int.zero_mul] at e
      have := Int.mul_pos L.y0 m0
      omega
  have hxy : lx ≤ ly := by
    have e := L.eq
    rcases Int.lt_or_le ly lx with z | z
    · have h1 : ly * (1 + d3) < lx * (1 + d3) := Int.mul_lt_mul_of_pos_right z m0
      have h2 : lx * (1 + d3) ≤ lx * (1 + d1 / (1 + 99 * d2)) := Int.mul_le_mul_of_nonneg_left mn (by omega)
      omega
    · exact z
  exact q r x t _ lx ly _ _ N7.at_ ((rule_made T.rc_Between M hx hxy (by have := L.ley; omega)).same (N6.same.trans N7.same)) (N7.same _ _ N6.at_) m0 mn n1 L.eq (s1.trans (s2.trans (s3.trans (s4.trans (S5.trans (N6.same.trans N7.same))))))
theorem ok_lfits (T : Txt K mg) : FnOk P w K mg base CX0 1 T.a_lfits T.fd_lfits ["_law_top", "_law_low", "_law_part", "_law_n"] spLFits := by
  refine T.F_lfits.ok sc_lfits (fun vs H Q E h => ?_) (fun cdv A outer s H vs Q E hr h => ?_)
  · obtain ⟨t, u, v, p, q, n, rfl, _⟩ := h
    rfl
  obtain ⟨t, u, v, p, q, n, rfl, ht, u0, u1, v0, v1, p0, pq, q1, n0, n1, k⟩ := h
  refine ⟨_, (pss_cons (ps_if (PW.pt (pw_and (pt_cmpR op_gt (pv 3) pe_int (nomark _)) (pw_and1 (pt_cmpR op_lt (pe_op op_mulF (pv 0) (pe_ix ix_any (pv 2) pe_int (fun _ _ => rfl))) (pe_op op_mulF (pv 1) (pe_op op_add (pe_ix ix_any (pv 2) pe_int (fun _ _ => rfl)) (pe_op op_mulF (pe_op op_sub (pv 3) pe_int) (pe_ix ix_any (pv 2) pe_int (fun _ _ => rfl))))) (nomark _)))))
      (pss_one (ps_ret pe_bl))
      pss_nil)
      (pss_one (ps_ret (pe_cmpR op_le (pe_op op_mulF (pv 0) (pe_ix ix_any (pv 2) pe_int (fun _ _ => rfl))) (pe_op op_mulF (pv 1) (pe_op op_add (pe_ix ix_any (pv 2) pe_int (fun _ _ => rfl)) (pe_op op_mulF (pv 3) (pe_ix ix_any (pv 2) pe_int (fun _ _ => rfl))))) (nomark _))))), ?_⟩
  have sq : Sq K H t [.int p, .int q] := .inr (SqT.of ht)
  unfold fitsB at k
  have mb := mul_bd n0 n1 (by omega : 0 ≤ q) q1
  refine ⟨_, rfl, _, _, rfl, rfl, _, rfl, ite2 (fun c => ?_) (fun c => iteF ?_)⟩
  · have c' : 0 < n := of_decide_eq_true c
    have mb' := mul_bd (by omega : 0 ≤ n - 1) (by omega : n - 1 ≤ 1000) (by omega : 0 ≤ q) q1
    refine ⟨_, rfl, _, rfl, t, _, _, _, rfl, rfl, sq, rfl, _, _, rfl, rfl, .inr ⟨fits_of (by omega) (by omega), fits_of (by omega) (by omega)⟩, ?_⟩
    refine ⟨_, rfl, _, rfl, t, _, _, _, rfl, rfl, sq, rfl, _, rfl, _, _, rfl, rfl, _, rfl, t, _, _, _, rfl, rfl, sq, rfl, _, _, rfl, rfl, .inr ⟨fits_of (by omega) (by omega), fits_of (by omega) (by omega)⟩, _, _, rfl, rfl, _, _, rfl, rfl, .inr ⟨fits_of (by omega) (by omega), fits_of (by omega) (by omega)⟩, _, _, rfl, rfl, _, rfl, ?_⟩
    rw [decide_eq_true c'] at k
    by_cases d : u * q < v * (p + (n - 1) * q)
    · rw [decide_eq_true d]
      rw [decide_eq_true d] at k
      exact iteT k
    · rw [decide_eq_false d]
      rw [decide_eq_false d] at k
      refine iteF ?_
      refine ⟨_, rfl, _, rfl, t, _, _, _, rfl, rfl, sq, rfl, _, _, rfl, rfl, .inr ⟨fits_of (by omega) (by omega), fits_of (by omega) (by omega)⟩, ?_⟩
      exact ⟨_, rfl, _, rfl, t, _, _, _, rfl, rfl, sq, rfl, _, rfl, _, rfl, t, _, _, _, rfl, rfl, sq, rfl, _, _, rfl, rfl, .inr ⟨fits_of (by omega) (by omega), fits_of (by omega) (by omega)⟩, _, _, rfl, rfl, _, _, rfl, rfl, .inr ⟨fits_of (by omega) (by omega), fits_of (by omega) (by omega)⟩, _, _, rfl, rfl, k⟩
  · have c' : ¬ 0 < n := of_decide_eq_false (Bool.eq_false_iff.mpr c)
    rw [decide_eq_false c'] at k
    refine ⟨_, rfl, _, rfl, t, _, _, _, rfl, rfl, sq, rfl, _, _, rfl, rfl, .inr ⟨fits_of (by omega) (by omega), fits_of (by omega) (by omega)⟩, ?_⟩
    exact ⟨_, rfl, _, rfl, t, _, _, _, rfl, rfl, sq, rfl, _, rfl, _, rfl, t, _, _, _, rfl, rfl, sq, rfl, _, _, rfl, rfl, .inr ⟨fits_of (by omega) (by omega), fits_of (by omega) (by omega)⟩, _, _, rfl, rfl, _, _, rfl, rfl, .inr ⟨fits_of (by omega) (by omega), fits_of (by omega) (by omega)⟩, _, _, rfl, rfl, k⟩
end
end K3
namespace K3
open PySem L2 SW
section
variable {P : Program} {w : World} {K : PySem.W.Frag} {mg : Str → Option Value} {base : Heap}
/-- the price of the n-th seat -/
def spPrice (T : Txt K mg) : Sp := fun vs H Q _ => ∃ (v n : Int) (p : Addr) (a b : Int), vs = [.int v, .int n, .ref p] ∧ T.rl H p a b ∧ 1 ≤ n ∧ n ≤ 900 ∧ 0 < v ∧ v ≤ 10 ^ 15 ∧
  ∀ (r : Addr) (H' : Hp) (x y : Int), Pr a b v n x y → Same H H' → H r = none → H' r = some (.tup [.int x, .int y]) → Q (.ref r) H'
theorem ok_price (T : Txt K mg) : FnOk P w K mg base CX0 4 T.a_price T.fd_price ["number", "n", "rule"] (spPrice T) := by
  refine T.F_price.ok sc_price (fun vs H Q E h => ?_) (fun cdv A outer s H vs Q E hr h => ?_)
  · obtain ⟨v, n, p, a, b, rfl, _⟩ := h
    rfl
  obtain ⟨v, n, p, a, b, rfl, R, n0, n1, v0, v1, q⟩ := h
  refine ⟨_, (pss_one (ps_ret (pe_call (ok_over T) (hr.mono (by decide)) rfl T.m_over T.F_over.kp T.b_over .nil pass0 (pa_cons (pe_mark (ff := T.ff) (ok_mark T) T.b_Rule_mark (hr.mono (by decide)) (pv 2) (pa_cons (pv 1) pa_nil)) (pa_cons (pe_tupA (pa_cons (pv 0) (pa_cons pe_int pa_nil))) pa_nil))))), ?_⟩
  obtain ⟨C, dx, t, RC, h1, h2⟩ := R.ob
  have a0 := R.a0
  have ab := R.ab
  have b1 := R.b1
  have mb := mul_bd (by omega : 0 ≤ n - 1) (by omega : n - 1 ≤ 1000) (by omega : 0 ≤ b) b1
  refine ⟨_, rfl, p, C, dx, t, rfl, RC, h1, _, rfl, p, n, a, b, rfl, R, n0, by omega, fun m H1 mx my L1 N1 => ?_⟩
  have lx := L1.lex
  have ly := L1.ley
  refine ⟨_, rfl, (by show 2 ≤ sizeLine; decide), fun u H2 N2 => ?_⟩
  refine ⟨m, u, mx, my, v, 1, rfl, ⟨N2.same _ _ N1.at_, L1.x0, L1.y0, by omega, by omega⟩, ⟨N2.at_, by omega, by omega, by omega, by omega⟩, v0, fun r H3 x y L2 N3 => ?_⟩
  have S := N1.same.trans N2.same
  exact q r H3 x y (pr_of (by omega) v0 (by omega) L1 L2) (S.trans N3.same) (S.free N3.gone) N3.at_
end
end K3
namespace K3
open PySem L2 SW
section
variable {P : Program} {w : World} {K : PySem.W.Frag} {mg : Str → Option Value} {base : Heap}
/-- what stands for the next seat of g + 1 in the list of prices -/
def PriceAt (H : Hp) (a b v g : Int) (x : V) : Prop := (v = 0 ∧ x = .non) ∨ (0 < v ∧ ∃ r i j, x = .ref r ∧ H r = some (.tup [.int i, .int j]) ∧ Pr a b v (g + 1) i j)
theorem PriceAt.same' {H H' : Hp} {a b v g : Int} {x : V} (h : PriceAt H a b v g x) (S : Same H H') : PriceAt H' a b v g x := by
  rcases h with h | ⟨v0, r, i, j, e, hr, p⟩
  · exact .inl h
  · exact .inr ⟨v0, r, i, j, e, S _ _ hr, p⟩
def spNext (T : Txt K mg) : Sp := fun vs H Q _ => ∃ (v g : Int) (p : Addr) (a b : Int), vs = [.int v, .int g, .ref p] ∧ T.rl H p a b ∧ 0 ≤ g ∧ g ≤ 800 ∧ 0 ≤ v ∧ v ≤ 10 ^ 15 ∧
  ∀ (x : V) (H' : Hp), PriceAt H' a b v g x → Same H H' → Q x H'
theorem ok_next_price (T : Txt K mg) : FnOk P w K mg base CX0 5 T.a_next_price T.fd_next_price ["number", "seats", "rule"] (spNext T) := by
  refine T.F_next_price.ok sc_next_price (fun vs H Q E h => ?_) (fun cdv A outer s H vs Q E hr h => ?_)
  · obtain ⟨v, n, p, a, b, rfl, _⟩ := h
    rfl
  obtain ⟨v, g, p, a, b, rfl, R, g0, g1, v0, v1, q⟩ := h
  refine ⟨_, (pss_one (ps_ret (pe_ifExp (pt_cmpR op_gt (pv 0) pe_int (nomark _)) (pe_call (ok_price T) (hr.mono (by decide)) rfl T.m_price T.F_price.kp T.b_price .nil pass0 (pa_cons (pv 0) (pa_cons (pe_op op_add (pv 1) pe_int) (pa_cons (pv 2) pa_nil)))) pe_non))), ?_⟩
  refine ⟨_, rfl, _, _, rfl, rfl, _, rfl, ?_⟩
  refine ite2 (fun c => ?_) (fun c => ?_)
  · have c' : 0 < v := of_decide_eq_true c
    refine ⟨_, rfl, _, rfl, _, _, rfl, rfl, _, rfl, ?_⟩
    exact ⟨v, g + 1, p, a, b, rfl, R, by omega, by omega, c', v1, fun r H' x y pr S _ e => q _ H' (.inr ⟨c', r, x, y, rfl, e, pr⟩) S⟩
  · have c' : ¬ 0 < v := of_decide_eq_false (Bool.eq_false_iff.mpr c)
    exact q _ H (.inl ⟨by omega, rfl⟩) (Same.refl H)
/-- the prices: none, or numbers -/
def PsOk (H : Hp) (ps : List V) (cs : List (Option (Int × Int))) : Prop := ps.length = cs.length ∧ ∀ i : Nat, (cs[i]? = some none → ps[i]? = some .non) ∧ (∀ x y, cs[i]? = some (some (x, y)) → 0 < y ∧ ∃ r, ps[i]? = some (.ref r) ∧ Rat H r x y)
/-- the first of the least -/
def Best (cs : List (Option (Int × Int))) (m k : Nat) (x y : Int) : Prop := k < m ∧ cs[k]? = some (some (x, y)) ∧ ∀ (j : Nat) (x' y' : Int), j < m → cs[j]? = some (some (x', y')) → ¬ x' * y < x * y' ∧ (j < k → x * y' < x' * y)
def spCheapest (K : PySem.W.Frag) : Sp := fun vs H Q _ => ∃ (l : Addr) (ps : List V) (cs : List (Option (Int × Int))), vs = [.ref l] ∧ SqL K H l ps ∧ ps.length ≤ 1000 ∧ PsOk H ps cs ∧
  ((∀ (i : Nat) (x y : Int), cs[i]? ≠ some (some (x, y))) → Q .non H) ∧ (∀ (k : Nat) (x y : Int), Best cs cs.length k x y → Q (.int k) H)
theorem ok_cheapest (T : Txt K mg) : FnOk P w K mg base CX0 2 T.a_cheapest T.fd_cheapest ["prices"] (spCheapest K) := by
  refine T.F_cheapest.ok sc_cheapest (fun vs H Q E h => ?_) (fun cdv A outer s H vs Q E hr h => ?_)
  · obtain ⟨l, ps, cs, rfl, _⟩ := h
    rfl
  obtain ⟨l, ps, cs, rfl, hl, hz, ⟨ln, ok⟩, q1, q2⟩ := h
  refine ⟨_, (pss_cons (ps_set (i := 1) sc_cheapest.nd rfl (Or.inl rfl) pe_non)
      (pss_cons (ps_for PassesOwn.never rfl (pi_range1 rfl T.n_range (pa_cons (pe_callB call_lenQ (by rfl) T.n_len PySem.boot_len (pa_cons (pv 0) pa_nil)) pa_nil)) (pg_name (i := 2) sc_cheapest.nd rfl (Or.inl rfl))
      (pss_one (ps_if (pt_cmpR op_notN (pe_ix ix_any (pv 0) (pv 2) (fun _ _ => rfl)) pe_non (nomark _))
      (pss_one (ps_if (PW.pt (pw_or (pt_cmpR op_isN (pv 1) pe_non (nomark _)) (pw_or1 (pt_val (pe_call (ok_below T) (hr.mono (by decide)) rfl T.m_below T.F_below.kp T.b_below .nil pass0 (pa_cons (pe_ix ix_any (pv 0) (pv 2) (fun _ _ => rfl)) (pa_cons (pe_ix ix_any (pv 0) (pv 1) (fun _ _ => rfl)) pa_nil)))))))
      (pss_one (ps_set (i := 1) sc_cheapest.nd rfl (Or.inl rfl) (pv 2)))
      pss_nil))
      pss_nil)))
      (pss_one (ps_ret (pv 1))))), ?_⟩
  refine ⟨_, rfl, ?_⟩
  refine ⟨l, _, rfl, .inl hl, ?_⟩
  refine ⟨_, rfl, by omega, by omega, ?_⟩
  refine for_range (fun i σ H' => H' = H ∧ i ≤ ps.length ∧ ∃ f v2, σ = [some (.ref l), some f, v2] ∧ ((f = .non ∧ ∀ (j : Nat) (x y : Int), j < i → cs[j]? ≠ some (some (x, y))) ∨ ∃ (k : Nat) (x y : Int), f = .int k ∧ Best cs i k x y)) ?_ ?_ ?_
  · exact ⟨rfl, Nat.zero_le _, .non, none, rfl, .inl ⟨rfl, fun j x y h => absurd h (Nat.not_lt_zero j)⟩⟩
  · rintro i σ H' hi ⟨rfl, hi', f, v2, rfl, h⟩
    have hi2 : i < ps.length := by simpa using hi
    obtain ⟨o1, o2⟩ := ok i
    have at_ : ∀ v, ps[i]? = some v → atI ps (0 + (i : Int)) = some v := fun v e => atI_of (by omega) (by rw [show (0 + (i : Int)).toNat = i by omega]; exact e)
    refine ⟨_, rfl, _, rfl, ?_⟩
    cases hc : cs[i]? with
    | none => rw [List.getElem?_eq_none_iff] at hc; omega
    | some c =>
      cases c with
      | none =>
        refine ⟨l, _, _, _, rfl, rfl, .inl hl, at_ _ (o1 hc), rfl, ?_⟩
        refine ⟨_, rfl, ?_⟩
        refine iteF ?_
        refine ⟨rfl, hi2, f, _, rfl, ?_⟩
        rcases h with ⟨e, h⟩ | ⟨k, x, y, e, h1, h2, h3⟩
        · refine .inl ⟨e, fun j x y hj => ?_⟩
          by_cases hji : j = i
          · subst hji; rw [hc]; exact fun z => nomatch z
          · exact h j x y (by omega)
        · refine .inr ⟨k, x, y, e, by omega, h2, fun j x' y' hj e' => ?_⟩
          by_cases hji : j = i
          · subst hji; rw [hc] at e'; cases e'
          · exact h3 j x' y' (by omega) e'
      | some c =>
        obtain ⟨x', y'⟩ := c
        obtain ⟨y0', r', e', R'⟩ := o2 x' y' hc
        refine ⟨l, _, _, _, rfl, rfl, .inl hl, at_ _ e', rfl, ?_⟩
        refine ⟨_, rfl, ?_⟩
        refine iteT ?_
        refine ⟨_, rfl, ?_⟩
        refine ⟨rfl, ?_⟩
        refine ⟨_, rfl, ?_⟩
        rcases h with ⟨e, h⟩ | ⟨k, x, y, e, h1, h2, h3⟩
        · subst e
          refine iteT ?_
          refine iteT ?_
          refine ⟨_, rfl, ?_⟩
          refine ⟨rfl, hi2, _, _, rfl, .inr ⟨i, x', y', by rw [Int.zero_add], Nat.lt_succ_self _, hc, fun j x y hj e2 => ?_⟩⟩
          by_cases hji : j = i
          · subst hji; rw [hc] at e2; cases e2; exact ⟨by omega, fun z => absurd z (Nat.lt_irrefl _)⟩
          · exact absurd e2 (h j x y (by omega))
        · subst e
          refine iteF ?_
          obtain ⟨y0, r, e2, R⟩ := (ok k).2 x y h2
          have at2 : atI ps (k : Int) = some (.ref r) := atI_of (by omega) (by simpa using e2)
          refine ⟨_, rfl, _, rfl, ?_⟩
          refine ⟨l, _, _, _, rfl, rfl, .inl hl, at_ _ e', ?_⟩
          refine ⟨_, rfl, _, rfl, ?_⟩
          refine ⟨l, _, _, _, rfl, rfl, .inl hl, at2, ?_⟩
          refine ⟨r', r, x', y', x, y, rfl, R', R, ?_⟩
          refine ⟨_, rfl, ?_⟩
          refine ite2 (fun c => ?_) (fun c => ?_)
          · have c' : x' * y < x * y' := of_decide_eq_true c
            refine ⟨_, rfl, ?_⟩
            refine ⟨rfl, hi2, _, _, rfl, .inr ⟨i, x', y', by rw [Int.zero_add], Nat.lt_succ_self _, hc, fun j z t hj e3 => ?_⟩⟩
            by_cases hji : j = i
            · subst hji; rw [hc] at e3; cases e3; exact ⟨by omega, fun z => absurd z (Nat.lt_irrefl _)⟩
            · have t0 := ((ok j).2 z t e3).1
              have h4 := (h3 j z t (by omega) e3).1
              exact ⟨le_le_tr y0 y0' t0 c' h4, fun _ => lt_le_tr y0 y0' t0 c' h4⟩
          · have c' : ¬ x' * y < x * y' := of_decide_eq_false (Bool.eq_false_iff.mpr c)
            refine ⟨rfl, hi2, _, _, rfl, .inr ⟨k, x, y, rfl, by omega, h2, fun j z t hj e3 => ?_⟩⟩
            by_cases hji : j = i
            · subst hji; rw [hc] at e3; cases e3; exact ⟨c', fun z => absurd z (by omega)⟩
            · exact h3 j z t (by omega) e3
  · rintro σ H' ⟨rfl, _, f, v2, rfl, h⟩
    refine ⟨_, rfl, ?_⟩
    have e : ((ps.length : Int)).toNat = cs.length := by omega
    rw [e] at h
    rcases h with ⟨rfl, h⟩ | ⟨k, x, y, rfl, h⟩
    · refine q1 fun i x y z => ?_
      have hlt : i < cs.length := (List.getElem?_eq_some_iff.mp z).1
      exact h i x y hlt z
    · exact q2 k x y h
end
end K3
namespace SW
theorem le_sum : ∀ {gs : List Int} {g : Int}, (∀ x, x ∈ gs → 0 ≤ x) → g ∈ gs → g ≤ gs.sum
  | [], _, _, h => by cases h
  | x :: r, g, hn, h => by
    have s0 : 0 ≤ r.sum := by
      clear h
      induction r with
      | nil => exact Int.le_refl _
      | cons y t ih =>
        rw [List.sum_cons]
        have h1 := hn y (by simp)
        have h2 := ih fun z hz => hn z (by
          rcases List.mem_cons.mp hz with e | e
          · rw [e]; exact List.mem_cons_self
          · exact List.mem_cons_of_mem _ (List.mem_cons_of_mem _ e))
        omega
    rw [List.sum_cons]
    have hx := hn x List.mem_cons_self
    rcases List.mem_cons.mp h with e | e
    · omega
    · have := le_sum (fun z hz => hn z (List.mem_cons_of_mem _ hz)) e
      omega
theorem sum_zero {vs : List Int} (hn : ∀ v, v ∈ vs → 0 ≤ v) : vs.sum = 0 ↔ ∀ v, v ∈ vs → v = 0 := by
  constructor
  · intro h v hv
    have := le_sum hn hv
    have := hn v hv
    omega
  · intro h
    clear hn
    induction vs with
    | nil => rfl
    | cons x r ih =>
      rw [List.sum_cons, ih fun v hv => h v (List.mem_cons_of_mem _ hv), h x List.mem_cons_self]
      rfl
theorem cmp_le {x y x' y' B A : Int} (y0 : 0 < y') (B0 : 0 ≤ B) (e : x' * B = y' * A) (h : ¬ x' * y < x * y') : x * B ≤ y * A := by
  have h1 : x * y' * B ≤ x' * y * B := Int.mul_le_mul_of_nonneg_right (by omega) B0
  have q1 : y' * (x * B) = x * y' * B := by grind
  have q2 : y' * (y * A) = x' * y * B := by
    have : x' * y * B = y * (x' * B) := by grind
    rw [this, e]; grind
  rw [← q1, ← q2] at h1
  exact Int.le_of_mul_le_mul_left h1 y0
theorem cmp_lt {x y x' y' B A : Int} (y0 : 0 < y') (B0 : 0 < B) (e : x' * B = y' * A) (h : x * y' < x' * y) : x * B < y * A := by
  have h1 : x * y' * B < x' * y * B := Int.mul_lt_mul_of_pos_right h B0
  have q1 : y' * (x * B) = x * y' * B := by grind
  have q2 : y' * (y * A) = x' * y * B := by
    have : x' * y * B = y * (x' * B) := by grind
    rw [this, e]; grind
  rw [← q1, ← q2] at h1
  exact Int.lt_of_mul_lt_mul_left h1 (Int.le_of_lt y0)
end SW
namespace K3
open PySem L2 SW
section
variable {P : Program} {w : World} {K : PySem.W.Frag} {mg : Str → Option Value} {base : Heap}
/-- the prices of a row -/
def RowAt (H : Hp) (a b : Int) (vs gs : List Int) (ps : List V) : Prop := gs.length = vs.length ∧ ps.length = vs.length ∧ ∀ (j : Nat) (v g : Int) (x : V), vs[j]? = some v → gs[j]? = some g → ps[j]? = some x → PriceAt H a b v g x
theorem RowAt.same {H H' : Hp} {a b : Int} {vs gs : List Int} {ps : List V} (h : RowAt H a b vs gs ps) (S : Same H H') : RowAt H' a b vs gs ps :=
  ⟨h.1, h.2.1, fun j v g x h1 h2 h3 => (h.2.2 j v g x h1 h2 h3).same' S⟩
theorem row_cs {H : Hp} {a b : Int} : ∀ {vs gs : List Int} {ps : List V}, RowAt H a b vs gs ps → ∃ cs : List (Option (Int × Int)), cs.length = ps.length ∧ ∀ (j : Nat) (v g : Int) (x : V), vs[j]? = some v → gs[j]? = some g → ps[j]? = some x →
    (v = 0 ∧ x = .non ∧ cs[j]? = some none) ∨ (0 < v ∧ ∃ r i k, x = .ref r ∧ H r = some (.tup [.int i, .int k]) ∧ Pr a b v (g + 1) i k ∧ cs[j]? = some (some (i, k)))
  | [], gs, ps, h => by
    have : ps = [] := List.length_eq_zero_iff.mp h.2.1
    subst this
    exact ⟨[], rfl, fun j v g x e => by simp at e⟩
  | v :: vs, gs, ps, h => by
    obtain ⟨h1, h2, h3⟩ := h
    match gs, ps, h1, h2 with
    | g :: gs, x :: ps, h1, h2 =>
      obtain ⟨cs, l, c⟩ := row_cs (vs := vs) (gs := gs) (ps := ps) ⟨by simpa using h1, by simpa using h2, fun j v' g' x' e1 e2 e3 => h3 (j + 1) v' g' x' (by simpa using e1) (by simpa using e2) (by simpa using e3)⟩
      rcases h3 0 v g x rfl rfl rfl with ⟨z, e⟩ | ⟨z, r, i, k, e, hr, p⟩
      · refine ⟨none :: cs, by simp [l], fun j v' g' x' e1 e2 e3 => ?_⟩
        cases j with
        | zero => simp at e1 e2 e3; subst e1 e2 e3; exact .inl ⟨z, e, rfl⟩
        | succ j => simpa using c j v' g' x' (by simpa using e1) (by simpa using e2) (by simpa using e3)
      · refine ⟨some (i, k) :: cs, by simp [l], fun j v' g' x' e1 e2 e3 => ?_⟩
        cases j with
        | zero => simp at e1 e2 e3; subst e1 e2 e3; exact .inr ⟨z, r, i, k, e, hr, p, rfl⟩
        | succ j => simpa using c j v' g' x' (by simpa using e1) (by simpa using e2) (by simpa using e3)
/-- what cheapest is handed, and what it tells -/
theorem row_best {H : Hp} {a b : Int} {vs gs : List Int} {ps : List V} (R : RowAt H a b vs gs ps) (a0 : 0 < a) (b0 : 0 < b) (a1 : a ≤ 1000) (b1 : b ≤ 1000) (v1 : ∀ v, v ∈ vs → v ≤ 10 ^ 15) (g0 : ∀ g, g ∈ gs → 0 ≤ g ∧ g ≤ 800) :
    ∃ cs, PsOk H ps cs ∧ ((∃ v, v ∈ vs ∧ 0 < v) → ∃ (i : Nat) (x y : Int), cs[i]? = some (some (x, y))) ∧ ∀ (k : Nat) (x y : Int), Best cs cs.length k x y → ∃ v g r, vs[k]? = some v ∧ gs[k]? = some g ∧ ps[k]? = some (.ref r) ∧ H r = some (.tup [.int x, .int y]) ∧ 0 < v ∧ Pr a b v (g + 1) x y ∧
      ∀ (j : Nat) (w h : Int), vs[j]? = some w → gs[j]? = some h → 0 < w → x * (b * w) ≤ y * (a + h * b) ∧ (j < k → x * (b * w) < y * (a + h * b)) := by
  obtain ⟨cs, l, c⟩ := row_cs R
  obtain ⟨r1, r2, _⟩ := R
  have get : ∀ j : Nat, j < cs.length → ∃ v g x, vs[j]? = some v ∧ gs[j]? = some g ∧ ps[j]? = some x := fun j hj =>
    ⟨vs[j]'(by omega), gs[j]'(by omega), ps[j]'(by omega), by simp, by simp, by simp⟩
  have rat : ∀ v g i k, v ∈ vs → g ∈ gs → 0 < v → Pr a b v (g + 1) i k → 0 ≤ i ∧ 0 < k ∧ i < 10 ^ 40 ∧ k < 10 ^ 40 := fun v g i k hv hg v0 p => by
    have h1 := g0 g hg
    have h2 := v1 v hv
    have h3 := mul_bd h1.1 h1.2 (Int.le_of_lt b0) b1
    have h4 := mul_bd (Int.le_of_lt b0) b1 (Int.le_of_lt v0) h2
    have e : g + 1 - 1 = g := by omega
    have p1 := p.xl
    have p2 := p.yl
    rw [e] at p1
    exact ⟨Int.le_of_lt p.x0, p.y0, by omega, by omega⟩
  refine ⟨cs, ⟨l.symm, fun i => ⟨fun e => ?_, fun x y e => ?_⟩⟩, fun ⟨v, hv, v0⟩ => ?_, fun k x y best => ?_⟩
  · obtain ⟨v, g, x, e1, e2, e3⟩ := get i (List.getElem?_eq_some_iff.mp e).1
    rcases c i v g x e1 e2 e3 with ⟨_, z, _⟩ | ⟨_, r, i', k, _, _, _, z⟩
    · rw [e3, z]
    · rw [e] at z; cases z
  · obtain ⟨v, g, z, e1, e2, e3⟩ := get i (List.getElem?_eq_some_iff.mp e).1
    rcases c i v g z e1 e2 e3 with ⟨_, _, q⟩ | ⟨v0, r, i', k, q1, q2, q3, q⟩
    · rw [e] at q; cases q
    · rw [e] at q; cases q
      obtain ⟨t1, t2, t3, t4⟩ := rat v g x y (List.mem_of_getElem? e1) (List.mem_of_getElem? e2) v0 q3
      exact ⟨t2, r, by rw [e3, q1], ⟨q2, t1, t2, t3, t4⟩⟩
  · obtain ⟨i, hi, ei⟩ := List.getElem_of_mem hv
    obtain ⟨v', g, z, e1, e2, e3⟩ := get i (by omega)
    have : v' = v := by rw [List.getElem?_eq_getElem hi, ei] at e1; exact (Option.some.inj e1).symm
    subst this
    rcases c i v' g z e1 e2 e3 with ⟨q, _, _⟩ | ⟨_, r, x, y, _, _, _, q⟩
    · omega
    · exact ⟨i, x, y, q⟩
  · obtain ⟨b1', b2, b3⟩ := best
    obtain ⟨v, g, z, e1, e2, e3⟩ := get k b1'
    rcases c k v g z e1 e2 e3 with ⟨_, _, q⟩ | ⟨v0, r, i', k', q1, q2, q3, q⟩
    · rw [b2] at q; cases q
    · rw [b2] at q; cases q
      refine ⟨v, g, r, e1, e2, by rw [e3, q1], q2, v0, q3, fun j w h f1 f2 w0 => ?_⟩
      have hj : j < cs.length := by have := (List.getElem?_eq_some_iff.mp f1).1; omega
      obtain ⟨v'', g'', z', f1', f2', f3⟩ := get j hj
      rw [f1] at f1'; cases f1'
      rw [f2] at f2'; cases f2'
      rcases c j w h z' f1 f2 f3 with ⟨q, _, _⟩ | ⟨_, _, x', y', _, _, p', qq⟩
      · omega
      · obtain ⟨g1, g2⟩ := b3 j x' y' hj qq
        have e' : x' * (b * w) = y' * (a + h * b) := by have := p'.eq; rwa [show h + 1 - 1 = h by omega] at this
        exact ⟨cmp_le p'.y0 (Int.le_of_lt (Int.mul_pos b0 w0)) e' g1, fun hjk => cmp_lt p'.y0 (Int.mul_pos b0 w0) e' (g2 hjk)⟩
end
end K3
namespace K3
open PySem L2 SW
section
variable {P : Program} {w : World} {K : PySem.W.Frag} {mg : Str → Option Value} {base : Heap}
def spDealt (T : Txt K mg) : Sp := fun vs H Q E => ∃ (l : Addr) (ns : List Int) (n : Int) (p : Addr) (a b : Int), vs = [.ref l, .int n, .ref p] ∧ SqL K H l (ns.map V.int) ∧ ns.length ≤ 100 ∧ (∀ v, v ∈ ns → 0 ≤ v ∧ v ≤ 10 ^ 9) ∧ 0 ≤ n ∧ n ≤ 400 ∧ T.rl H p a b ∧
  (0 < n → (∀ v, v ∈ ns → v = 0) → ∀ H', Same H H' → E (.ref T.c_NoVotes) none H') ∧
  (¬ (0 < n ∧ ∀ v, v ∈ ns → v = 0) → ∀ (r g t : Addr) (H' : Hp) (gs : List Int) (N D : Int), Same H H' → H g = none → H' r = some (.tup [.ref g, .ref t]) → H' g = some (.lst (gs.map V.int)) → H' t = some (.tup [.int N, .int D]) →
    Dl a b ns gs n N D → N ≤ 10 ^ 10 → D ≤ 10 ^ 15 → Q (.ref r) H')
theorem pr_bd {a b v g x y : Int} (p : Pr a b v (g + 1) x y) (a1 : a ≤ 1000) (b0 : 0 < b) (b1 : b ≤ 1000) (g0 : 0 ≤ g) (g1 : g ≤ 800) (v0 : 0 < v) (v1 : v ≤ 10 ^ 9) : x ≤ 10 ^ 10 ∧ y ≤ 10 ^ 15 := by
  have h3 := mul_bd g0 g1 (Int.le_of_lt b0) b1
  have h4 := mul_bd (Int.le_of_lt b0) b1 (Int.le_of_lt v0) v1
  have p1 := p.xl
  have p2 := p.yl
  rw [show g + 1 - 1 = g by omega] at p1
  exact ⟨by omega, by omega⟩
theorem get_map_int {ns : List Int} {j : Nat} {x : V} (e : (ns.map V.int)[j]? = some x) : ∃ n, ns[j]? = some n ∧ x = .int n := by
  rw [List.getElem?_map] at e
  cases q : ns[j]? with
  | none => rw [q] at e; cases e
  | some n => rw [q] at e; exact ⟨n, rfl, (Option.some.inj e).symm⟩
theorem at_int {ns : List Int} {k : Nat} {n : Int} (e : ns[k]? = some n) : atI (ns.map V.int) (k : Int) = some (.int n) := atI_of (by omega) (by rw [List.getElem?_map, Int.toNat_natCast, e]; rfl)
theorem ix_nat {n k : Nat} (h : k < n) : ixN n (k : Int) = some k := by
  unfold ixN
  rw [if_pos (by omega), if_pos (by omega)]
  simp
theorem ok_dealt (T : Txt K mg) : FnOk P w K mg base (CX1 P w) 6 T.a_dealt T.fd_dealt ["votes", "seats", "rule"] (spDealt T) := by
  refine T.F_dealt.okX sc_dealt (fun vs H Q E h => ?_) (fun cdv A outer s H vs Q E hr h => ?_)
  · obtain ⟨l, ns, n, p, a, b, rfl, _⟩ := h
    rfl
  obtain ⟨l, ns, n, p, a, b, rfl, hl, hz, hv, n0, n1, R, bad, good⟩ := h
  refine ⟨_, (pss_cons (ps_meet (ps_if (PW.pt (pw_and (pt_cmpR op_gt (pv 1) pe_int (nomark _)) (pw_and1 (pt_cmpR op_eq (pe_callB (call_sumQ rfl) (by rfl) T.n_sum PyProof.Rows.boot_sum (pa_cons (pv 0) pa_nil)) pe_int (nomark _)))))
      (pss_one (ps_raise (E := E) PySem.F.excBase_ValueError ⟨rfl, rfl, rfl, rfl⟩ rfl rfl T.m_NoVotes T.x_NoVotes (pa_cons pe_str pa_nil)))
      pss_nil))
      (PSs.nox (pss_cons (ps_setC (i := 3) [9] rfl (blk_of rfl) (pi_list (pv 0)) (fun _ => (pg_name (i := 9) sc_dealt.nd rfl (Or.inl rfl))) (fun _ => pts_nil) (fun _ => pe_int) sc_dealt.nd rfl rfl)
      (pss_cons (ps_setC (i := 4) [9] rfl (blk_of rfl) (pi_list (pv 0)) (fun _ => (pg_name (i := 9) sc_dealt.nd rfl (Or.inl rfl))) (fun _ => pts_nil) (fun _ => (pe_call (ok_next_price T) (hr.mono (by decide)) rfl T.m_next_price T.F_next_price.kp T.b_next_price .nil pass0 (pa_cons (pv 9) (pa_cons pe_int (pa_cons (pv 2) pa_nil))))) sc_dealt.nd rfl rfl)
      (pss_cons (ps_meet (ps_set (i := 5) sc_dealt.nd rfl (Or.inl rfl) (pe_call (ok_cheapest T) (hr.mono (by decide)) rfl T.m_cheapest T.F_cheapest.kp T.b_cheapest .nil pass0 (pa_cons (pv 4) pa_nil))))
      (pss_cons (ps_meet (ps_set (i := 6) sc_dealt.nd rfl (Or.inl rfl) (pe_ifExp (pt_cmpR op_isN (pv 5) pe_non (nomark _)) (pe_call (ok_ratio T) (hr.mono (by decide)) rfl T.m_ratio T.F_ratio.kp T.b_ratio .nil pass0 (pa_cons pe_int (pa_cons pe_int pa_nil))) (pe_ix ix_any (pv 4) (pv 5) (fun _ _ => rfl)))))
      (pss_cons (ps_for PassesOwn.never rfl (pi_range1 rfl T.n_range (pa_cons (pv 1) pa_nil)) (pg_name (i := 7) sc_dealt.nd rfl (Or.inl rfl))
      (pss_cons (ps_set (i := 8) sc_dealt.nd rfl (Or.inl rfl) (pe_call (ok_cheapest T) (hr.mono (by decide)) rfl T.m_cheapest T.F_cheapest.kp T.b_cheapest .nil pass0 (pa_cons (pv 4) pa_nil)))
      (pss_cons (ps_set (i := 6) sc_dealt.nd rfl (Or.inl rfl) (pe_ix ix_any (pv 4) (pv 8) (fun _ _ => rfl)))
      (pss_cons (ps_augS (pv 3) (pv 8) get_list pe_int ip_add set_list)
      (pss_one (ps_asg (pe_call (ok_next_price T) (hr.mono (by decide)) rfl T.m_next_price T.F_next_price.kp T.b_next_price .nil pass0 (pa_cons (pe_ix ix_any (pv 0) (pv 8) (fun _ _ => rfl)) (pa_cons (pe_ix ix_any (pv 3) (pv 8) (fun _ _ => rfl)) (pa_cons (pv 2) pa_nil)))) (pg_sub (pv 4) (pv 8) set_list)))))))
      (pss_one (ps_ret (pe_tupA (pa_cons (pv 3) (pa_cons (pv 6) pa_nil)))))))))))), ?_⟩
  have a0 := R.a0
  have ab := R.ab
  have b1 := R.b1
  have hzl : (ns.map V.int).length ≤ sizeLine := by rw [List.length_map]; exact Nat.le_trans hz (by decide)
  have hn : ∀ v, v ∈ ns → 0 ≤ v := fun v h => (hv v h).1
  refine ⟨fun σ' H' => H' = H ∧ σ' = [some (.ref l), some (.int n), some (.ref p), none, none, none, none, none, none, none] ∧ ¬ (0 < n ∧ ∀ v, v ∈ ns → v = 0), ?_, ?_⟩
  · refine ⟨_, rfl, _, _, rfl, rfl, _, rfl, ?_⟩
    refine ite2 (fun c => ?_) (fun c => iteF ⟨rfl, rfl, fun z => ?_⟩)
    · have c' : 0 < n := of_decide_eq_true c
      refine ⟨_, rfl, ?_⟩
      refine ⟨l, ns, rfl, hl, ?_⟩
      refine ⟨rfl, _, rfl, ?_⟩
      refine ite2 (fun c2 => ?_) (fun c2 => ⟨rfl, rfl, fun z => ?_⟩)
      · have c2' : V.int ns.sum = V.int 0 := of_decide_eq_true c2
        have e : ns.sum = 0 := V.int.inj c2'
        exact ⟨(by show 1 ≤ 1000; decide), bad c' ((sum_zero hn).mp e) H (Same.refl H)⟩
      · have c2' : ¬ V.int ns.sum = V.int 0 := of_decide_eq_false (Bool.eq_false_iff.mpr c2)
        exact c2' (by rw [(sum_zero hn).mpr z.2])
    · have c' : ¬ 0 < n := of_decide_eq_false (Bool.eq_false_iff.mpr c)
      exact c' z.1
  rintro σ' H' ⟨rfl, rfl, ng⟩
  replace good := good ng
  refine ⟨_, rfl, ?_⟩
  refine ⟨l, rfl, ⟨_, hl⟩, ?_⟩
  refine comp_mapL (fun _ => .int 0) hl hzl (fun i x Q _ h => h) ?_
  intro lt H1 N1
  have ez : (ns.map V.int).map (fun _ => V.int 0) = (ns.map fun _ => (0 : Int)).map V.int := by rw [List.map_map, List.map_map]; rfl
  rw [ez] at N1
  have S1 := N1.same
  have hl1 := S1.seq hl
  have R1 := R.same S1
  refine ⟨_, rfl, ?_⟩
  refine ⟨l, rfl, ⟨_, hl1⟩, ?_⟩
  refine comp_list (xs := ns.map V.int) (fun i ys H2 => Same H1 H2 ∧ ys.length = i ∧ ∀ (j : Nat) v x, ns[j]? = some v → ys[j]? = some x → PriceAt H2 a b v 0 x) hzl ⟨Same.refl _, rfl, fun j v x _ e => by simp at e⟩ (fun i ys H2 _ h => h.1.seq hl1) ?_ ?_
  · rintro i x ys H2 hx ⟨S2, ly, hy⟩
    obtain ⟨v, ev, rfl⟩ := get_map_int hx
    have hvv := hv v (List.mem_of_getElem? ev)
    refine yes ?_
    refine ⟨_, rfl, _, rfl, ?_⟩
    refine ⟨v, 0, p, a, b, rfl, R1.same S2, by omega, by omega, hvv.1, by omega, fun x H3 px S3 => ⟨S2.trans S3, by simp [ly], fun j v' x' e1 e2 => ?_⟩⟩
    by_cases hj : j < ys.length
    · rw [List.getElem?_append_left hj] at e2
      exact (hy j v' x' e1 e2).same' S3
    · have hji : j = ys.length := by
        rw [List.getElem?_append_right (by omega)] at e2
        have := (List.getElem?_eq_some_iff.mp e2).1
        simp at this
        omega
      subst hji
      rw [List.getElem?_append_right (Nat.le_refl _), Nat.sub_self] at e2
      have : x' = x := by simpa using e2.symm
      subst this
      rw [ly, ev] at e1
      cases e1
      exact px
  rintro ys H2 ⟨S2, ly, hy⟩ lp H3 N3
  rw [List.length_map] at ly
  have S13 : Same H1 H3 := S2.trans N3.same
  have S3 : Same H' H3 := S1.trans S13
  have e3t : H3 lt = some (.lst ((ns.map fun _ => (0 : Int)).map V.int)) := S13 _ _ N1.at_
  have lne : lt ≠ lp := ne_of_none (S2 _ _ N1.at_) N3.gone
  have nlt : H' lt = none := N1.gone
  have nlp : H' lp = none := S1.free (S2.free N3.gone)
  have row : RowAt H3 a b ns (ns.map fun _ => (0 : Int)) ys := by
    refine ⟨by simp, ly, fun j v g x e1 e2 e3 => ?_⟩
    rw [List.getElem?_map, e1] at e2
    have : g = 0 := (Option.some.inj e2).symm
    subst this
    exact (hy j v x e1 e3).same' N3.same
  have hvb : ∀ v, v ∈ ns → v ≤ 10 ^ 15 := fun v h => by have := (hv v h).2; omega
  obtain ⟨cs, ok, some_, best⟩ := row_best row a0 (by omega) (by omega) b1 hvb (fun g h => by obtain ⟨_, _, rfl⟩ := List.mem_map.mp h; omega)
  refine ⟨fun σ H4 => H4 = H3 ∧ ∃ f, σ = [some (.ref l), some (.int n), some (.ref p), some (.ref lt), some (.ref lp), some f, none, none, none, none] ∧ ((f = .non ∧ ∀ v, v ∈ ns → v = 0) ∨ ∃ (k : Nat) (x y : Int), f = .int k ∧ Best cs cs.length k x y), ?_, ?_⟩
  · refine ⟨_, rfl, ?_⟩
    refine ⟨lp, ys, cs, rfl, SqL.of N3.at_, by omega, ok, fun h => ?_, fun k x y h => ⟨rfl, _, rfl, .inr ⟨k, x, y, rfl, h⟩⟩⟩
    refine ⟨rfl, _, rfl, .inl ⟨rfl, fun v hv' => ?_⟩⟩
    rcases Int.lt_or_le 0 v with z | z
    · obtain ⟨i, x, y, e⟩ := some_ ⟨v, hv', z⟩
      exact absurd e (h i x y)
    · have := hn v hv'; omega
  rintro σ' H4 ⟨rfl, f, rfl, hf⟩
  refine ⟨fun σ H5 => ∃ (rN : Addr) (N D : Int), σ = [some (.ref l), some (.int n), some (.ref p), some (.ref lt), some (.ref lp), some f, some (.ref rN), none, none, none] ∧ Same H4 H5 ∧ H5 rN = some (.tup [.int N, .int D]) ∧ Dl a b ns (ns.map fun _ => (0 : Int)) 0 N D ∧ N ≤ 10 ^ 10 ∧ D ≤ 10 ^ 15, ?_, ?_⟩
  · refine ⟨_, rfl, ?_⟩
    refine ⟨rfl, ?_⟩
    refine ⟨_, rfl, ?_⟩
    rcases hf with ⟨rfl, h0⟩ | ⟨k, x, y, rfl, hb⟩
    · refine iteT ?_
      refine ⟨1, 1, rfl, by decide, by decide, fits_of (by decide) (by decide), fun q H5 x y L N5 => ?_⟩
      have ex : x = 1 := by have := L.eq; have := L.lex; have := L.ley; have := L.y0; omega
      have ey : y = 1 := by have := L.eq; have := L.lex; have := L.ley; have := L.y0; omega
      subst ex ey
      refine ⟨q, 1, 1, rfl, N5.same, N5.at_, dl_start hn (by decide) (by decide) (by decide) (fun _ => ⟨rfl, rfl⟩) (fun k v e v0 => ?_) (fun ⟨v, hv', v0⟩ => ?_), by decide, by decide⟩
      · have := h0 v (List.mem_of_getElem? e); omega
      · have := h0 v hv'; omega
    · refine iteF ?_
      obtain ⟨v, g, r, e1, e2, e3, er, v0, pr, all⟩ := best k x y hb
      have hg : g = 0 := by rw [List.getElem?_map, e1] at e2; exact (Option.some.inj e2).symm
      subst hg
      refine ⟨_, rfl, _, rfl, ?_⟩
      refine ⟨lp, _, _, _, rfl, rfl, .inl (SqL.of N3.at_), atI_of (by omega) (by simpa using e3), ?_⟩
      obtain ⟨bx, byy⟩ := pr_bd pr (by omega) (by omega) b1 (by decide) (by decide) v0 (hv v (List.mem_of_getElem? e1)).2
      refine ⟨r, x, y, rfl, Same.refl _, er, dl_start hn pr.x0 pr.y0 pr.one (fun h => ?_) (fun j w e w0 => ?_) (fun _ => ⟨k, v, e1, v0, ?_⟩), bx, byy⟩
      · have := h v (List.mem_of_getElem? e1); omega
      · have := (all j w 0 e (by rw [List.getElem?_map, e]; rfl) w0).1
        rwa [Int.zero_mul, Int.add_zero] at this
      · have := pr.eq
        rwa [show (0 : Int) + 1 - 1 = 0 by decide, Int.zero_mul, Int.add_zero] at this
  rintro σ' H5 ⟨rN, N, D, rfl, S5, eN, dl, bN, bD⟩
  refine ⟨_, rfl, ?_⟩
  refine ⟨n, rfl, by omega, by omega, ?_⟩
  refine for_range (fun i σ H6 => ∃ (rN : Addr) (N D : Int) (gs : List Int) (ps : List V) (v7 v8 : Option V), σ = [some (.ref l), some (.int n), some (.ref p), some (.ref lt), some (.ref lp), some f, some (.ref rN), v7, v8, none] ∧ Same H' H6 ∧ H6 rN = some (.tup [.int N, .int D]) ∧
    H6 lt = some (.lst (gs.map V.int)) ∧ H6 lp = some (.lst ps) ∧ RowAt H6 a b ns gs ps ∧ Dl a b ns gs i N D ∧ N ≤ 10 ^ 10 ∧ D ≤ 10 ^ 15) ?_ ?_ ?_
  · exact ⟨rN, N, D, _, ys, _, _, rfl, S3.trans S5, eN, S5 _ _ e3t, S5 _ _ N3.at_, row.same S5, dl, bN, bD⟩
  · rintro i σ H6 hi ⟨rN, N, D, gs, ps, v7, v8, rfl, S6, eN, et, ep, row, dl, _, _⟩
    have hin : (i : Int) < n := by omega
    have gb : ∀ g, g ∈ gs → 0 ≤ g ∧ g ≤ 500 := fun g hg => by
      have nn : ∀ x, x ∈ gs → 0 ≤ x := fun x hx => by
        obtain ⟨j, hj, ej⟩ := List.getElem_of_mem hx
        have hj2 : j < ns.length := by have := dl.len; omega
        exact (dl.nn j ns[j] x (by simp [hj2]) (by rw [List.getElem?_eq_getElem hj, ej])).1
      have := le_sum nn hg
      have := dl.sum
      exact ⟨nn g hg, by omega⟩
    obtain ⟨cs, ok, some_, best⟩ := row_best row a0 (by omega) (by omega) b1 hvb fun g h => ⟨(gb g h).1, by have := (gb g h).2; omega⟩
    refine ⟨_, rfl, ?_⟩
    refine ⟨lp, ps, cs, rfl, SqL.of ep, by have := row.2.1; omega, ok, fun h => ?_, fun k x y h => ?_⟩
    · refine absurd ⟨by omega, fun v hv' => ?_⟩ ng
      rcases Int.lt_or_le 0 v with z | z
      · obtain ⟨i, x, y, e⟩ := some_ ⟨v, hv', z⟩
        exact absurd e (h i x y)
      · have := hn v hv'; omega
    obtain ⟨v, g, r, e1, e2, e3, er, v0, pr, all⟩ := best k x y h
    have g0 := gb g (List.mem_of_getElem? e2)
    have hvv := hv v (List.mem_of_getElem? e1)
    obtain ⟨bx, byy⟩ := pr_bd pr (by omega) (by omega) b1 g0.1 (by omega) v0 hvv.2
    have kl : k < gs.length := (List.getElem?_eq_some_iff.mp e2).1
    have kp : k < ps.length := (List.getElem?_eq_some_iff.mp e3).1
    refine ⟨_, rfl, _, rfl, ?_⟩
    refine ⟨lp, _, _, _, rfl, rfl, .inl (SqL.of ep), atI_of (by omega) (by simpa using e3), ?_⟩
    refine ⟨_, rfl, _, rfl, lt, _, _, _, rfl, rfl, SqL.of et, at_int e2, ?_⟩
    refine ⟨_, _, rfl, rfl, lt, _, k, k, rfl, rfl, et, ix_nat (by rw [List.length_map]; exact kl), ?_⟩
    have S7 : Same H' (upd H6 lt (.lst ((gs.map V.int).set k (.int (g + 1))))) := S6.upd nlt
    have e7t : (upd H6 lt (.lst ((gs.map V.int).set k (.int (g + 1))))) lt = some (.lst ((gs.set k (g + 1)).map V.int)) := by rw [upd_same, List.map_set]
    have e7p : (upd H6 lt (.lst ((gs.map V.int).set k (.int (g + 1))))) lp = some (.lst ps) := by rw [upd_ne (Ne.symm lne)]; exact ep
    have er7 : (upd H6 lt (.lst ((gs.map V.int).set k (.int (g + 1))))) r = some (.tup [.int x, .int y]) := by rw [upd_ne (ne_of er et (by intro z; cases z))]; exact er
    have but7 : ∀ q o, q ≠ lt → H6 q = some o → (upd H6 lt (.lst ((gs.map V.int).set k (.int (g + 1))))) q = some o := fun q o hq e => by rw [upd_ne hq]; exact e
    generalize upd H6 lt (.lst ((gs.map V.int).set k (.int (g + 1)))) = H7 at *
    refine ⟨_, rfl, _, rfl, ?_⟩
    refine ⟨l, _, _, _, rfl, rfl, .inl (S7.seq hl), at_int e1, ?_⟩
    refine ⟨_, rfl, _, rfl, ?_⟩
    refine ⟨lt, _, _, _, rfl, rfl, .inl (SqL.of e7t), at_int (n := g + 1) (by rw [List.getElem?_set_self kl]), ?_⟩
    refine ⟨_, rfl, ?_⟩
    refine ⟨v, g + 1, p, a, b, rfl, R.same S7, by omega, by omega, hvv.1, by omega, fun z H8 pz S8 => ?_⟩
    refine ⟨_, rfl, _, rfl, lp, ps, k, k, rfl, rfl, S8 _ _ e7p, ix_nat kp, ?_⟩
    refine ⟨r, x, y, gs.set k (g + 1), ps.set k z, _, _, rfl, (S7.trans S8).upd nlp, ?_, ?_, upd_same, ⟨by rw [List.length_set]; exact row.1, by rw [List.length_set]; exact row.2.1, fun j v' g' x' f1 f2 f3 => ?_⟩, dl_step a0 (by omega) dl e1 e2 v0 pr (by omega) all, bx, byy⟩
    · rw [upd_ne (ne_of (S8 _ _ er7) (S8 _ _ e7p) (by intro z; cases z))]; exact S8 _ _ er7
    · rw [upd_ne lne]; exact S8 _ _ e7t
    · have low : ∀ {v g x}, PriceAt H8 a b v g x → PriceAt (upd H8 lp (.lst (ps.set k z))) a b v g x := fun {v g x} h => by
        rcases h with h | ⟨v0, r, i, j, e, hr, p⟩
        · exact .inl h
        · exact .inr ⟨v0, r, i, j, e, by rw [upd_ne (ne_of hr (S8 _ _ e7p) (by intro z; cases z))]; exact hr, p⟩
      refine low ?_
      rcases get_set f2 with ⟨rfl, rfl, _⟩ | ⟨nj, f2'⟩
      · rw [e1] at f1; cases f1
        rcases get_set f3 with ⟨_, rfl, _⟩ | ⟨z, _⟩
        · exact pz
        · exact absurd rfl z
      · rcases get_set f3 with ⟨z, _, _⟩ | ⟨_, f3'⟩
        · exact absurd z nj
        · rcases row.2.2 j v' g' x' f1 f2' f3' with h | ⟨v0, r, i, j, e, hr, p⟩
          · exact .inl h
          · exact .inr ⟨v0, r, i, j, e, S8 _ _ (but7 _ _ (ne_of hr et (by intro z; cases z)) hr), p⟩
  · rintro σ H6 ⟨rN, N, D, gs, ps, v7, v8, rfl, S6, eN, et, ep, row, dl, bN, bD⟩
    refine ⟨_, rfl, _, rfl, (by show 2 ≤ sizeLine; decide), fun rr H7 N7 => ?_⟩
    have en : ((n.toNat : Nat) : Int) = n := by omega
    rw [en] at dl
    exact good rr lt rN H7 gs N D (S6.trans N7.same) nlt N7.at_ (N7.same _ _ et) (N7.same _ _ eN) dl bN bD
end
end K3
namespace K3
open PySem L2 SW
section
variable {P : Program} {w : World} {K : PySem.W.Frag} {mg : Str → Option Value} {base : Heap}
/-- _law_ratio of a pair above 0 -/
def spLRatio : Sp := fun vs H Q _ => ∃ (t : Addr) (a b : Int), vs = [.ref t] ∧ H t = some (.tup [.int a, .int b]) ∧ 1 ≤ a ∧ 1 ≤ b ∧ Fits a ∧ Fits b ∧ Q (.bl (decide (gcdI a b = 1))) H
theorem ok_lratio (T : Txt K mg) : FnOk P w K mg base CX0 1 T.a_lratio T.fd_lratio ["_law_told"] spLRatio := by
  refine T.F_lratio.ok sc_lratio (fun vs H Q E h => ?_) (fun cdv A outer s H vs Q E hr h => ?_)
  · obtain ⟨t, a, b, rfl, _⟩ := h
    rfl
  obtain ⟨t, a, b, rfl, ht, a1, b1, fa, fb, q⟩ := h
  refine ⟨_, (pss_cons (ps_if (PW.pt (pw_or (pt_not (pt_val (pe_isinstT rfl T.n_isinstance rfl T.n_tuple PyProof.Rows.boot_tuple (pv 0)))) (pw_or1 (pt_cmpR op_ne (pe_callB call_lenQ (by rfl) T.n_len PySem.boot_len (pa_cons (pv 0) pa_nil)) pe_int (nomark _)))))
      (pss_one (ps_ret pe_bl))
      pss_nil)
      (pss_cons (ps_for PassesOwn.never rfl (pi_tup (pv 0)) (pg_name (i := 1) sc_lratio.nd rfl (Or.inl rfl))
      (pss_one (ps_if (PW.pt (pw_or (pt_not (pt_val (pe_isinstT rfl T.n_isinstance rfl T.n_int PyProof.Rows.boot_int (pv 1)))) (pw_or (pt_val (pe_isinstT rfl T.n_isinstance rfl T.n_bool PyProof.Rows.boot_bool (pv 1))) (pw_or1 (pt_cmpR op_lt (pv 1) pe_int (nomark _))))))
      (pss_one (ps_ret pe_bl))
      pss_nil)))
      (pss_cons (ps_asg (pv 0) (pg_tup rfl (pgs_cons (pg_name (i := 2) sc_lratio.nd rfl (Or.inl rfl)) (pgs_cons (pg_name (i := 3) sc_lratio.nd rfl (Or.inl rfl)) pgs_nil))))
      (pss_cons (ps_while PassesOwn.never (pt_cmpR op_gt (pv 3) pe_int (nomark _))
      (pss_one (ps_par (i := 2) (j := 3) rfl sc_lratio.nd rfl rfl (by decide) rfl rfl (pa_cons (pv 3) (pa_cons (pe_op op_sub (pv 2) (pe_op op_mulF (pe_op op_fdivF (pv 2) (pv 3)) (pv 3))) pa_nil)) rfl)))
      (pss_one (ps_ret (pe_cmpR op_eq (pv 2) pe_int (nomark _)))))))), ?_⟩
  refine ⟨_, rfl, ?_⟩
  refine ⟨_, _, _, rfl, .tup ht, kit_tup_tup _, _, rfl, iteF ?_⟩
  refine ⟨_, rfl, ?_⟩
  refine ⟨t, _, rfl, .inr (SqT.of ht), ?_⟩
  refine ⟨rfl, _, rfl, ?_⟩
  refine iteF ?_
  refine ⟨_, rfl, ?_⟩
  refine ⟨t, rfl, ⟨_, SqT.of ht⟩, for_tup (K := K) (a := t) (xs := [.int a, .int b]) (fun i σ H' => H' = H ∧ ∃ v1, σ = [some (.ref t), v1, none, none]) ⟨rfl, none, rfl⟩ (fun i σ H' _ h => by rw [h.1]; exact SqT.of ht) ?_ ?_⟩
  · rintro i z σ H' hz ⟨rfl, v1, rfl⟩
    obtain ⟨m, rfl, hm⟩ : ∃ m : Int, z = .int m ∧ 1 ≤ m := by
      match i, hz with
      | 0, hz => cases hz; exact ⟨a, rfl, a1⟩
      | 1, hz => cases hz; exact ⟨b, rfl, b1⟩
      | (i + 2), hz => simp at hz
    refine ⟨_, rfl, ?_⟩
    refine ⟨_, _, _, rfl, .int _, kit_int_int _, _, rfl, iteF ?_⟩
    refine ⟨_, rfl, ?_⟩
    refine ⟨_, _, _, rfl, .int _, kit_int_bool _, _, rfl, iteF ?_⟩
    refine ⟨_, rfl, _, _, rfl, rfl, _, rfl, ?_⟩
    rw [decide_eq_false (by omega)]
    refine iteF ?_
    exact ⟨rfl, _, rfl⟩
  rintro σ H' ⟨rfl, v1, rfl⟩
  refine ⟨_, rfl, ?_⟩
  refine ⟨t, _, rfl, SqT.of ht, rfl, _, _, rfl, _, _, rfl, rfl, ?_⟩
  refine ⟨fun m σ H2 => H2 = H' ∧ ∃ (x y : Int), σ = [some (.ref t), v1, some (.int x), some (.int y)] ∧ 0 ≤ x ∧ 0 ≤ y ∧ Fits x ∧ Fits y ∧ gcdI x y = gcdI a b ∧ m = y.toNat, ⟨_, rfl, a, b, rfl, by omega, by omega, fa, fb, rfl, rfl⟩, ?_⟩
  rintro m σ H2 ⟨rfl, x, y, rfl, hx, hy, fx, fy, hg, rfl⟩
  refine ⟨_, rfl, _, _, rfl, rfl, _, rfl, ?_⟩
  refine ite2 (fun c => ?_) (fun c => ?_)
  · have c' : 0 < y := of_decide_eq_true c
    have h1 := Int.emod_nonneg x (by omega : y ≠ 0)
    have h2 := Int.emod_lt_of_pos x c'
    have h3 : 0 ≤ x / y := Int.ediv_nonneg hx hy
    have h4 : x / y ≤ x := Int.ediv_le_self _ hx
    have h5 : x - x / y * y = x % y := by rw [Int.emod_def, Int.mul_comm]
    refine ⟨_, fun _ _ h => h, ?_⟩
    refine ⟨_, rfl, _, rfl, _, rfl, _, rfl, _, _, rfl, rfl, ⟨c', fy⟩, _, rfl, _, _, rfl, rfl, .inr ⟨Fits.le h3 h4 fx, fy⟩, _, _, rfl, rfl, _, _, rfl, ?_⟩
    dsimp only
    rw [h5]
    exact ⟨_, by omega, rfl, y, x % y, rfl, hy, h1, fy, Fits.le h1 (by omega) fy, by rw [gcdI_step]; exact hg, rfl⟩
  · have c' : ¬ 0 < y := of_decide_eq_false (Bool.eq_false_iff.mpr c)
    have y0 : y = 0 := by omega
    subst y0
    rw [gcdI_zero hx] at hg
    refine ⟨_, rfl, rfl, ?_⟩
    rw [decVI, hg]
    exact q
end
end K3
namespace K3
open PySem L2 SW
section
variable {P : Program} {w : World} {K : PySem.W.Frag} {mg : Str → Option Value} {base : Heap}
def atB (v N D p q n : Int) : Bool := decide (0 < n) && decide (v * N * q = D * (p + (n - 1) * q))
def spAtMark : Sp := fun vs H Q _ => ∃ (t u : Addr) (v n N D p q : Int), vs = [.int v, .ref t, .ref u, .int n] ∧ H t = some (.tup [.int N, .int D]) ∧ H u = some (.tup [.int p, .int q]) ∧ 0 ≤ v ∧ v ≤ 10 ^ 9 ∧ 0 ≤ n ∧ n ≤ 800 ∧ 0 ≤ N ∧ N ≤ 10 ^ 10 ∧ 0 ≤ D ∧ D ≤ 10 ^ 15 ∧ 0 < p ∧ p ≤ q ∧ q ≤ 1000 ∧ Q (.bl (atB v N D p q n)) H
theorem mul_bound {a b A B : Int} (h1 : -A ≤ a) (h2 : a ≤ A) (h3 : 0 ≤ b) (h4 : b ≤ B) : -(A * B) ≤ a * b ∧ a * b ≤ A * B := by
  have hA : 0 ≤ A := by omega
  constructor
  · have l1 : -A * b ≤ a * b := Int.mul_le_mul_of_nonneg_right h1 h3
    have l2 : A * b ≤ A * B := Int.mul_le_mul_of_nonneg_left h4 hA
    rw [Int.neg_mul] at l1
    omega
  · have l1 : a * b ≤ A * b := Int.mul_le_mul_of_nonneg_right h2 h3
    have l2 : A * b ≤ A * B := Int.mul_le_mul_of_nonneg_left h4 hA
    omega
theorem ok_lat_mark (T : Txt K mg) : FnOk P w K mg base CX0 1 T.a_lat_mark T.fd_lat_mark ["_law_vote_here", "_law_number", "_law_part", "_law_n"] spAtMark := by
  refine T.F_lat_mark.ok sc_lat_mark (fun vs H Q E h => ?_) (fun cdv A outer s H vs Q E hr h => ?_)
  · obtain ⟨t, u, v, n, N, D, p, q, rfl, _⟩ := h
    rfl
  obtain ⟨t, u, v, n, N, D, p, q, rfl, ht, hu, v0, v1, n0, n1, N0, N1, D0, D1, p0, pq, q1, k⟩ := h
  refine ⟨_, (pss_cons (ps_set (i := 4) sc_lat_mark.nd rfl (Or.inl rfl) (pe_op op_add (pe_ix ix_any (pv 2) pe_int (fun _ _ => rfl)) (pe_op op_mulF (pe_op op_sub (pv 3) pe_int) (pe_ix ix_any (pv 2) pe_int (fun _ _ => rfl)))))
      (pss_one (ps_ret (pe_and (pe_cmpR op_gt (pv 3) pe_int (nomark _)) (pe_one (pe_cmpR op_eq (pe_op op_mulF (pe_op op_mulF (pv 0) (pe_ix ix_any (pv 1) pe_int (fun _ _ => rfl))) (pe_ix ix_any (pv 2) pe_int (fun _ _ => rfl))) (pe_op op_mulF (pe_ix ix_any (pv 1) pe_int (fun _ _ => rfl)) (pv 4)) (nomark _))))))), ?_⟩
  have m1 := mul_bound (a := n - 1) (A := 800) (by omega) (by omega) (by omega : 0 ≤ q) q1
  have m2 := mul_bound (a := v) (A := 10 ^ 9) (by omega) (by omega) N0 N1
  have sqt : Sq K H t [.int N, .int D] := .inr (SqT.of ht)
  have squ : Sq K H u [.int p, .int q] := .inr (SqT.of hu)
  refine ⟨_, rfl, u, _, _, _, rfl, rfl, squ, rfl, _, rfl, _, _, rfl, rfl, _, rfl, u, _, _, _, rfl, rfl, squ, rfl, _, _, rfl, rfl, .inr ⟨fits_of (by omega) (by omega), fits_of (by omega) (by omega)⟩, _, _, rfl, rfl, ?_⟩
  unfold atB at k
  refine ⟨_, rfl, _, _, rfl, rfl, _, rfl, ?_⟩
  refine ite2 (fun c => ?_) (fun c => ?_)
  · have c' : 0 < n := of_decide_eq_true c
    rw [decide_eq_true c', Bool.true_and] at k
    refine ⟨_, rfl, _, rfl, t, _, _, _, rfl, rfl, sqt, rfl, _, _, rfl, rfl, .inr ⟨fits_of (by omega) (by omega), fits_of (by omega) (by omega)⟩, _, rfl, u, _, _, _, rfl, rfl, squ, rfl, _, _, rfl, rfl, .inr ⟨fits_of (by omega) (by omega), fits_of (by omega) (by omega)⟩, ?_⟩
    refine ⟨_, rfl, t, _, _, _, rfl, rfl, sqt, rfl, _, rfl, _, _, rfl, rfl, .inr ⟨fits_of (by omega) (by omega), fits_of (by omega) (by omega)⟩, rfl, ?_⟩
    rw [decVI]
    exact k
  · have c' : ¬ 0 < n := of_decide_eq_false (Bool.eq_false_iff.mpr c)
    rw [decide_eq_false c', Bool.false_and] at k
    exact k
end
end K3
namespace SW
theorem at_iff {v N D p q a b m : Int} (b0 : 0 < b) (q0 : 0 < q) (e : a * q = b * p) : (v * N * q = D * (p + m * q)) ↔ (N * (b * v) = D * (a + m * b)) := by
  have h1 : b * (v * N * q) = q * (N * (b * v)) := by grind
  have h2 : b * (D * (p + m * q)) = q * (D * (a + m * b)) := by grind
  constructor
  · intro h
    rw [h, h2] at h1
    exact (Int.eq_of_mul_eq_mul_left (Int.ne_of_gt q0) h1).symm
  · intro h
    rw [h, ← h2] at h1
    exact Int.eq_of_mul_eq_mul_left (Int.ne_of_gt b0) h1
theorem dl_fits {a b n N D : Int} {vs gs : List Int} {k : Nat} {v g : Int} (a0 : 0 < a) (b0 : 0 < b) (dl : Dl a b vs gs n N D) (v0 : 0 ≤ v) (hv : vs[k]? = some v) (hg : gs[k]? = some g) : fitsB (v * N) D a b g = true := by
  obtain ⟨g0, gz⟩ := dl.nn k v g hv hg
  have D0 := dl.D0
  have e : v * N * b = N * (b * v) := by grind
  unfold fitsB
  rw [e]
  by_cases hz : v = 0
  · have := gz hz
    subst this hz
    have : 0 < D * a := Int.mul_pos D0 a0
    have h1 : N * (b * 0) ≤ D * (a + 0 * b) := by rw [Int.mul_zero, Int.mul_zero, Int.zero_mul, Int.add_zero]; omega
    rw [decide_eq_true h1]
    simp
  · have v1 : 0 < v := by omega
    rw [decide_eq_true (dl.hi k v g hv hg v1), Bool.and_true]
    by_cases g1 : 0 < g
    · have := dl.lo k v g hv hg v1 g1
      rw [decide_eq_false (by omega : ¬ N * (b * v) < D * (a + (g - 1) * b))]
      simp
    · rw [decide_eq_false g1]; simp
end SW
namespace K3
open PySem L2 SW
section
variable {P : Program} {w : World} {K : PySem.W.Frag} {mg : Str → Option Value} {base : Heap}
/-- the places, as numbers -/
def plc (m : Nat) (f : Nat → Bool) : List Int := ((List.range m).filter f).map fun (i : Nat) => 0 + (i : Int)
theorem mem_plc {m : Nat} {f : Nat → Bool} {x : Int} : x ∈ plc m f ↔ ∃ k : Nat, k < m ∧ f k = true ∧ x = k := by
  unfold plc
  rw [List.mem_map]
  constructor
  · rintro ⟨k, hk, rfl⟩
    obtain ⟨h1, h2⟩ := List.mem_filter.mp hk
    exact ⟨k, List.mem_range.mp h1, h2, by omega⟩
  · rintro ⟨k, h1, h2, rfl⟩
    exact ⟨k, List.mem_filter.mpr ⟨List.mem_range.mpr h1, h2⟩, by omega⟩
theorem plc_map (m : Nat) (f : Nat → Bool) : ((List.range m).filter f).map (fun (i : Nat) => V.int (0 + (i : Int))) = (plc m f).map V.int := by
  unfold plc; rw [List.map_map]; rfl
def spRight (K : PySem.W.Frag) : Sp := fun vs H Q _ => ∃ (lv u r g t : Addr) (ns gs : List Int) (n N D p q a b : Int), vs = [.ref lv, .int n, .ref u, .ref r] ∧ SqL K H lv (ns.map V.int) ∧ 0 < ns.length ∧ ns.length ≤ 100 ∧ (∀ v, v ∈ ns → 0 ≤ v ∧ v ≤ 10 ^ 9) ∧
  H u = some (.tup [.int p, .int q]) ∧ H r = some (.tup [.ref g, .ref t]) ∧ H g = some (.lst (gs.map V.int)) ∧ H t = some (.tup [.int N, .int D]) ∧ 0 < p ∧ p ≤ q ∧ q ≤ 1000 ∧ 0 < a ∧ 0 < b ∧ a * q = b * p ∧ Dl a b ns gs n N D ∧ N ≤ 10 ^ 10 ∧ D ≤ 10 ^ 15 ∧ 0 ≤ n ∧ n ≤ 400 ∧
  ¬ (0 < n ∧ ∀ v, v ∈ ns → v = 0) ∧ ∀ H', Same H H' → Q (.bl true) H'
theorem ok_lright (T : Txt K mg) : FnOk P w K mg base CX0 2 T.a_lright T.fd_lright ["_law_votes", "_law_seats", "_law_part", "_law_told"] (spRight K) := by
  refine T.F_lright.ok sc_lright (fun vs H Q E h => ?_) (fun cdv A outer s H vs Q E hr h => ?_)
  · obtain ⟨lv, u, r, g, t, ns, gs, n, N, D, p, q, a, b, rfl, _⟩ := h
    rfl
  obtain ⟨lv, u, r, g, t, ns, gs, n, N, D, p, q, a, b, rfl, hv, l0, l1, hb, hu, hR, hg, ht, p0, pq, q1, a0, b0, e, dl, N1, D1, n0, n1, ng, k⟩ := h
  refine ⟨_, (pss_cons (ps_if (PW.pt (pw_or (pt_not (pt_val (pe_isT K rfl T.n_isinstance rfl T.n_tuple PyProof.Rows.boot_tuple (pv 3)))) (pw_or (pt_cmpR op_neI (pe_callB (len_Q K) (by rfl) T.n_len PySem.boot_len (pa_cons (pv 3) pa_nil)) pe_int (nomark _)) (pw_or1 (pt_not (pt_val (pe_isT K rfl T.n_isinstance rfl T.n_list PyProof.Rows.boot_list (pe_ix (ix_Q K) (pv 3) pe_int (fun _ _ => rfl)))))))))
      (pss_one (ps_ret pe_bl))
      pss_nil)
      (pss_cons (ps_asg (pv 3) (pg_tupQ K rfl (pgs_cons (pg_name (i := 4) sc_lright.nd rfl (Or.inr rfl)) (pgs_cons (pg_name (i := 5) sc_lright.nd rfl (Or.inr rfl)) pgs_nil))))
      (pss_cons (ps_if (pt_cmpR op_neI (pe_callB (len_Q K) (by rfl) T.n_len PySem.boot_len (pa_cons (pv 4) pa_nil)) (pe_callB (len_Q K) (by rfl) T.n_len PySem.boot_len (pa_cons (pv 0) pa_nil)) (nomark _))
      (pss_one (ps_ret pe_bl))
      pss_nil)
      (pss_cons (ps_if (PW.pt (pw_or (pt_cmpR op_neI (pe_callB (sum_Q K rfl) (by rfl) T.n_sum PyProof.Rows.boot_sum (pa_cons (pv 4) pa_nil)) (pv 1) (nomark _)) (pw_or1 (pt_not (pt_val (pe_call (ok_lratio T) (hr.mono (by decide)) rfl T.m_lratio T.F_lratio.kp T.b_lratio .nil pass0 (pa_cons (pv 5) pa_nil)))))))
      (pss_one (ps_ret pe_bl))
      pss_nil)
      (pss_cons (ps_for PassesOwn.never rfl (pi_range1 rfl T.n_range (pa_cons (pe_callB (len_Q K) (by rfl) T.n_len PySem.boot_len (pa_cons (pv 0) pa_nil)) pa_nil)) (pg_name (i := 6) sc_lright.nd rfl (Or.inl rfl))
      (pss_cons (ps_if (PW.pt (pw_or (pt_not (pt_val (pe_isT K rfl T.n_isinstance rfl T.n_int PyProof.Rows.boot_int (pe_ix (ix_Q K) (pv 4) (pv 6) (fun _ _ => rfl))))) (pw_or (pt_val (pe_isT K rfl T.n_isinstance rfl T.n_bool PyProof.Rows.boot_bool (pe_ix (ix_Q K) (pv 4) (pv 6) (fun _ _ => rfl)))) (pw_or1 (pt_cmpR op_lt (pe_ix (ix_Q K) (pv 4) (pv 6) (fun _ _ => rfl)) pe_int (nomark _))))))
      (pss_one (ps_ret pe_bl))
      pss_nil)
      (pss_cons (ps_if (PW.pt (pw_and (pt_cmpR op_eqI (pe_ix (ix_Q K) (pv 0) (pv 6) (fun _ _ => rfl)) pe_int (nomark _)) (pw_and1 (pt_cmpR op_gt (pe_ix (ix_Q K) (pv 4) (pv 6) (fun _ _ => rfl)) pe_int (nomark _)))))
      (pss_one (ps_ret pe_bl))
      pss_nil)
      (pss_one (ps_if (pt_not (pt_val (pe_call (ok_lfits T) (hr.mono (by decide)) rfl T.m_lfits T.F_lfits.kp T.b_lfits .nil pass0 (pa_cons (pe_op op_mulF (pe_ix (ix_Q K) (pv 0) (pv 6) (fun _ _ => rfl)) (pe_ix (ix_Q K) (pv 5) pe_int (fun _ _ => rfl))) (pa_cons (pe_ix (ix_Q K) (pv 5) pe_int (fun _ _ => rfl)) (pa_cons (pv 2) (pa_cons (pe_ix (ix_Q K) (pv 4) (pv 6) (fun _ _ => rfl)) pa_nil)))))))
      (pss_one (ps_ret pe_bl))
      pss_nil)))))
      (pss_cons (ps_setC (i := 7) [6] rfl (blk_of rfl) (pi_range1 rfl T.n_range (pa_cons (pe_callB (len_Q K) (by rfl) T.n_len PySem.boot_len (pa_cons (pv 0) pa_nil)) pa_nil)) (fun _ => (pg_name (i := 6) sc_lright.nd rfl (Or.inl rfl))) (fun _ => pts_one (pt_val (pe_call (ok_lat_mark T) (hr.mono (by decide)) rfl T.m_lat_mark T.F_lat_mark.kp T.b_lat_mark .nil pass0 (pa_cons (pe_ix (ix_Q K) (pv 0) (pv 6) (fun _ _ => rfl)) (pa_cons (pv 5) (pa_cons (pv 2) (pa_cons (pe_ix (ix_Q K) (pv 4) (pv 6) (fun _ _ => rfl)) pa_nil))))))) (fun _ => (pv 6)) sc_lright.nd rfl rfl)
      (pss_cons (ps_setC (i := 8) [6] rfl (blk_of rfl) (pi_range1 rfl T.n_range (pa_cons (pe_callB (len_Q K) (by rfl) T.n_len PySem.boot_len (pa_cons (pv 0) pa_nil)) pa_nil)) (fun _ => (pg_name (i := 6) sc_lright.nd rfl (Or.inl rfl))) (fun _ => pts_one (pt_val (pe_call (ok_lat_mark T) (hr.mono (by decide)) rfl T.m_lat_mark T.F_lat_mark.kp T.b_lat_mark .nil pass0 (pa_cons (pe_ix (ix_Q K) (pv 0) (pv 6) (fun _ _ => rfl)) (pa_cons (pv 5) (pa_cons (pv 2) (pa_cons (pe_op op_add (pe_ix (ix_Q K) (pv 4) (pv 6) (fun _ _ => rfl)) pe_int) pa_nil))))))) (fun _ => (pv 6)) sc_lright.nd rfl rfl)
      (pss_cons (ps_meet (ps_if (PW.pt (pw_or (PW.pt (pw_and (pt_cmpR op_gt (pv 1) pe_int (nomark _)) (pw_and1 (pt_cmpR (eqLI_Q K hr.units) (pv 7) (pe_lstA pa_nil) (nomark _))))) (pw_or1 (PW.pt (pw_and (pt_cmpR op_eqI (pv 1) pe_int (nomark _)) (pw_and (pt_cmpR op_gt (pe_callB (max_Q K rfl) (by rfl) T.n_max PyProof.Rows.boot_max (pa_cons (pv 0) pa_nil)) pe_int (nomark _)) (pw_and1 (pt_cmpR (eqLI_Q K hr.units) (pv 8) (pe_lstA pa_nil) (nomark _)))))))))
      (pss_one (ps_ret pe_bl))
      pss_nil))
      (pss_cons (ps_meet (ps_if (PW.pt (pw_and (pt_cmpR op_eqI (pe_callB (max_Q K rfl) (by rfl) T.n_max PyProof.Rows.boot_max (pa_cons (pv 0) pa_nil)) pe_int (nomark _)) (pw_and1 (pt_cmpR (op_neP hr.units) (pv 5) (pe_tupA (pa_cons pe_int (pa_cons pe_int pa_nil))) (nomark _)))))
      (pss_one (ps_ret pe_bl))
      pss_nil))
      (pss_one (ps_ret (pe_or (pe_cmpR op_eqI (pv 1) pe_int (nomark _)) (pe_or (pe_cmpR (eqLI_Q K hr.units) (pv 8) (pe_lstA pa_nil) (nomark _)) (pe_one (pe_cmpR op_lt (pe_callB (max_Q K rfl) (by rfl) T.n_max PyProof.Rows.boot_max (pa_cons (pv 7) pa_nil)) (pe_callB (min_Q K rfl) (by rfl) T.n_min PyProof.Rows.boot_min (pa_cons (pv 8) pa_nil)) (nomark _)))))))))))))))), ?_⟩
  have q0 : 0 < q := by omega
  have gl : gs.length = ns.length := dl.len
  have hN0 := dl.N0
  have hD0 := dl.D0
  -- the test of the shape
  refine ⟨_, rfl, _, _, _, rfl, .tup (by assumption), kit_tup_tup _, _, rfl, ?_⟩
  refine iteF ?_
  refine ⟨_, rfl, _, _, rfl, Or.inr (SqT.of (by assumption)), _, _, rfl, rfl, _, rfl, ?_⟩
  refine iteF ?_
  refine ⟨_, rfl, _, _, _, _, rfl, rfl, Or.inr (SqT.of (by assumption)), rfl, _, _, _, rfl, .lst (by assumption), kit_list_list _, _, rfl, ?_⟩
  refine iteF ?_
  refine ⟨_, rfl, _, _, rfl, SqT.of (by assumption), rfl, _, _, rfl, _, _, rfl, rfl, _, rfl, _, _, rfl, Or.inl (SqL.of (by assumption)), _, rfl, _, _, rfl, Or.inl (by assumption), _, _, rfl, rfl, _, rfl, ?_⟩
  rw [List.length_map, List.length_map, gl]
  refine iteNS rfl ?_
  refine ⟨_, rfl, _, _, rfl, SqL.of (by assumption), _, rfl, _, _, rfl, rfl, _, rfl, ?_⟩
  rw [dl.sum]
  refine iteNS (c := n = n) rfl ?_
  refine ⟨_, rfl, ?_⟩
  refine ⟨t, N, D, rfl, ht, by omega, by omega, fits_of (by omega) (by omega), fits_of (by omega) (by omega), ?_⟩
  refine ⟨_, rfl, ?_⟩
  rw [dl.one]
  refine iteF ?_
  refine ⟨_, rfl, _, _, rfl, Or.inl (by assumption), ?_⟩
  have lz : ((ns.map V.int).length : Int) = ns.length := by rw [List.length_map]
  refine ⟨_, rfl, by omega, by omega, ?_⟩
  have lz2 : (((ns.map V.int).length : Int)).toNat = ns.length := by omega
  rw [lz2]
  -- each place
  have get : ∀ i : Nat, i < ns.length → ∃ v x, ns[i]? = some v ∧ gs[i]? = some x ∧ 0 ≤ v ∧ v ≤ 10 ^ 9 ∧ 0 ≤ x ∧ x ≤ 400 ∧ (v = 0 → x = 0) := fun i hi => by
    have hi2 : i < gs.length := by omega
    refine ⟨ns[i], gs[i], by simp [hi], by simp [hi2], (hb _ (List.getElem_mem hi)).1, (hb _ (List.getElem_mem hi)).2, ?_⟩
    have nn : ∀ x, x ∈ gs → 0 ≤ x := fun x hx => by
      obtain ⟨j, hj, ej⟩ := List.getElem_of_mem hx
      have hj2 : j < ns.length := by omega
      exact (dl.nn j ns[j] x (by simp [hj2]) (by rw [List.getElem?_eq_getElem hj, ej])).1
    have h1 := dl.nn i ns[i] gs[i] (by simp [hi]) (by simp [hi2])
    have h2 := le_sum nn (List.getElem_mem hi2)
    have h3 := dl.sum
    exact ⟨h1.1, by omega, h1.2⟩
  have toN : ∀ i : Nat, (0 + (i : Int)) = (i : Int) := fun i => by omega
  refine for_range (fun i σ H' => H' = H ∧ ∃ v6, σ = [some (.ref lv), some (.int n), some (.ref u), some (.ref r), some (.ref g), some (.ref t), v6, none, none]) ⟨rfl, _, rfl⟩ ?_ ?_
  · rintro i σ H' hi ⟨rfl, v6, rfl⟩
    obtain ⟨v, x, e1, e2, v0, v1, x0, x1, vx⟩ := get i hi
    have atg : atI (gs.map V.int) (0 + (i : Int)) = some (.int x) := by rw [toN]; exact at_int e2
    have atv : atI (ns.map V.int) (0 + (i : Int)) = some (.int v) := by rw [toN]; exact at_int e1
    have sqg : Sq K H' g (gs.map V.int) := .inl (SqL.of hg)
    have sqv : Sq K H' lv (ns.map V.int) := .inl hv
    have sqt : Sq K H' t [.int N, .int D] := .inr (SqT.of ht)
    have mb := mul_bound (a := v) (A := 10 ^ 9) (by omega) (by omega) (by omega : 0 ≤ N) N1
    have fit : fitsB (v * N) D p q x = true := by rw [← fitsB_same b0 q0 e]; exact dl_fits a0 b0 dl v0 e1 e2
    refine ⟨_, rfl, _, rfl, _, _, _, _, rfl, rfl, by assumption, by assumption, _, _, _, rfl, .int _, kit_int_int _, _, rfl, ?_⟩
    refine iteF ?_
    refine ⟨_, rfl, _, rfl, _, _, _, _, rfl, rfl, by assumption, by assumption, _, _, _, rfl, .int _, kit_int_bool _, _, rfl, ?_⟩
    refine iteF ?_
    refine ⟨_, rfl, _, rfl, _, _, _, _, rfl, rfl, by assumption, by assumption, _, _, rfl, rfl, _, rfl, ?_⟩
    rw [decide_eq_false (by omega)]
    refine iteF ?_
    refine ⟨_, rfl, _, rfl, _, _, _, _, rfl, rfl, by assumption, by assumption, _, _, rfl, rfl, _, rfl, ?_⟩
    refine ite2 (fun c => ?_) (fun c => iteF ?_)
    · have c' : v = 0 := of_decide_eq_true c
      refine ⟨_, rfl, _, rfl, _, _, _, _, rfl, rfl, by assumption, by assumption, _, _, rfl, rfl, _, rfl, ?_⟩
      rw [decide_eq_false (by have := vx c'; omega)]
      refine iteF ?_
      refine ⟨_, rfl, _, rfl, _, _, _, _, rfl, rfl, by assumption, by assumption, _, rfl, _, _, _, _, rfl, rfl, by assumption, rfl, _, _, rfl, rfl, .inr ⟨fits_of (by omega) (by omega), fits_of (by omega) (by omega)⟩, _, rfl, _, _, _, _, rfl, rfl, by assumption, rfl, _, rfl, _, rfl, _, rfl, _, _, _, _, rfl, rfl, by assumption, by assumption, ?_⟩
      refine ⟨u, v * N, D, p, q, x, rfl, hu, Int.mul_nonneg v0 (by omega), by omega, hD0, by omega, p0, pq, q1, x0, by omega, ?_⟩
      refine ⟨_, rfl, ?_⟩
      rw [fit]
      exact iteF ⟨rfl, _, rfl⟩
    · refine ⟨_, rfl, _, rfl, _, _, _, _, rfl, rfl, by assumption, by assumption, _, rfl, _, _, _, _, rfl, rfl, by assumption, rfl, _, _, rfl, rfl, .inr ⟨fits_of (by omega) (by omega), fits_of (by omega) (by omega)⟩, _, rfl, _, _, _, _, rfl, rfl, by assumption, rfl, _, rfl, _, rfl, _, rfl, _, _, _, _, rfl, rfl, by assumption, by assumption, ?_⟩
      refine ⟨u, v * N, D, p, q, x, rfl, hu, Int.mul_nonneg v0 (by omega), by omega, hD0, by omega, p0, pq, q1, x0, by omega, ?_⟩
      refine ⟨_, rfl, ?_⟩
      rw [fit]
      exact iteF ⟨rfl, _, rfl⟩
  rintro σ H' ⟨rfl, v6, rfl⟩
  -- who could give, who could take
  let fg : Nat → Bool := fun i => atB (ns.getD i 0) N D p q (gs.getD i 0)
  let ft : Nat → Bool := fun i => atB (ns.getD i 0) N D p q (gs.getD i 0 + 1)
  have sqg : Sq K H' g (gs.map V.int) := .inl (SqL.of hg)
  have sqv : Sq K H' lv (ns.map V.int) := .inl hv
  refine ⟨_, rfl, _, _, rfl, by assumption, ?_⟩
  refine ⟨_, rfl, by omega, by omega, ?_⟩
  rw [lz2]
  have hsz : ns.length ≤ sizeLine := Nat.le_trans l1 (by decide)
  refine comp_filR fg (fun i => .int (0 + (i : Int))) hsz (fun i Q hi h => ?_) (fun i Q hi _ h => ⟨_, rfl, h⟩) ?_
  · obtain ⟨v, x, e1, e2, v0, v1, x0, x1, vx⟩ := get i hi
    have atg : atI (gs.map V.int) (0 + (i : Int)) = some (.int x) := by rw [toN]; exact at_int e2
    have atv : atI (ns.map V.int) (0 + (i : Int)) = some (.int v) := by rw [toN]; exact at_int e1
    refine ⟨_, rfl, _, rfl, _, _, _, _, rfl, rfl, by assumption, by assumption, _, rfl, _, rfl, _, rfl, _, rfl, _, _, _, _, rfl, rfl, by assumption, by assumption, ?_⟩
    refine ⟨t, u, v, x, N, D, p, q, rfl, ht, hu, v0, v1, x0, by omega, by omega, N1, by omega, D1, p0, pq, q1, ?_⟩
    have : fg i = atB v N D p q x := by show atB (ns.getD i 0) N D p q (gs.getD i 0) = _; rw [List.getD_eq_getElem?_getD, List.getD_eq_getElem?_getD, e1, e2]; rfl
    rw [this] at h
    exact ⟨_, rfl, h⟩
  intro l7 H1 N7
  rw [plc_map] at N7
  have S1 := N7.same
  replace hv := Same.seq (S1) hv
  replace hu := (S1) _ _ hu
  replace hR := (S1) _ _ hR
  replace hg := (S1) _ _ hg
  replace ht := (S1) _ _ ht
  replace sqg := Same.sq (S1) sqg
  replace sqv := Same.sq (S1) sqv
  refine ⟨_, rfl, _, _, rfl, by assumption, ?_⟩
  refine ⟨_, rfl, by omega, by omega, ?_⟩
  rw [lz2]
  refine comp_filR ft (fun i => .int (0 + (i : Int))) hsz (fun i Q hi h => ?_) (fun i Q hi _ h => ⟨_, rfl, h⟩) ?_
  · obtain ⟨v, x, e1, e2, v0, v1, x0, x1, vx⟩ := get i hi
    have atg : atI (gs.map V.int) (0 + (i : Int)) = some (.int x) := by rw [toN]; exact at_int e2
    have atv : atI (ns.map V.int) (0 + (i : Int)) = some (.int v) := by rw [toN]; exact at_int e1
    refine ⟨_, rfl, _, rfl, _, _, _, _, rfl, rfl, by assumption, by assumption, _, rfl, _, rfl, _, rfl, _, rfl, _, _, _, _, rfl, rfl, by assumption, by assumption, _, _, rfl, rfl, ?_⟩
    refine ⟨t, u, v, x + 1, N, D, p, q, rfl, ht, hu, v0, v1, by omega, by omega, by omega, N1, by omega, D1, p0, pq, q1, ?_⟩
    have : ft i = atB v N D p q (x + 1) := by show atB (ns.getD i 0) N D p q (gs.getD i 0 + 1) = _; rw [List.getD_eq_getElem?_getD, List.getD_eq_getElem?_getD, e1, e2]; rfl
    rw [this] at h
    exact ⟨_, rfl, h⟩
  intro l8 H2 N8
  rw [plc_map] at N8
  have e7 := N7.at_
  have S2 := N8.same
  replace hv := Same.seq (S2) hv
  replace hu := (S2) _ _ hu
  replace hR := (S2) _ _ hR
  replace hg := (S2) _ _ hg
  replace ht := (S2) _ _ ht
  replace sqg := Same.sq (S2) sqg
  replace sqv := Same.sq (S2) sqv
  replace e7 := (S2) _ _ e7
  have e8 := N8.at_
  -- what the numbers say
  have inG : ∀ x, x ∈ plc ns.length fg → ∃ (k : Nat) (v y : Int), x = k ∧ ns[k]? = some v ∧ gs[k]? = some y ∧ 0 < v ∧ 0 < y ∧ N * (b * v) = D * (a + (y - 1) * b) := fun x hx => by
    obtain ⟨k, hk, hf, rfl⟩ := mem_plc.mp hx
    obtain ⟨v, y, e1, e2, v0, v1, x0, x1, vx⟩ := get k hk
    have hf' : atB v N D p q y = true := by
      have h : atB (ns.getD k 0) N D p q (gs.getD k 0) = true := hf
      rw [List.getD_eq_getElem?_getD, List.getD_eq_getElem?_getD, e1, e2] at h; exact h
    unfold atB at hf'
    rw [Bool.and_eq_true] at hf'
    have y0 := of_decide_eq_true hf'.1
    refine ⟨k, v, y, rfl, e1, e2, ?_, y0, (at_iff b0 q0 e).mp (of_decide_eq_true hf'.2)⟩
    by_cases hz : v = 0
    · have := vx hz; omega
    · omega
  have inT : ∀ x, x ∈ plc ns.length ft → ∃ (k : Nat) (v y : Int), x = k ∧ ns[k]? = some v ∧ gs[k]? = some y ∧ 0 < v ∧ N * (b * v) = D * (a + y * b) := fun x hx => by
    obtain ⟨k, hk, hf, rfl⟩ := mem_plc.mp hx
    obtain ⟨v, y, e1, e2, v0, v1, x0, x1, vx⟩ := get k hk
    have hf' : atB v N D p q (y + 1) = true := by
      have h : atB (ns.getD k 0) N D p q (gs.getD k 0 + 1) = true := hf
      rw [List.getD_eq_getElem?_getD, List.getD_eq_getElem?_getD, e1, e2] at h; exact h
    unfold atB at hf'
    rw [Bool.and_eq_true] at hf'
    have hq := (at_iff b0 q0 e).mp (of_decide_eq_true hf'.2)
    rw [show y + 1 - 1 = y by omega] at hq
    refine ⟨k, v, y, rfl, e1, e2, ?_, hq⟩
    by_cases hz : v = 0
    · rw [hz, Int.mul_zero, Int.mul_zero] at hq
      have h1 : 0 ≤ y * b := Int.mul_nonneg x0 (by omega)
      have : 0 < D * (a + y * b) := Int.mul_pos hD0 (by omega)
      omega
    · omega
  have outG : ∀ (k : Nat) (v y : Int), ns[k]? = some v → gs[k]? = some y → 0 < y → N * (b * v) = D * (a + (y - 1) * b) → (k : Int) ∈ plc ns.length fg := fun k v y e1 e2 y0 h => by
    refine mem_plc.mpr ⟨k, (List.getElem?_eq_some_iff.mp e1).1, ?_, rfl⟩
    show atB (ns.getD k 0) N D p q (gs.getD k 0) = true
    rw [List.getD_eq_getElem?_getD, List.getD_eq_getElem?_getD, e1, e2]
    show atB v N D p q y = true
    unfold atB
    rw [decide_eq_true y0, decide_eq_true ((at_iff b0 q0 e).mpr h)]; rfl
  have outT : ∀ (k : Nat) (v : Int), ns[k]? = some v → gs[k]? = some 0 → N * (b * v) = D * a → (k : Int) ∈ plc ns.length ft := fun k v e1 e2 h => by
    refine mem_plc.mpr ⟨k, (List.getElem?_eq_some_iff.mp e1).1, ?_, rfl⟩
    show atB (ns.getD k 0) N D p q (gs.getD k 0 + 1) = true
    rw [List.getD_eq_getElem?_getD, List.getD_eq_getElem?_getD, e1, e2]
    show atB v N D p q (0 + 1) = true
    unfold atB
    rw [decide_eq_true (by decide : (0 : Int) < 0 + 1), decide_eq_true ((at_iff b0 q0 e).mpr (by rw [show (0 : Int) + 1 - 1 = 0 by decide, Int.zero_mul, Int.add_zero]; exact h))]; rfl
  have gne : 0 < n → plc ns.length fg ≠ [] := fun h z => by
    obtain ⟨k, v, y, e1, e2, v0, y0, h'⟩ := dl.giver h
    have := outG k v y e1 e2 y0 h'
    rw [z] at this; cases this
  have tne : n = 0 → (∃ v, v ∈ ns ∧ 0 < v) → plc ns.length ft ≠ [] := fun h hv' z => by
    obtain ⟨k, v, e1, e2, v0, h'⟩ := dl.taker h hv'
    have := outT k v e1 e2 h'
    rw [z] at this; cases this
  have S02 : Same H' H2 := S1.trans S2
  have z0 : (0 : Nat) ≤ sizeLine := Nat.zero_le _
  refine ⟨fun σ' H3 => Same H2 H3 ∧ σ' = [some (.ref lv), some (.int n), some (.ref u), some (.ref r), some (.ref g), some (.ref t), v6, some (.ref l7), some (.ref l8)], ?_, ?_⟩
  · refine ⟨_, rfl, _, _, rfl, rfl, _, rfl, ?_⟩
    refine ite2 (fun c => ?_) (fun c => iteF ?_)
    · have c' : 0 < n := of_decide_eq_true c
      refine ⟨_, rfl, ?_⟩
      refine ⟨z0, fun l9 H3 N9 => ⟨l7, l9, plc ns.length fg, [], rfl, rfl, SqL.of (N9.same _ _ e7), SqL.of N9.at_, ?_⟩⟩
      refine ⟨_, rfl, ?_⟩
      rw [if_neg Bool.false_ne_true, decide_eq_false (gne c')]
      refine iteF ?_
      refine ⟨_, rfl, _, _, rfl, rfl, _, rfl, ?_⟩
      rw [decide_eq_false (by omega)]
      refine iteF (iteF ?_)
      exact ⟨N9.same, rfl⟩
    · have c' : ¬ 0 < n := of_decide_eq_false (Bool.eq_false_iff.mpr c)
      have n00 : n = 0 := by omega
      refine ⟨_, rfl, _, _, rfl, rfl, _, rfl, ?_⟩
      rw [decide_eq_true n00]
      refine iteT ?_
      refine ⟨_, rfl, ?_⟩
      refine ⟨lv, ns, rfl, hv, l0, fun M hM hA => ?_⟩
      refine ⟨_, _, rfl, rfl, _, rfl, ?_⟩
      refine ite2 (fun c2 => ?_) (fun c2 => iteF ⟨Same.refl _, rfl⟩)
      have c2' : 0 < M := of_decide_eq_true c2
      refine ⟨_, rfl, ?_⟩
      refine ⟨z0, fun l9 H3 N9 => ⟨l8, l9, plc ns.length ft, [], rfl, rfl, SqL.of (N9.same _ _ e8), SqL.of N9.at_, ?_⟩⟩
      refine ⟨_, rfl, ?_⟩
      rw [if_neg Bool.false_ne_true, decide_eq_false (tne n00 ⟨M, hM, c2'⟩)]
      exact iteF ⟨N9.same, rfl⟩
  rintro σ' H3 ⟨S3, rfl⟩
  replace hv := Same.seq (S3) hv
  replace hu := (S3) _ _ hu
  replace hR := (S3) _ _ hR
  replace hg := (S3) _ _ hg
  replace ht := (S3) _ _ ht
  replace sqg := Same.sq (S3) sqg
  replace sqv := Same.sq (S3) sqv
  replace e7 := (S3) _ _ e7
  replace e8 := (S3) _ _ e8
  refine ⟨fun σ' H4 => Same H3 H4 ∧ σ' = [some (.ref lv), some (.int n), some (.ref u), some (.ref r), some (.ref g), some (.ref t), v6, some (.ref l7), some (.ref l8)], ?_, ?_⟩
  · refine ⟨_, rfl, ?_⟩
    refine ⟨lv, ns, rfl, hv, l0, fun M hM hA => ?_⟩
    refine ⟨_, _, rfl, rfl, _, rfl, ?_⟩
    refine ite2 (fun c => ?_) (fun c => iteF ⟨Same.refl _, rfl⟩)
    have c' : M = 0 := of_decide_eq_true c
    obtain ⟨eN, eD⟩ := dl.none fun v hv' => by have := hA v hv'; have := (hb v hv').1; omega
    refine ⟨_, rfl, ?_⟩
    refine ⟨(by show 2 ≤ sizeLine; decide), fun t9 H4 N9 => ⟨t, t9, N, D, 1, 1, rfl, rfl, N9.same _ _ ht, N9.at_, ?_⟩⟩
    refine ⟨_, rfl, ?_⟩
    rw [if_pos rfl, decide_eq_true ⟨eN, eD⟩]
    exact iteF ⟨N9.same, rfl⟩
  rintro σ' H4 ⟨S4, rfl⟩
  replace hv := Same.seq (S4) hv
  replace hu := (S4) _ _ hu
  replace hR := (S4) _ _ hR
  replace hg := (S4) _ _ hg
  replace ht := (S4) _ _ ht
  replace sqg := Same.sq (S4) sqg
  replace sqv := Same.sq (S4) sqv
  replace e7 := (S4) _ _ e7
  replace e8 := (S4) _ _ e8
  have S04 : Same H' H4 := S02.trans (S3.trans S4)
  refine ⟨_, rfl, _, _, rfl, rfl, _, rfl, ?_⟩
  refine ite2 (fun c => ?_) (fun c => ?_)
  · exact k H4 S04
  have c' : ¬ n = 0 := of_decide_eq_false (Bool.eq_false_iff.mpr c)
  refine ⟨_, rfl, ?_⟩
  refine ⟨z0, fun l9 H5 N9 => ⟨l8, l9, plc ns.length ft, [], rfl, rfl, SqL.of (N9.same _ _ e8), SqL.of N9.at_, ?_⟩⟩
  refine ⟨_, rfl, ?_⟩
  rw [if_neg Bool.false_ne_true]
  refine ite2 (fun c2 => ?_) (fun c2 => ?_)
  · exact k H5 (S04.trans N9.same)
  have c2' : ¬ plc ns.length ft = [] := of_decide_eq_false (Bool.eq_false_iff.mpr c2)
  refine ⟨_, rfl, ?_⟩
  refine ⟨l7, plc ns.length fg, rfl, SqL.of (N9.same _ _ e7), List.length_pos_iff.mpr (gne (by omega)), fun M hM _ => ?_⟩
  refine ⟨_, rfl, ?_⟩
  refine ⟨l8, plc ns.length ft, rfl, SqL.of (N9.same _ _ e8), List.length_pos_iff.mpr c2', fun m hm _ => ?_⟩
  refine ⟨_, _, rfl, rfl, ?_⟩
  obtain ⟨k1, v1, y1, rfl, f1, f2, f3, f4, f5⟩ := inG M hM
  obtain ⟨k2, v2, y2, rfl, g1, g2, g3, g4⟩ := inT m hm
  have := dl.tie k1 k2 v1 y1 v2 y2 f1 f2 f3 f4 f5 g1 g2 g3 g4
  show Q (.bl (decide ((k1 : Int) < k2))) H5
  rw [decide_eq_true (by omega : (k1 : Int) < k2)]
  exact k H5 (S04.trans N9.same)
end
end K3
namespace K3
open PySem L2 SW
section
variable {P : Program} {w : World} {K : PySem.W.Frag} {mg : Str → Option Value} {base : Heap}
def spRefused (T : Txt K mg) : Sp := fun vs H Q _ => ∃ (l : Addr) (ns : List Int) (n : Int) (p : Addr) (a b : Int), vs = [.ref l, .int n, .ref p] ∧ SqL K H l (ns.map V.int) ∧ ns.length ≤ 100 ∧ (∀ v, v ∈ ns → v = 0) ∧ 0 < n ∧ n ≤ 400 ∧ T.rl H p a b ∧ ∀ H', Same H H' → Q (.bl true) H'
theorem ok_lrefused (T : Txt K mg) : FnOk P w K mg base CX0 8 T.a_lrefused T.fd_lrefused ["_law_votes", "_law_seats", "_law_rule_here"] (spRefused T) := by
  refine T.F_lrefused.ok sc_lrefused (fun vs H Q E h => ?_) (fun cdv A outer s H vs Q E hr h => ?_)
  · obtain ⟨l, ns, n, p, a, b, rfl, _⟩ := h
    rfl
  obtain ⟨l, ns, n, p, a, b, rfl, hl, hz, h0, n0, n1, R, q⟩ := h
  refine ⟨_, (pss_cons (ps_tryCall ⟨rfl, rfl, rfl, rfl⟩ (ok_dealt T) (hr.mono (by decide)) rfl T.m_dealt T.F_dealt.kp T.b_dealt (fun W => pa_cons (pv 0) (pa_cons (pv 1) (pa_cons (pv 2) pa_nil))) sc_lrefused.nd (i := 3) rfl rfl rfl T.m_DealError
      (th := tSeq (tAsg (tOrV (tIsE K 3 (.ref T.c_BadLine) (.ref T.c_BadLine)) (tOrV (tIsE K 3 (.ref T.c_NoTable) (.ref T.c_NoTable)) (tIsE K 3 (.ref T.c_BadRule) (.ref T.c_BadRule)))) (gName 4)) (tRet (tAndV (tIsE K 3 (.ref T.c_NoVotes) (.ref T.c_NoVotes)) (tAndV (tIsE K 3 (.ty "ValueError") (.type "ValueError")) (tNotV (tVar 4))))))
      (fun e => pss_cons (ps_set (i := 4) sc_lrefused.nd rfl (Or.inl rfl) (pe_or (pe_isE rfl T.n_isinstance rfl T.m_BadLine (pv 3)) (pe_or (pe_isE rfl T.n_isinstance rfl T.m_NoTable (pv 3)) (pe_one (pe_isE rfl T.n_isinstance rfl T.m_BadRule (pv 3))))))
        (pss_one (ps_ret (pe_and (pe_isE rfl T.n_isinstance rfl T.m_NoVotes (pv 3)) (pe_and (pe_isET rfl T.n_isinstance rfl T.n_ValueError boot_ValueError (pv 3)) (pe_one (pe_not (pv 4)))))))))
      (pss_one (ps_ret pe_bl))), ?_⟩
  refine ⟨_, rfl, _, rfl, _, rfl, l, ns, n, p, a, b, rfl, hl, hz, fun v hv => by have := h0 v hv; omega, by omega, n1, R, fun _ _ H' S => ⟨T.c_NoVotes, rfl, T.ct_NoVotes_DealError, fun e he => ?_⟩, fun ng => absurd ⟨n0, h0⟩ ng⟩
  refine ⟨_, rfl, e, T.c_NoVotes, _, rfl, upd_same, T.t_NoVotes, T.k_NoVotes_BadLine, _, rfl, iteF ?_⟩
  refine ⟨_, rfl, e, T.c_NoVotes, _, rfl, upd_same, T.t_NoVotes, T.k_NoVotes_NoTable, _, rfl, iteF ?_⟩
  refine ⟨_, rfl, e, T.c_NoVotes, _, rfl, upd_same, T.t_NoVotes, T.k_NoVotes_BadRule, ?_⟩
  refine ⟨_, rfl, e, T.c_NoVotes, _, rfl, upd_same, T.t_NoVotes, kit_same _ _, _, rfl, iteT ?_⟩
  refine ⟨_, rfl, e, T.c_NoVotes, _, rfl, upd_same, T.t_NoVotes, T.k_NoVotes_ValueError, _, rfl, iteT ?_⟩
  refine ⟨_, rfl, _, rfl, ?_⟩
  exact q _ fun c o z => by rw [upd_ne (ne_of_none (S c o z) he)]; exact S c o z
theorem ok_law (T : Txt K mg) : FnOk P w K mg base CX0 9 T.a_law T.fd_law ["_law_script"] (spLaw K) := by
  refine T.F_law.ok sc_law (fun vs H Q E h => ?_) (fun cdv A outer s H vs Q E hr h => ?_)
  · obtain ⟨a, ns, rfl, _⟩ := h
    rfl
  obtain ⟨sa, ss, rfl, hS, hl63, k⟩ := h
  refine ⟨_, (pss_cons (ps_set (i := 1) sc_law.nd rfl (Or.inl rfl) (pe_call (ok_lcell_at T) (hr.mono (by decide)) rfl T.m_lcell_at T.F_lcell_at.kp T.b_lcell_at .nil pass0 (pa_cons (pv 0) (pa_cons pe_int pa_nil))))
      (pss_cons (ps_asg (pe_call (ok_lrule T) (hr.mono (by decide)) rfl T.m_lrule T.F_lrule.kp T.b_lrule .nil pass0 (pa_cons (pv 1) pa_nil)) (pg_tupQ K rfl (pgs_cons (pg_name (i := 2) sc_law.nd rfl (Or.inl rfl)) (pgs_cons (pg_name (i := 3) sc_law.nd rfl (Or.inl rfl)) pgs_nil))))
      (pss_cons (ps_set (i := 4) sc_law.nd rfl (Or.inl rfl) (pe_op op_add pe_int (pe_call (ok_ldraw T) (hr.mono (by decide)) rfl T.m_ldraw T.F_ldraw.kp T.b_ldraw .nil pass0 (pa_cons (pv 1) (pa_cons pe_int (pa_cons pe_int pa_nil))))))
      (pss_cons (ps_setC (i := 5) [9] rfl (blk_of rfl) (pi_range1 rfl T.n_range (pa_cons (pv 4) pa_nil)) (fun _ => (pg_name (i := 9) sc_law.nd rfl (Or.inl rfl))) (fun _ => pts_nil) (fun _ => (pe_call (ok_lvote T) (hr.mono (by decide)) rfl T.m_lvote T.F_lvote.kp T.b_lvote .nil pass0 (pa_cons (pe_op op_add (pe_call (ok_lcell_at T) (hr.mono (by decide)) rfl T.m_lcell_at T.F_lcell_at.kp T.b_lcell_at .nil pass0 (pa_cons (pv 0) (pa_cons (pe_op op_add pe_int (pe_op op_mod (pv 9) pe_int)) pa_nil))) (pe_op op_mulF pe_int (pv 9))) pa_nil))) sc_law.nd rfl rfl)
      (pss_cons (ps_meet (ps_if (pt_cmpR op_eqI (pe_call (ok_ldraw T) (hr.mono (by decide)) rfl T.m_ldraw T.F_ldraw.kp T.b_ldraw .nil pass0 (pa_cons (pv 1) (pa_cons pe_int (pa_cons pe_int pa_nil)))) pe_int (nomark _))
      (pss_one (ps_setC (i := 5) [10] rfl (blk_of rfl) (pi_listQ K (pv 5)) (fun _ => (pg_name (i := 10) sc_law.nd rfl (Or.inl rfl))) (fun _ => pts_nil) (fun _ => pe_int) sc_law.nd rfl rfl))
      pss_nil))
      (pss_cons (ps_set (i := 6) sc_law.nd rfl (Or.inl rfl) (pe_call (ok_ldraw T) (hr.mono (by decide)) rfl T.m_ldraw T.F_ldraw.kp T.b_ldraw .nil pass0 (pa_cons (pv 1) (pa_cons pe_int (pa_cons pe_int pa_nil)))))
      (pss_cons (ps_meet (ps_if (pt_cmpR op_eqI (pe_call (ok_ldraw T) (hr.mono (by decide)) rfl T.m_ldraw T.F_ldraw.kp T.b_ldraw .nil pass0 (pa_cons (pv 1) (pa_cons pe_int (pa_cons pe_int pa_nil)))) pe_int (nomark _))
      (pss_one (ps_set (i := 6) sc_law.nd rfl (Or.inl rfl) (pe_call (ok_ldraw T) (hr.mono (by decide)) rfl T.m_ldraw T.F_ldraw.kp T.b_ldraw .nil pass0 (pa_cons (pv 1) (pa_cons pe_int (pa_cons pe_int pa_nil))))))
      pss_nil))
      (pss_cons (ps_meet (ps_if (PW.pt (pw_and (pt_cmpR op_eqI (pe_callB (max_Q K rfl) (by rfl) T.n_max PyProof.Rows.boot_max (pa_cons (pv 5) pa_nil)) pe_int (nomark _)) (pw_and1 (pt_cmpR op_gt (pv 6) pe_int (nomark _)))))
      (pss_one (ps_ret (pe_call (ok_lrefused T) (hr.mono (by decide)) rfl T.m_lrefused T.F_lrefused.kp T.b_lrefused .nil pass0 (pa_cons (pv 5) (pa_cons (pv 6) (pa_cons (pv 2) pa_nil))))))
      pss_nil))
      (pss_cons (ps_set (i := 7) sc_law.nd rfl (Or.inl rfl) (pe_callTy (list_Q K) (by rfl) T.n_list PyProof.Rows.boot_list (pa_cons (pv 5) pa_nil)))
      (pss_cons (ps_set (i := 8) sc_law.nd rfl (Or.inl rfl) (pe_call (ok_dealt T) (hr.mono (by decide)) rfl T.m_dealt T.F_dealt.kp T.b_dealt .nil pass1F (pa_cons (pv 7) (pa_cons (pv 6) (pa_cons (pv 2) pa_nil)))))
      (pss_cons (ps_if (PW.pt (pw_or (pt_cmpR (neLI_Q K hr.units) (pv 7) (pv 5) (nomark _)) (pw_or1 (pt_not (pt_val (pe_call (ok_lright T) (hr.mono (by decide)) rfl T.m_lright T.F_lright.kp T.b_lright .nil pass0 (pa_cons (pv 5) (pa_cons (pv 6) (pa_cons (pv 3) (pa_cons (pv 8) pa_nil))))))))))
      (pss_one (ps_ret pe_bl))
      pss_nil)
      (pss_cons (ps_expr (pe_bm PySem.F.plainAttrs_list PySem.F.slot_list_append PySem.F.type_list_append mt_append (pv 7) (pa_cons pe_int pa_nil)))
      (pss_cons (ps_expr (pe_bm PySem.F.plainAttrs_list PySem.F.slot_list_append PySem.F.type_list_append mt_append (pe_ix (ix_Q K) (pv 8) pe_int (fun _ _ => rfl)) (pa_cons pe_int pa_nil)))
      (pss_one (ps_ret (pe_call (ok_lright T) (hr.mono (by decide)) rfl T.m_lright T.F_lright.kp T.b_lright .nil pass0 (pa_cons (pv 5) (pa_cons (pv 6) (pa_cons (pv 3) (pa_cons (pe_call (ok_dealt T) (hr.mono (by decide)) rfl T.m_dealt T.F_dealt.kp T.b_dealt .nil pass1F (pa_cons (pv 5) (pa_cons (pv 6) (pa_cons (pv 2) pa_nil)))) pa_nil)))))))))))))))))))), ?_⟩
  refine ⟨_, rfl, ?_⟩
  refine ⟨sa, ss, 0, rfl, hS, by decide, fun c => ?_⟩
  refine ⟨_, rfl, ?_⟩
  refine ⟨c, rfl, fun r p t H1 a b m q hr1 R ht m0 mq q1 eq S1 => ?_⟩
  replace hS := Same.seq (S1) hS
  refine ⟨_, _, rfl, SqT.of (by assumption), rfl, _, _, rfl, _, _, rfl, rfl, _, rfl, ?_⟩
  refine ⟨c, 7, 12, rfl, by decide, by decide, by decide, fun d H2 d0 d1 S2 => ?_⟩
  replace hr1 := (S2) _ _ hr1
  replace R := R.same (S2)
  replace ht := (S2) _ _ ht
  replace hS := Same.seq (S2) hS
  refine ⟨_, _, rfl, rfl, _, rfl, ?_⟩
  refine ⟨1 + d, rfl, by omega, by omega, ?_⟩
  have dn : (1 + d).toNat ≤ 12 := by omega
  refine comp_range (fun i ys H' => Same H2 H' ∧ ∃ vs : List Int, ys = vs.map V.int ∧ vs.length = i ∧ ∀ v, v ∈ vs → 0 ≤ v ∧ v ≤ 10 ^ 9) (Nat.le_trans dn (by decide)) ⟨Same.refl _, [], rfl, rfl, fun v h => by cases h⟩ ?_ ?_
  · rintro i ys H3 hi ⟨S3, vs, rfl, lv, hv⟩
    refine yes ?_
    have hS3 := S3.seq hS
    refine ⟨_, rfl, _, rfl, _, _, rfl, rfl, by omega, _, _, rfl, rfl, ?_⟩
    refine ⟨sa, ss, _, rfl, hS3, ?_, fun cv => ?_⟩
    · have := Int.emod_nonneg (0 + (i : Int)) (by decide : (20 : Int) ≠ 0)
      omega
    refine ⟨_, rfl, _, _, rfl, rfl, .inr ⟨fits_of (by omega) (by omega), fits_of (by omega) (by omega)⟩, _, _, rfl, rfl, ?_⟩
    refine ⟨_, rfl, fun v H4 v0 v1 S4 => ⟨S3.trans S4, vs ++ [v], by simp, by simp [lv], fun x hx => ?_⟩⟩
    rcases List.mem_append.mp hx with h | h
    · exact hv x h
    · have : x = v := by simpa using h
      subst this
      exact ⟨v0, by omega⟩
  rintro ys H3 ⟨S3, vs, rfl, lv, hv⟩ l5 H4 N4
  have S4 := N4.same
  replace hr1 := (S3) _ _ hr1
  replace R := R.same (S3)
  replace ht := (S3) _ _ ht
  replace hS := Same.seq (S3) hS
  replace hr1 := (S4) _ _ hr1
  replace R := R.same (S4)
  replace ht := (S4) _ _ ht
  replace hS := Same.seq (S4) hS
  have hv5 := N4.at_
  have lv1 : 0 < vs.length := by omega
  have lv2 : vs.length ≤ 12 := by omega
  refine ⟨fun σ H5 => ∃ (l : Addr) (us : List Int), Same H4 H5 ∧ σ = [some (.ref sa), some (.int c), some (.ref p), some (.ref t), some (.int (1 + d)), some (.ref l), none, none, none, none, none] ∧ H5 l = some (.lst (us.map V.int)) ∧ 0 < us.length ∧ us.length ≤ 12 ∧ ∀ v, v ∈ us → 0 ≤ v ∧ v ≤ 10 ^ 9, ?_, ?_⟩
  · refine ⟨_, rfl, ?_⟩
    refine ⟨c, 8, 9, rfl, by decide, by decide, by decide, fun d2 H5 _ _ S5 => ?_⟩
    replace hr1 := (S5) _ _ hr1
    replace R := R.same (S5)
    replace ht := (S5) _ _ ht
    replace hS := Same.seq (S5) hS
    replace hv5 := (S5) _ _ hv5
    refine ⟨_, _, rfl, rfl, _, rfl, ?_⟩
    refine ite2 (fun _ => ?_) (fun _ => ⟨l5, vs, S5, rfl, hv5, lv1, lv2, hv⟩)
    refine ⟨_, rfl, ?_⟩
    refine ⟨l5, rfl, ⟨_, SqL.of hv5⟩, comp_mapL (fun _ => .int 0) (SqL.of hv5) (by rw [List.length_map]; exact Nat.le_trans lv2 (by decide)) (fun i x Q _ h => h) fun l H6 N6 => ?_⟩
    refine ⟨l, vs.map fun _ => 0, S5.trans N6.same, rfl, by rw [N6.at_, List.map_map, List.map_map]; rfl, by simpa using lv1, by simpa using lv2, fun v h => ?_⟩
    obtain ⟨_, _, rfl⟩ := List.mem_map.mp h
    omega
  clear hv5 lv1 lv2 hv lv N4
  rintro σ H5 ⟨l, us, S5, rfl, hu, lu1, lu2, hv⟩
  replace hr1 := (S5) _ _ hr1
  replace R := R.same (S5)
  replace ht := (S5) _ _ ht
  replace hS := Same.seq (S5) hS
  refine ⟨_, rfl, ?_⟩
  refine ⟨c, 9, 25, rfl, by decide, by decide, by decide, fun n1 H6 n10 n11 S6 => ?_⟩
  replace hu := (S6) _ _ hu
  replace hr1 := (S6) _ _ hr1
  replace R := R.same (S6)
  replace ht := (S6) _ _ ht
  replace hS := Same.seq (S6) hS
  refine ⟨fun σ H7 => ∃ n : Int, Same H6 H7 ∧ σ = [some (.ref sa), some (.int c), some (.ref p), some (.ref t), some (.int (1 + d)), some (.ref l), some (.int n), none, none, none, none] ∧ 0 ≤ n ∧ n ≤ 300, ?_, ?_⟩
  · refine ⟨_, rfl, ?_⟩
    refine ⟨c, 10, 12, rfl, by decide, by decide, by decide, fun d2 H7 _ _ S7 => ?_⟩
    refine ⟨_, _, rfl, rfl, _, rfl, ?_⟩
    refine ite2 (fun _ => ?_) (fun _ => ⟨n1, S7, rfl, n10, by omega⟩)
    refine ⟨_, rfl, ?_⟩
    exact ⟨c, 11, 301, rfl, by decide, by decide, by decide, fun n H8 n0 n1 S8 => ⟨n, S7.trans S8, rfl, n0, by omega⟩⟩
  rintro σ H7 ⟨n, S7, rfl, n0, n1'⟩
  replace hu := (S7) _ _ hu
  replace hr1 := (S7) _ _ hr1
  replace R := R.same (S7)
  replace ht := (S7) _ _ ht
  replace hS := Same.seq (S7) hS
  have hsl : SqL K H7 l (us.map V.int) := SqL.of hu
  have b0 : 0 < b := by have := R.a0; have := R.ab; omega
  refine ⟨fun σ H8 => H8 = H7 ∧ σ = [some (.ref sa), some (.int c), some (.ref p), some (.ref t), some (.int (1 + d)), some (.ref l), some (.int n), none, none, none, none] ∧ ¬ (0 < n ∧ ∀ v, v ∈ us → v = 0), ?_, ?_⟩
  · refine ⟨_, rfl, ?_⟩
    refine ⟨l, us, rfl, hsl, lu1, fun M hM hA => ?_⟩
    refine ⟨_, _, rfl, rfl, _, rfl, ?_⟩
    refine ite2 (fun c1 => ?_) (fun c1 => iteF ⟨rfl, rfl, fun z => ?_⟩)
    · have c1' : M = 0 := of_decide_eq_true c1
      refine ⟨_, rfl, _, _, rfl, rfl, _, rfl, ?_⟩
      refine ite2 (fun c2 => ?_) (fun c2 => ⟨rfl, rfl, fun z => ?_⟩)
      · have c2' : 0 < n := of_decide_eq_true c2
        refine ⟨_, rfl, _, rfl, _, rfl, ?_⟩
        exact ⟨l, us, n, p, a, b, rfl, hsl, by omega, fun v h => by have := hA v h; have := (hv v h).1; omega, c2', by omega, R, fun H8 _ => k H8⟩
      · have c2' : ¬ 0 < n := of_decide_eq_false (Bool.eq_false_iff.mpr c2)
        exact c2' z.1
    · have c1' : ¬ M = 0 := of_decide_eq_false (Bool.eq_false_iff.mpr c1)
      exact c1' (z.2 M hM)
  rintro σ H8 ⟨rfl, rfl, ng⟩
  refine ⟨_, rfl, ?_⟩
  refine ⟨l, _, rfl, .inl hsl, fun lh H9 N9 => ?_⟩
  have S9 := N9.same
  have eh := N9.at_
  have nh := N9.gone
  have R9 := R.same S9
  refine ⟨_, rfl, _, rfl, _, rfl, ?_⟩
  refine ⟨lh, us, n, p, a, b, rfl, SqL.of eh, by omega, hv, n0, by omega, R9, fun z1 z2 => absurd ⟨z1, z2⟩ ng, fun _ rr g tt Ha gs N D Sa ng9 er eg et dl bN bD => ?_⟩
  have eha := Sa _ _ eh
  have hua := Sa _ _ (S9 _ _ hu)
  have hta := Sa _ _ (S9 _ _ ht)
  refine ⟨_, rfl, _, rfl, ?_⟩
  refine ⟨lh, l, us, us, rfl, rfl, SqL.of eha, SqL.of hua, ?_⟩
  refine ⟨_, rfl, ?_⟩
  rw [if_pos rfl, decide_eq_true rfl]
  refine iteF ?_
  refine ⟨_, rfl, _, rfl, _, rfl, _, rfl, ?_⟩
  have Ra := R9.same Sa
  refine ⟨l, t, rr, g, tt, us, gs, n, N, D, m, q, a, b, rfl, SqL.of hua, lu1, by omega, hv, hta, er, eg, et, m0, mq, q1, R.a0, b0, eq, dl, bN, bD, n0, by omega, ng, fun Hb Sb => ?_⟩
  refine ⟨_, rfl, ?_⟩
  refine iteF ?_
  have glen : gs.length = us.length := dl.len
  refine ⟨_, rfl, .inl ⟨rfl, _, SqL.of (Sb _ _ eha)⟩, lh, _, _, rfl, rfl, Sb _ _ eha, (by rw [List.length_map]; exact small1000 (by omega)), ?_⟩
  have gne : g ≠ lh := fun z => by rw [z, eh] at ng9; cases ng9
  have ltne : rr ≠ lh := ne_of (Sb _ _ er) (Sb _ _ eha) (by intro z; cases z)
  have ec : (upd Hb lh (.lst (us.map V.int ++ [.int 5]))) g = some (.lst (gs.map V.int)) := by rw [upd_ne gne]; exact Sb _ _ eg
  have er2 : (upd Hb lh (.lst (us.map V.int ++ [.int 5]))) rr = some (.tup [.ref g, .ref tt]) := by rw [upd_ne ltne]; exact Sb _ _ er
  refine ⟨_, rfl, rr, _, _, _, rfl, rfl, .inr (SqT.of er2), rfl, .inl ⟨rfl, _, SqL.of ec⟩, g, _, _, rfl, rfl, ec, (by rw [List.length_map]; exact small1000 (by omega)), ?_⟩
  have S8b : Same H8 Hb := S9.trans (Sa.trans Sb)
  have S8d : Same H8 (upd (upd Hb lh (.lst (us.map V.int ++ [.int 5]))) g (.lst (gs.map V.int ++ [.int 0]))) := (S8b.upd nh).upd (S9.free ng9)
  generalize upd (upd Hb lh (.lst (us.map V.int ++ [.int 5]))) g (.lst (gs.map V.int ++ [.int 0])) = Hd at *
  refine ⟨_, rfl, _, rfl, _, rfl, _, rfl, _, rfl, _, rfl, ?_⟩
  refine ⟨l, us, n, p, a, b, rfl, SqL.of (S8d _ _ hu), by omega, hv, n0, by omega, R.same S8d, fun z1 z2 => absurd ⟨z1, z2⟩ ng, fun _ rr g tt He gs N D Se nge er eg et dl bN bD => ?_⟩
  exact ⟨l, t, rr, g, tt, us, gs, n, N, D, m, q, a, b, rfl, SqL.of (Se _ _ (S8d _ _ hu)), lu1, by omega, hv, Se _ _ (S8d _ _ ht), er, eg, et, m0, mq, q1, R.a0, b0, eq, dl, bN, bD, n0, by omega, ng, fun Hf _ => k Hf⟩
end
end K3
namespace K3
open PySem L2 SW
theorem txt_mk {K : PySem.W.Frag} {h : Heap} {mg : Str → Option Value} (X : K.In h) (G : h.Ns mainGlobals mg)
    {c_Rule c_Down c_Half c_Between c_DealError c_BadRule c_NoTable c_NoVotes c_BadLine f_common_divisor f_ratio f_over f_below f_price f_next_price f_cheapest f_dealt f_is_whole_number f_lcell_at f_ldraw f_lgreat f_lrule f_lratio f_lfits f_lvote f_lat_mark f_lright f_lrefused f_law f_Rule_init f_Rule_mark f_Down_init f_Half_init f_Between_init : Addr}
    {od_common_divisor an_common_divisor od_ratio an_ratio od_over an_over od_below an_below od_price an_price od_next_price an_next_price od_cheapest an_cheapest od_dealt an_dealt od_is_whole_number an_is_whole_number od_lcell_at an_lcell_at od_ldraw an_ldraw od_lgreat an_lgreat od_lrule an_lrule od_lratio an_lratio od_lfits an_lfits od_lvote an_lvote od_lat_mark an_lat_mark od_lright an_lright od_lrefused an_lrefused od_law an_law od_Rule_init an_Rule_init od_Rule_mark an_Rule_mark od_Down_init an_Down_init od_Half_init an_Half_init od_Between_init an_Between_init : Option Addr}
    {sl_common_divisor sl_ratio sl_over sl_below sl_price sl_next_price sl_cheapest sl_dealt sl_is_whole_number sl_lcell_at sl_ldraw sl_lgreat sl_lrule sl_lratio sl_lfits sl_lvote sl_lat_mark sl_lright sl_lrefused sl_law sl_Rule_init sl_Rule_mark sl_Down_init sl_Half_init sl_Between_init : Array (Option Value)}
    {oc_common_divisor kV_common_divisor dc_common_divisor pm_common_divisor cd_common_divisor ct_common_divisor oc_ratio kV_ratio dc_ratio pm_ratio cd_ratio ct_ratio oc_over kV_over dc_over pm_over cd_over ct_over oc_below kV_below dc_below pm_below cd_below ct_below oc_price kV_price dc_price pm_price cd_price ct_price oc_next_price kV_next_price dc_next_price pm_next_price cd_next_price ct_next_price oc_cheapest kV_cheapest dc_cheapest pm_cheapest cd_cheapest ct_cheapest oc_dealt kV_dealt dc_dealt pm_dealt cd_dealt ct_dealt oc_is_whole_number kV_is_whole_number dc_is_whole_number pm_is_whole_number cd_is_whole_number ct_is_whole_number oc_lcell_at kV_lcell_at dc_lcell_at pm_lcell_at cd_lcell_at ct_lcell_at oc_ldraw kV_ldraw dc_ldraw pm_ldraw cd_ldraw ct_ldraw oc_lgreat kV_lgreat dc_lgreat pm_lgreat cd_lgreat ct_lgreat oc_lrule kV_lrule dc_lrule pm_lrule cd_lrule ct_lrule oc_lratio kV_lratio dc_lratio pm_lratio cd_lratio ct_lratio oc_lfits kV_lfits dc_lfits pm_lfits cd_lfits ct_lfits oc_lvote kV_lvote dc_lvote pm_lvote cd_lvote ct_lvote oc_lat_mark kV_lat_mark dc_lat_mark pm_lat_mark cd_lat_mark ct_lat_mark oc_lright kV_lright dc_lright pm_lright cd_lright ct_lright oc_lrefused kV_lrefused dc_lrefused pm_lrefused cd_lrefused ct_lrefused oc_law kV_law dc_law pm_law cd_law ct_law oc_Rule_init kV_Rule_init dc_Rule_init pm_Rule_init cd_Rule_init ct_Rule_init oc_Rule_mark kV_Rule_mark dc_Rule_mark pm_Rule_mark cd_Rule_mark ct_Rule_mark oc_Down_init kV_Down_init dc_Down_init pm_Down_init cd_Down_init ct_Down_init oc_Half_init kV_Half_init dc_Half_init pm_Half_init cd_Half_init ct_Half_init oc_Between_init kV_Between_init dc_Between_init pm_Between_init cd_Between_init ct_Between_init : Value}
    {tk_GREATEST_Q : Tok}
    (m_Rule : PySem.W.nsIn K mainGlobals "Rule" = some (some (.ref c_Rule)))
    (m_Down : PySem.W.nsIn K mainGlobals "Down" = some (some (.ref c_Down)))
    (m_Half : PySem.W.nsIn K mainGlobals "Half" = some (some (.ref c_Half)))
    (m_Between : PySem.W.nsIn K mainGlobals "Between" = some (some (.ref c_Between)))
    (m_DealError : PySem.W.nsIn K mainGlobals "DealError" = some (some (.ref c_DealError)))
    (m_BadRule : PySem.W.nsIn K mainGlobals "BadRule" = some (some (.ref c_BadRule)))
    (m_NoTable : PySem.W.nsIn K mainGlobals "NoTable" = some (some (.ref c_NoTable)))
    (m_NoVotes : PySem.W.nsIn K mainGlobals "NoVotes" = some (some (.ref c_NoVotes)))
    (m_BadLine : PySem.W.nsIn K mainGlobals "BadLine" = some (some (.ref c_BadLine)))
    (a_common_divisor : PySem.W.nsIn K mainGlobals "common_divisor" = some (some (.ref f_common_divisor)))
    (l_common_divisor : K.lookup f_common_divisor = some ⟨oc_common_divisor, od_common_divisor, .func (PySem.W.fnOf "common_divisor" "common_divisor" (defArgs s_common_divisor) (defBody s_common_divisor) (defScope s_common_divisor) .none kV_common_divisor dc_common_divisor pm_common_divisor an_common_divisor cd_common_divisor ct_common_divisor), sl_common_divisor⟩)
    (c_common_divisor' : PySem.W.codeIn K cd_common_divisor "common_divisor" = true)
    (k_common_divisor' : PySem.W.keepIn K (.ref f_common_divisor) = true)
    (a_ratio : PySem.W.nsIn K mainGlobals "ratio" = some (some (.ref f_ratio)))
    (l_ratio : K.lookup f_ratio = some ⟨oc_ratio, od_ratio, .func (PySem.W.fnOf "ratio" "ratio" (defArgs s_ratio) (defBody s_ratio) (defScope s_ratio) .none kV_ratio dc_ratio pm_ratio an_ratio cd_ratio ct_ratio), sl_ratio⟩)
    (c_ratio' : PySem.W.codeIn K cd_ratio "ratio" = true)
    (k_ratio' : PySem.W.keepIn K (.ref f_ratio) = true)
    (a_over : PySem.W.nsIn K mainGlobals "over" = some (some (.ref f_over)))
    (l_over : K.lookup f_over = some ⟨oc_over, od_over, .func (PySem.W.fnOf "over" "over" (defArgs s_over) (defBody s_over) (defScope s_over) .none kV_over dc_over pm_over an_over cd_over ct_over), sl_over⟩)
    (c_over' : PySem.W.codeIn K cd_over "over" = true)
    (k_over' : PySem.W.keepIn K (.ref f_over) = true)
    (a_below : PySem.W.nsIn K mainGlobals "below" = some (some (.ref f_below)))
    (l_below : K.lookup f_below = some ⟨oc_below, od_below, .func (PySem.W.fnOf "below" "below" (defArgs s_below) (defBody s_below) (defScope s_below) .none kV_below dc_below pm_below an_below cd_below ct_below), sl_below⟩)
    (c_below' : PySem.W.codeIn K cd_below "below" = true)
    (k_below' : PySem.W.keepIn K (.ref f_below) = true)
    (a_price : PySem.W.nsIn K mainGlobals "price" = some (some (.ref f_price)))
    (l_price : K.lookup f_price = some ⟨oc_price, od_price, .func (PySem.W.fnOf "price" "price" (defArgs s_price) (defBody s_price) (defScope s_price) .none kV_price dc_price pm_price an_price cd_price ct_price), sl_price⟩)
    (c_price' : PySem.W.codeIn K cd_price "price" = true)
    (k_price' : PySem.W.keepIn K (.ref f_price) = true)
    (a_next_price : PySem.W.nsIn K mainGlobals "next_price" = some (some (.ref f_next_price)))
    (l_next_price : K.lookup f_next_price = some ⟨oc_next_price, od_next_price, .func (PySem.W.fnOf "next_price" "next_price" (defArgs s_next_price) (defBody s_next_price) (defScope s_next_price) .none kV_next_price dc_next_price pm_next_price an_next_price cd_next_price ct_next_price), sl_next_price⟩)
    (c_next_price' : PySem.W.codeIn K cd_next_price "next_price" = true)
    (k_next_price' : PySem.W.keepIn K (.ref f_next_price) = true)
    (a_cheapest : PySem.W.nsIn K mainGlobals "cheapest" = some (some (.ref f_cheapest)))
    (l_cheapest : K.lookup f_cheapest = some ⟨oc_cheapest, od_cheapest, .func (PySem.W.fnOf "cheapest" "cheapest" (defArgs s_cheapest) (defBody s_cheapest) (defScope s_cheapest) .none kV_cheapest dc_cheapest pm_cheapest an_cheapest cd_cheapest ct_cheapest), sl_cheapest⟩)
    (c_cheapest' : PySem.W.codeIn K cd_cheapest "cheapest" = true)
    (k_cheapest' : PySem.W.keepIn K (.ref f_cheapest) = true)
    (a_dealt : PySem.W.nsIn K mainGlobals "dealt" = some (some (.ref f_dealt)))
    (l_dealt : K.lookup f_dealt = some ⟨oc_dealt, od_dealt, .func (PySem.W.fnOf "dealt" "dealt" (defArgs s_dealt) (defBody s_dealt) (defScope s_dealt) .none kV_dealt dc_dealt pm_dealt an_dealt cd_dealt ct_dealt), sl_dealt⟩)
    (c_dealt' : PySem.W.codeIn K cd_dealt "dealt" = true)
    (k_dealt' : PySem.W.keepIn K (.ref f_dealt) = true)
    (a_is_whole_number : PySem.W.nsIn K mainGlobals "is_whole_number" = some (some (.ref f_is_whole_number)))
    (l_is_whole_number : K.lookup f_is_whole_number = some ⟨oc_is_whole_number, od_is_whole_number, .func (PySem.W.fnOf "is_whole_number" "is_whole_number" (defArgs s_is_whole_number) (defBody s_is_whole_number) (defScope s_is_whole_number) .none kV_is_whole_number dc_is_whole_number pm_is_whole_number an_is_whole_number cd_is_whole_number ct_is_whole_number), sl_is_whole_number⟩)
    (c_is_whole_number' : PySem.W.codeIn K cd_is_whole_number "is_whole_number" = true)
    (k_is_whole_number' : PySem.W.keepIn K (.ref f_is_whole_number) = true)
    (a_lcell_at : PySem.W.nsIn K mainGlobals "_law_cell_at" = some (some (.ref f_lcell_at)))
    (l_lcell_at : K.lookup f_lcell_at = some ⟨oc_lcell_at, od_lcell_at, .func (PySem.W.fnOf "_law_cell_at" "_law_cell_at" (defArgs s_lcell_at) (defBody s_lcell_at) (defScope s_lcell_at) .none kV_lcell_at dc_lcell_at pm_lcell_at an_lcell_at cd_lcell_at ct_lcell_at), sl_lcell_at⟩)
    (c_lcell_at' : PySem.W.codeIn K cd_lcell_at "_law_cell_at" = true)
    (k_lcell_at' : PySem.W.keepIn K (.ref f_lcell_at) = true)
    (a_ldraw : PySem.W.nsIn K mainGlobals "_law_draw" = some (some (.ref f_ldraw)))
    (l_ldraw : K.lookup f_ldraw = some ⟨oc_ldraw, od_ldraw, .func (PySem.W.fnOf "_law_draw" "_law_draw" (defArgs s_ldraw) (defBody s_ldraw) (defScope s_ldraw) .none kV_ldraw dc_ldraw pm_ldraw an_ldraw cd_ldraw ct_ldraw), sl_ldraw⟩)
    (c_ldraw' : PySem.W.codeIn K cd_ldraw "_law_draw" = true)
    (k_ldraw' : PySem.W.keepIn K (.ref f_ldraw) = true)
    (a_lgreat : PySem.W.nsIn K mainGlobals "_law_great" = some (some (.ref f_lgreat)))
    (l_lgreat : K.lookup f_lgreat = some ⟨oc_lgreat, od_lgreat, .func (PySem.W.fnOf "_law_great" "_law_great" (defArgs s_lgreat) (defBody s_lgreat) (defScope s_lgreat) .none kV_lgreat dc_lgreat pm_lgreat an_lgreat cd_lgreat ct_lgreat), sl_lgreat⟩)
    (c_lgreat' : PySem.W.codeIn K cd_lgreat "_law_great" = true)
    (k_lgreat' : PySem.W.keepIn K (.ref f_lgreat) = true)
    (a_lrule : PySem.W.nsIn K mainGlobals "_law_rule" = some (some (.ref f_lrule)))
    (l_lrule : K.lookup f_lrule = some ⟨oc_lrule, od_lrule, .func (PySem.W.fnOf "_law_rule" "_law_rule" (defArgs s_lrule) (defBody s_lrule) (defScope s_lrule) .none kV_lrule dc_lrule pm_lrule an_lrule cd_lrule ct_lrule), sl_lrule⟩)
    (c_lrule' : PySem.W.codeIn K cd_lrule "_law_rule" = true)
    (k_lrule' : PySem.W.keepIn K (.ref f_lrule) = true)
    (a_lratio : PySem.W.nsIn K mainGlobals "_law_ratio" = some (some (.ref f_lratio)))
    (l_lratio : K.lookup f_lratio = some ⟨oc_lratio, od_lratio, .func (PySem.W.fnOf "_law_ratio" "_law_ratio" (defArgs s_lratio) (defBody s_lratio) (defScope s_lratio) .none kV_lratio dc_lratio pm_lratio an_lratio cd_lratio ct_lratio), sl_lratio⟩)
    (c_lratio' : PySem.W.codeIn K cd_lratio "_law_ratio" = true)
    (k_lratio' : PySem.W.keepIn K (.ref f_lratio) = true)
    (a_lfits : PySem.W.nsIn K mainGlobals "_law_fits" = some (some (.ref f_lfits)))
    (l_lfits : K.lookup f_lfits = some ⟨oc_lfits, od_lfits, .func (PySem.W.fnOf "_law_fits" "_law_fits" (defArgs s_lfits) (defBody s_lfits) (defScope s_lfits) .none kV_lfits dc_lfits pm_lfits an_lfits cd_lfits ct_lfits), sl_lfits⟩)
    (c_lfits' : PySem.W.codeIn K cd_lfits "_law_fits" = true)
    (k_lfits' : PySem.W.keepIn K (.ref f_lfits) = true)
    (a_lvote : PySem.W.nsIn K mainGlobals "_law_vote" = some (some (.ref f_lvote)))
    (l_lvote : K.lookup f_lvote = some ⟨oc_lvote, od_lvote, .func (PySem.W.fnOf "_law_vote" "_law_vote" (defArgs s_lvote) (defBody s_lvote) (defScope s_lvote) .none kV_lvote dc_lvote pm_lvote an_lvote cd_lvote ct_lvote), sl_lvote⟩)
    (c_lvote' : PySem.W.codeIn K cd_lvote "_law_vote" = true)
    (k_lvote' : PySem.W.keepIn K (.ref f_lvote) = true)
    (a_lat_mark : PySem.W.nsIn K mainGlobals "_law_at_mark" = some (some (.ref f_lat_mark)))
    (l_lat_mark : K.lookup f_lat_mark = some ⟨oc_lat_mark, od_lat_mark, .func (PySem.W.fnOf "_law_at_mark" "_law_at_mark" (defArgs s_lat_mark) (defBody s_lat_mark) (defScope s_lat_mark) .none kV_lat_mark dc_lat_mark pm_lat_mark an_lat_mark cd_lat_mark ct_lat_mark), sl_lat_mark⟩)
    (c_lat_mark' : PySem.W.codeIn K cd_lat_mark "_law_at_mark" = true)
    (k_lat_mark' : PySem.W.keepIn K (.ref f_lat_mark) = true)
    (a_lright : PySem.W.nsIn K mainGlobals "_law_right" = some (some (.ref f_lright)))
    (l_lright : K.lookup f_lright = some ⟨oc_lright, od_lright, .func (PySem.W.fnOf "_law_right" "_law_right" (defArgs s_lright) (defBody s_lright) (defScope s_lright) .none kV_lright dc_lright pm_lright an_lright cd_lright ct_lright), sl_lright⟩)
    (c_lright' : PySem.W.codeIn K cd_lright "_law_right" = true)
    (k_lright' : PySem.W.keepIn K (.ref f_lright) = true)
    (a_lrefused : PySem.W.nsIn K mainGlobals "_law_refused" = some (some (.ref f_lrefused)))
    (l_lrefused : K.lookup f_lrefused = some ⟨oc_lrefused, od_lrefused, .func (PySem.W.fnOf "_law_refused" "_law_refused" (defArgs s_lrefused) (defBody s_lrefused) (defScope s_lrefused) .none kV_lrefused dc_lrefused pm_lrefused an_lrefused cd_lrefused ct_lrefused), sl_lrefused⟩)
    (c_lrefused' : PySem.W.codeIn K cd_lrefused "_law_refused" = true)
    (k_lrefused' : PySem.W.keepIn K (.ref f_lrefused) = true)
    (a_law : PySem.W.nsIn K mainGlobals "law" = some (some (.ref f_law)))
    (l_law : K.lookup f_law = some ⟨oc_law, od_law, .func (PySem.W.fnOf "law" "law" (defArgs s_law) (defBody s_law) (defScope s_law) .none kV_law dc_law pm_law an_law cd_law ct_law), sl_law⟩)
    (c_law' : PySem.W.codeIn K cd_law "law" = true)
    (k_law' : PySem.W.keepIn K (.ref f_law) = true)
    (a_Rule_init : PySem.W.findIn K (.ref c_Rule) "__init__" = some (some (.ref f_Rule_init)))
    (i_Rule_init : PySem.W.isFn K (.ref f_Rule_init) = true)
    (l_Rule_init : K.lookup f_Rule_init = some ⟨oc_Rule_init, od_Rule_init, .func (PySem.W.fnOf "__init__" "Rule.__init__" (defArgs s_Rule_init) (defBody s_Rule_init) (defScope s_Rule_init) .none kV_Rule_init dc_Rule_init pm_Rule_init an_Rule_init cd_Rule_init ct_Rule_init), sl_Rule_init⟩)
    (c_Rule_init' : PySem.W.codeIn K cd_Rule_init "Rule.__init__" = true)
    (k_Rule_init' : PySem.W.keepIn K (.ref f_Rule_init) = true)
    (a_Rule_mark : PySem.W.findIn K (.ref c_Rule) "mark" = some (some (.ref f_Rule_mark)))
    (i_Rule_mark : PySem.W.isFn K (.ref f_Rule_mark) = true)
    (l_Rule_mark : K.lookup f_Rule_mark = some ⟨oc_Rule_mark, od_Rule_mark, .func (PySem.W.fnOf "mark" "Rule.mark" (defArgs s_Rule_mark) (defBody s_Rule_mark) (defScope s_Rule_mark) .none kV_Rule_mark dc_Rule_mark pm_Rule_mark an_Rule_mark cd_Rule_mark ct_Rule_mark), sl_Rule_mark⟩)
    (c_Rule_mark' : PySem.W.codeIn K cd_Rule_mark "Rule.mark" = true)
    (k_Rule_mark' : PySem.W.keepIn K (.ref f_Rule_mark) = true)
    (a_Down_init : PySem.W.findIn K (.ref c_Down) "__init__" = some (some (.ref f_Down_init)))
    (i_Down_init : PySem.W.isFn K (.ref f_Down_init) = true)
    (l_Down_init : K.lookup f_Down_init = some ⟨oc_Down_init, od_Down_init, .func (PySem.W.fnOf "__init__" "Down.__init__" (defArgs s_Down_init) (defBody s_Down_init) (defScope s_Down_init) .none kV_Down_init dc_Down_init pm_Down_init an_Down_init cd_Down_init ct_Down_init), sl_Down_init⟩)
    (c_Down_init' : PySem.W.codeIn K cd_Down_init "Down.__init__" = true)
    (k_Down_init' : PySem.W.keepIn K (.ref f_Down_init) = true)
    (a_Half_init : PySem.W.findIn K (.ref c_Half) "__init__" = some (some (.ref f_Half_init)))
    (i_Half_init : PySem.W.isFn K (.ref f_Half_init) = true)
    (l_Half_init : K.lookup f_Half_init = some ⟨oc_Half_init, od_Half_init, .func (PySem.W.fnOf "__init__" "Half.__init__" (defArgs s_Half_init) (defBody s_Half_init) (defScope s_Half_init) .none kV_Half_init dc_Half_init pm_Half_init an_Half_init cd_Half_init ct_Half_init), sl_Half_init⟩)
    (c_Half_init' : PySem.W.codeIn K cd_Half_init "Half.__init__" = true)
    (k_Half_init' : PySem.W.keepIn K (.ref f_Half_init) = true)
    (a_Between_init : PySem.W.findIn K (.ref c_Between) "__init__" = some (some (.ref f_Between_init)))
    (i_Between_init : PySem.W.isFn K (.ref f_Between_init) = true)
    (l_Between_init : K.lookup f_Between_init = some ⟨oc_Between_init, od_Between_init, .func (PySem.W.fnOf "__init__" "Between.__init__" (defArgs s_Between_init) (defBody s_Between_init) (defScope s_Between_init) .none kV_Between_init dc_Between_init pm_Between_init an_Between_init cd_Between_init ct_Between_init), sl_Between_init⟩)
    (c_Between_init' : PySem.W.codeIn K cd_Between_init "Between.__init__" = true)
    (k_Between_init' : PySem.W.keepIn K (.ref f_Between_init) = true)
    (z_isinstance : PySem.W.nsIn K mainGlobals "isinstance" = some none)
    (z_int : PySem.W.nsIn K mainGlobals "int" = some none)
    (z_bool : PySem.W.nsIn K mainGlobals "bool" = some none)
    (z_tuple : PySem.W.nsIn K mainGlobals "tuple" = some none)
    (z_list : PySem.W.nsIn K mainGlobals "list" = some none)
    (z_ValueError : PySem.W.nsIn K mainGlobals "ValueError" = some none)
    (z_len : PySem.W.nsIn K mainGlobals "len" = some none)
    (z_min : PySem.W.nsIn K mainGlobals "min" = some none)
    (z_max : PySem.W.nsIn K mainGlobals "max" = some none)
    (z_range : PySem.W.nsIn K mainGlobals "range" = some none)
    (z_sum : PySem.W.nsIn K mainGlobals "sum" = some none)
    (g_GREATEST_Q : PySem.W.nsIn K mainGlobals "GREATEST_Q" = some (some (.int 1000 tk_GREATEST_Q)))
    (ga_Rule : PySem.W.specialIn K (.ref c_Rule) "__getattribute__" = some (some (.builtin "type.__getattribute__")))
    (rd_Rule : PySem.W.readsIn K c_Rule (.type "type") = true)
    (fn_Rule_init : PySem.W.findCls K (.ref c_Rule) (.type "type") "__init__" = some (.val (.ref f_Rule_init)))
    (pg_Down : PySem.W.plainGet K c_Down Str.empty = true)
    (hd_Down : PySem.W.hasDictIn K c_Down = true)
    (po_Down : PySem.W.plainOver K c_Down = true)
    (sa_Down : PySem.W.findIn K (.ref c_Down) "__setattr__" = some (some (.builtin "object.__setattr__")))
    (mk_Down : PySem.W.makesIn K c_Down = true)
    (kc_Down : PySem.W.keepIn K (.ref c_Down) = true)
    (hn : PySem.W.specialIn K (.builtin "object.__class__") "__get__" = some (some (.builtin "getset_descriptor.__get__")))
    (tk : PySem.W.takesIn K (.builtin "object.__class__") = some true)
    (ha_Down : PySem.W.findIn K (.ref c_Down) "__class__" = some (some (.builtin "object.__class__")))
    (ob_Down : PySem.W.mroIn K c_Down (.type "object") = some true)
    (na_Down_whole : PySem.W.findIn K (.ref c_Down) "whole" = some none)
    (mt_Down_mark : PySem.W.findIn K (.ref c_Down) "mark" = some (some (.ref f_Rule_mark)))
    (pg_Half : PySem.W.plainGet K c_Half Str.empty = true)
    (hd_Half : PySem.W.hasDictIn K c_Half = true)
    (po_Half : PySem.W.plainOver K c_Half = true)
    (sa_Half : PySem.W.findIn K (.ref c_Half) "__setattr__" = some (some (.builtin "object.__setattr__")))
    (mk_Half : PySem.W.makesIn K c_Half = true)
    (kc_Half : PySem.W.keepIn K (.ref c_Half) = true)
    (ha_Half : PySem.W.findIn K (.ref c_Half) "__class__" = some (some (.builtin "object.__class__")))
    (ob_Half : PySem.W.mroIn K c_Half (.type "object") = some true)
    (na_Half_whole : PySem.W.findIn K (.ref c_Half) "whole" = some none)
    (mt_Half_mark : PySem.W.findIn K (.ref c_Half) "mark" = some (some (.ref f_Rule_mark)))
    (pg_Between : PySem.W.plainGet K c_Between Str.empty = true)
    (hd_Between : PySem.W.hasDictIn K c_Between = true)
    (po_Between : PySem.W.plainOver K c_Between = true)
    (sa_Between : PySem.W.findIn K (.ref c_Between) "__setattr__" = some (some (.builtin "object.__setattr__")))
    (mk_Between : PySem.W.makesIn K c_Between = true)
    (kc_Between : PySem.W.keepIn K (.ref c_Between) = true)
    (ha_Between : PySem.W.findIn K (.ref c_Between) "__class__" = some (some (.builtin "object.__class__")))
    (ob_Between : PySem.W.mroIn K c_Between (.type "object") = some true)
    (na_Between_whole : PySem.W.findIn K (.ref c_Between) "whole" = some none)
    (mt_Between_mark : PySem.W.findIn K (.ref c_Between) "mark" = some (some (.ref f_Rule_mark)))
    (x_BadRule : PySem.W.excIn K c_BadRule bmV "ValueError.__new__" = true)
    (x_NoVotes : PySem.W.excIn K c_NoVotes bmV "ValueError.__new__" = true)
    (ct_NoVotes_DealError : PySem.W.exmOne K (.ref c_NoVotes) (.ref c_DealError) = some true)
    (gx_NoVotes : PySem.W.findIn K (.ref c_NoVotes) "__getattribute__" = some (some (.builtin "BaseException.__getattribute__")))
    (gt_NoVotes : PySem.W.findIn K (.ref c_NoVotes) "__getattr__" = some none)
    (be_NoVotes : PySem.W.mroIn K c_NoVotes (.type "BaseException") = some true)
    (hx_NoVotes : PySem.W.hasDictIn K c_NoVotes = true)
    (ha_NoVotes : PySem.W.findIn K (.ref c_NoVotes) "__class__" = some (some (.builtin "object.__class__")))
    (ob_NoVotes : PySem.W.mroIn K c_NoVotes (.type "object") = some true)
    (k_NoVotes_BadLine : PySem.W.kitOne K (.ref c_NoVotes) (.ref c_BadLine) = some false)
    (k_NoVotes_NoTable : PySem.W.kitOne K (.ref c_NoVotes) (.ref c_NoTable) = some false)
    (k_NoVotes_BadRule : PySem.W.kitOne K (.ref c_NoVotes) (.ref c_BadRule) = some false)
    (k_NoVotes_ValueError : PySem.W.kitOne K (.ref c_NoVotes) (.type "ValueError") = some true)
    : ∃ T : Txt K mg, mg "law" = some (.ref T.a_law) ∧ ∀ (s : Shared) (v : Value), BindsTo s T.fd_law ⟨[v], []⟩ [("_law_script", v)] := by
  have F_common_divisor := fun_mk (st := s_common_divisor) l_common_divisor c_common_divisor' k_common_divisor'
  have b_common_divisor := F_common_divisor.binds (ps := ["a", "b"]) fun _ _ _ _ _ _ us hl => match us, hl with | [_, _], _ => rfl
  have F_ratio := fun_mk (st := s_ratio) l_ratio c_ratio' k_ratio'
  have b_ratio := F_ratio.binds (ps := ["a", "b"]) fun _ _ _ _ _ _ us hl => match us, hl with | [_, _], _ => rfl
  have F_over := fun_mk (st := s_over) l_over c_over' k_over'
  have b_over := F_over.binds (ps := ["one", "other"]) fun _ _ _ _ _ _ us hl => match us, hl with | [_, _], _ => rfl
  have F_below := fun_mk (st := s_below) l_below c_below' k_below'
  have b_below := F_below.binds (ps := ["one", "other"]) fun _ _ _ _ _ _ us hl => match us, hl with | [_, _], _ => rfl
  have F_price := fun_mk (st := s_price) l_price c_price' k_price'
  have b_price := F_price.binds (ps := ["number", "n", "rule"]) fun _ _ _ _ _ _ us hl => match us, hl with | [_, _, _], _ => rfl
  have F_next_price := fun_mk (st := s_next_price) l_next_price c_next_price' k_next_price'
  have b_next_price := F_next_price.binds (ps := ["number", "seats", "rule"]) fun _ _ _ _ _ _ us hl => match us, hl with | [_, _, _], _ => rfl
  have F_cheapest := fun_mk (st := s_cheapest) l_cheapest c_cheapest' k_cheapest'
  have b_cheapest := F_cheapest.binds (ps := ["prices"]) fun _ _ _ _ _ _ us hl => match us, hl with | [_], _ => rfl
  have F_dealt := fun_mk (st := s_dealt) l_dealt c_dealt' k_dealt'
  have b_dealt := F_dealt.binds (ps := ["votes", "seats", "rule"]) fun _ _ _ _ _ _ us hl => match us, hl with | [_, _, _], _ => rfl
  have F_is_whole_number := fun_mk (st := s_is_whole_number) l_is_whole_number c_is_whole_number' k_is_whole_number'
  have b_is_whole_number := F_is_whole_number.binds (ps := ["value"]) fun _ _ _ _ _ _ us hl => match us, hl with | [_], _ => rfl
  have F_lcell_at := fun_mk (st := s_lcell_at) l_lcell_at c_lcell_at' k_lcell_at'
  have b_lcell_at := F_lcell_at.binds (ps := ["_law_script", "_law_k"]) fun _ _ _ _ _ _ us hl => match us, hl with | [_, _], _ => rfl
  have F_ldraw := fun_mk (st := s_ldraw) l_ldraw c_ldraw' k_ldraw'
  have b_ldraw := F_ldraw.binds (ps := ["_law_cell", "_law_k", "_law_many"]) fun _ _ _ _ _ _ us hl => match us, hl with | [_, _, _], _ => rfl
  have F_lgreat := fun_mk (st := s_lgreat) l_lgreat c_lgreat' k_lgreat'
  have b_lgreat := F_lgreat.binds (ps := ["_law_cell", "_law_k", "_law_most"]) fun _ _ _ _ _ _ us hl => match us, hl with | [_, _, _], _ => rfl
  have F_lrule := fun_mk (st := s_lrule) l_lrule c_lrule' k_lrule'
  have b_lrule := F_lrule.binds (ps := ["_law_cell"]) fun _ _ _ _ _ _ us hl => match us, hl with | [_], _ => rfl
  have F_lratio := fun_mk (st := s_lratio) l_lratio c_lratio' k_lratio'
  have b_lratio := F_lratio.binds (ps := ["_law_told"]) fun _ _ _ _ _ _ us hl => match us, hl with | [_], _ => rfl
  have F_lfits := fun_mk (st := s_lfits) l_lfits c_lfits' k_lfits'
  have b_lfits := F_lfits.binds (ps := ["_law_top", "_law_low", "_law_part", "_law_n"]) fun _ _ _ _ _ _ us hl => match us, hl with | [_, _, _, _], _ => rfl
  have F_lvote := fun_mk (st := s_lvote) l_lvote c_lvote' k_lvote'
  have b_lvote := F_lvote.binds (ps := ["_law_cell"]) fun _ _ _ _ _ _ us hl => match us, hl with | [_], _ => rfl
  have F_lat_mark := fun_mk (st := s_lat_mark) l_lat_mark c_lat_mark' k_lat_mark'
  have b_lat_mark := F_lat_mark.binds (ps := ["_law_vote_here", "_law_number", "_law_part", "_law_n"]) fun _ _ _ _ _ _ us hl => match us, hl with | [_, _, _, _], _ => rfl
  have F_lright := fun_mk (st := s_lright) l_lright c_lright' k_lright'
  have b_lright := F_lright.binds (ps := ["_law_votes", "_law_seats", "_law_part", "_law_told"]) fun _ _ _ _ _ _ us hl => match us, hl with | [_, _, _, _], _ => rfl
  have F_lrefused := fun_mk (st := s_lrefused) l_lrefused c_lrefused' k_lrefused'
  have b_lrefused := F_lrefused.binds (ps := ["_law_votes", "_law_seats", "_law_rule_here"]) fun _ _ _ _ _ _ us hl => match us, hl with | [_, _, _], _ => rfl
  have F_law := fun_mk (st := s_law) l_law c_law' k_law'
  have F_Rule_init := fun_mk (st := s_Rule_init) l_Rule_init c_Rule_init' k_Rule_init'
  have b_Rule_init := F_Rule_init.binds (ps := ["self", "whole"]) fun _ _ _ _ _ _ us hl => match us, hl with | [_, _], _ => rfl
  have F_Rule_mark := fun_mk (st := s_Rule_mark) l_Rule_mark c_Rule_mark' k_Rule_mark'
  have b_Rule_mark := F_Rule_mark.binds (ps := ["self", "n"]) fun _ _ _ _ _ _ us hl => match us, hl with | [_, _], _ => rfl
  have F_Down_init := fun_mk (st := s_Down_init) l_Down_init c_Down_init' k_Down_init'
  have b_Down_init := F_Down_init.binds (ps := ["self"]) fun _ _ _ _ _ _ us hl => match us, hl with | [_], _ => rfl
  have F_Half_init := fun_mk (st := s_Half_init) l_Half_init c_Half_init' k_Half_init'
  have b_Half_init := F_Half_init.binds (ps := ["self"]) fun _ _ _ _ _ _ us hl => match us, hl with | [_], _ => rfl
  have F_Between_init := fun_mk (st := s_Between_init) l_Between_init c_Between_init' k_Between_init'
  have b_Between_init := F_Between_init.binds (ps := ["self", "p", "q"]) fun _ _ _ _ _ _ us hl => match us, hl with | [_, _, _], _ => rfl
  exact ⟨{ c_Rule := c_Rule, m_Rule := PySem.W.mg_of X G m_Rule, c_Down := c_Down, m_Down := PySem.W.mg_of X G m_Down, c_Half := c_Half, m_Half := PySem.W.mg_of X G m_Half, c_Between := c_Between, m_Between := PySem.W.mg_of X G m_Between, c_DealError := c_DealError, m_DealError := PySem.W.mg_of X G m_DealError, c_BadRule := c_BadRule, m_BadRule := PySem.W.mg_of X G m_BadRule, c_NoTable := c_NoTable, m_NoTable := PySem.W.mg_of X G m_NoTable, c_NoVotes := c_NoVotes, m_NoVotes := PySem.W.mg_of X G m_NoVotes, c_BadLine := c_BadLine, m_BadLine := PySem.W.mg_of X G m_BadLine, a_common_divisor := f_common_divisor, fd_common_divisor := _, F_common_divisor := F_common_divisor, b_common_divisor := b_common_divisor, m_common_divisor := PySem.W.mg_of X G a_common_divisor, a_ratio := f_ratio, fd_ratio := _, F_ratio := F_ratio, b_ratio := b_ratio, m_ratio := PySem.W.mg_of X G a_ratio, a_over := f_over, fd_over := _, F_over := F_over, b_over := b_over, m_over := PySem.W.mg_of X G a_over, a_below := f_below, fd_below := _, F_below := F_below, b_below := b_below, m_below := PySem.W.mg_of X G a_below, a_price := f_price, fd_price := _, F_price := F_price, b_price := b_price, m_price := PySem.W.mg_of X G a_price, a_next_price := f_next_price, fd_next_price := _, F_next_price := F_next_price, b_next_price := b_next_price, m_next_price := PySem.W.mg_of X G a_next_price, a_cheapest := f_cheapest, fd_cheapest := _, F_cheapest := F_cheapest, b_cheapest := b_cheapest, m_cheapest := PySem.W.mg_of X G a_cheapest, a_dealt := f_dealt, fd_dealt := _, F_dealt := F_dealt, b_dealt := b_dealt, m_dealt := PySem.W.mg_of X G a_dealt, a_is_whole_number := f_is_whole_number, fd_is_whole_number := _, F_is_whole_number := F_is_whole_number, b_is_whole_number := b_is_whole_number, m_is_whole_number := PySem.W.mg_of X G a_is_whole_number, a_lcell_at := f_lcell_at, fd_lcell_at := _, F_lcell_at := F_lcell_at, b_lcell_at := b_lcell_at, m_lcell_at := PySem.W.mg_of X G a_lcell_at, a_ldraw := f_ldraw, fd_ldraw := _, F_ldraw := F_ldraw, b_ldraw := b_ldraw, m_ldraw := PySem.W.mg_of X G a_ldraw, a_lgreat := f_lgreat, fd_lgreat := _, F_lgreat := F_lgreat, b_lgreat := b_lgreat, m_lgreat := PySem.W.mg_of X G a_lgreat, a_lrule := f_lrule, fd_lrule := _, F_lrule := F_lrule, b_lrule := b_lrule, m_lrule := PySem.W.mg_of X G a_lrule, a_lratio := f_lratio, fd_lratio := _, F_lratio := F_lratio, b_lratio := b_lratio, m_lratio := PySem.W.mg_of X G a_lratio, a_lfits := f_lfits, fd_lfits := _, F_lfits := F_lfits, b_lfits := b_lfits, m_lfits := PySem.W.mg_of X G a_lfits, a_lvote := f_lvote, fd_lvote := _, F_lvote := F_lvote, b_lvote := b_lvote, m_lvote := PySem.W.mg_of X G a_lvote, a_lat_mark := f_lat_mark, fd_lat_mark := _, F_lat_mark := F_lat_mark, b_lat_mark := b_lat_mark, m_lat_mark := PySem.W.mg_of X G a_lat_mark, a_lright := f_lright, fd_lright := _, F_lright := F_lright, b_lright := b_lright, m_lright := PySem.W.mg_of X G a_lright, a_lrefused := f_lrefused, fd_lrefused := _, F_lrefused := F_lrefused, b_lrefused := b_lrefused, m_lrefused := PySem.W.mg_of X G a_lrefused, a_law := f_law, fd_law := _, F_law := F_law, a_Rule_init := f_Rule_init, fd_Rule_init := _, F_Rule_init := F_Rule_init, b_Rule_init := b_Rule_init, a_Rule_mark := f_Rule_mark, fd_Rule_mark := _, F_Rule_mark := F_Rule_mark, b_Rule_mark := b_Rule_mark, a_Down_init := f_Down_init, fd_Down_init := _, F_Down_init := F_Down_init, b_Down_init := b_Down_init, a_Half_init := f_Half_init, fd_Half_init := _, F_Half_init := F_Half_init, b_Half_init := b_Half_init, a_Between_init := f_Between_init, fd_Between_init := _, F_Between_init := F_Between_init, b_Between_init := b_Between_init, n_isinstance := PySem.W.mg_none_of X G z_isinstance, n_int := PySem.W.mg_none_of X G z_int, n_bool := PySem.W.mg_none_of X G z_bool, n_tuple := PySem.W.mg_none_of X G z_tuple, n_list := PySem.W.mg_none_of X G z_list, n_ValueError := PySem.W.mg_none_of X G z_ValueError, n_len := PySem.W.mg_none_of X G z_len, n_min := PySem.W.mg_none_of X G z_min, n_max := PySem.W.mg_none_of X G z_max, n_range := PySem.W.mg_none_of X G z_range, n_sum := PySem.W.mg_none_of X G z_sum, tk_GREATEST_Q := tk_GREATEST_Q, m_GREATEST_Q := PySem.W.mg_of X G g_GREATEST_Q, cf_Rule_init := ⟨ga_Rule, rd_Rule, fn_Rule_init, k_Rule_init'⟩, cl_Down := ⟨pg_Down, hd_Down, po_Down, sa_Down⟩, M_Down := ⟨mk_Down, a_Down_init, i_Down_init, kc_Down⟩, ty_Down := ⟨ha_Down, hn, tk, ob_Down⟩, na_Down_whole := na_Down_whole, mt_Down_mark := ⟨mt_Down_mark, i_Rule_mark, k_Rule_mark'⟩, cl_Half := ⟨pg_Half, hd_Half, po_Half, sa_Half⟩, M_Half := ⟨mk_Half, a_Half_init, i_Half_init, kc_Half⟩, ty_Half := ⟨ha_Half, hn, tk, ob_Half⟩, na_Half_whole := na_Half_whole, mt_Half_mark := ⟨mt_Half_mark, i_Rule_mark, k_Rule_mark'⟩, cl_Between := ⟨pg_Between, hd_Between, po_Between, sa_Between⟩, M_Between := ⟨mk_Between, a_Between_init, i_Between_init, kc_Between⟩, ty_Between := ⟨ha_Between, hn, tk, ob_Between⟩, na_Between_whole := na_Between_whole, mt_Between_mark := ⟨mt_Between_mark, i_Rule_mark, k_Rule_mark'⟩, x_BadRule := x_BadRule, x_NoVotes := x_NoVotes, ct_NoVotes_DealError := ⟨ct_NoVotes_DealError⟩, t_NoVotes := ⟨gx_NoVotes, gt_NoVotes, be_NoVotes, hx_NoVotes, ha_NoVotes, hn, tk, ob_NoVotes⟩, k_NoVotes_BadLine := k_NoVotes_BadLine, k_NoVotes_NoTable := k_NoVotes_NoTable, k_NoVotes_BadRule := k_NoVotes_BadRule, k_NoVotes_ValueError := k_NoVotes_ValueError }, PySem.W.mg_of X G a_law, fun s v => .of_eq rfl⟩
end K3
open PySem PySem.W PyProof.Rows
set_option maxRecDepth 100000 in
set_option maxHeartbeats 0 in
theorem PySem.Challenge.cw_seatweave_k03_one_row_holds : PySem.Challenge.rw_seatweave_k03_one_row.Holds := by
  w_on; o_law; k_head; (case hw => w_witness2)
  k_fill
  refine L2.walk_ofK (l := PySem.Challenge.rw_seatweave_k03_one_row) (n := 63) (k := 9) (x := "_law_script") (CX := L2.CX0) (sp := SW.spLaw) rfl (by decide) rfl ⟨rfl, by decide, by decide⟩ (fun w h Y => PySem.W.kIn_of Y) ?F (fun K H a ns hl _ hS => ⟨a, ns, rfl, hS, hl, fun _ => rfl⟩) fun _ _ _ _ z => z
  case F =>
    intro w mg fa h KX G hmg
    have T : ∃ T : K3.Txt (L2.KOf KX) mg, mg "law" = some (.ref T.a_law) ∧ ∀ (s : Shared) (v : Value), BindsTo s T.fd_law ⟨[v], []⟩ [("_law_script", v)] := by
      dsimp only [L2.KOf]
      refine' K3.txt_mk KX G ?m_Rule ?m_Down ?m_Half ?m_Between ?m_DealError ?m_BadRule ?m_NoTable ?m_NoVotes ?m_BadLine ?a_common_divisor ?l_common_divisor ?c_common_divisor' ?k_common_divisor' ?a_ratio ?l_ratio ?c_ratio' ?k_ratio' ?a_over ?l_over ?c_over' ?k_over' ?a_below ?l_below ?c_below' ?k_below' ?a_price ?l_price ?c_price' ?k_price' ?a_next_price ?l_next_price ?c_next_price' ?k_next_price' ?a_cheapest ?l_cheapest ?c_cheapest' ?k_cheapest' ?a_dealt ?l_dealt ?c_dealt' ?k_dealt' ?a_is_whole_number ?l_is_whole_number ?c_is_whole_number' ?k_is_whole_number' ?a_lcell_at ?l_lcell_at ?c_lcell_at' ?k_lcell_at' ?a_ldraw ?l_ldraw ?c_ldraw' ?k_ldraw' ?a_lgreat ?l_lgreat ?c_lgreat' ?k_lgreat' ?a_lrule ?l_lrule ?c_lrule' ?k_lrule' ?a_lratio ?l_lratio ?c_lratio' ?k_lratio' ?a_lfits ?l_lfits ?c_lfits' ?k_lfits' ?a_lvote ?l_lvote ?c_lvote' ?k_lvote' ?a_lat_mark ?l_lat_mark ?c_lat_mark' ?k_lat_mark' ?a_lright ?l_lright ?c_lright' ?k_lright' ?a_lrefused ?l_lrefused ?c_lrefused' ?k_lrefused' ?a_law ?l_law ?c_law' ?k_law' ?a_Rule_init ?i_Rule_init ?l_Rule_init ?c_Rule_init' ?k_Rule_init' ?a_Rule_mark ?i_Rule_mark ?l_Rule_mark ?c_Rule_mark' ?k_Rule_mark' ?a_Down_init ?i_Down_init ?l_Down_init ?c_Down_init' ?k_Down_init' ?a_Half_init ?i_Half_init ?l_Half_init ?c_Half_init' ?k_Half_init' ?a_Between_init ?i_Between_init ?l_Between_init ?c_Between_init' ?k_Between_init' ?z_isinstance ?z_int ?z_bool ?z_tuple ?z_list ?z_ValueError ?z_len ?z_min ?z_max ?z_range ?z_sum ?g_GREATEST_Q ?ga_Rule ?rd_Rule ?fn_Rule_init ?pg_Down ?hd_Down ?po_Down ?sa_Down ?mk_Down ?kc_Down ?hn ?tk ?ha_Down ?ob_Down ?na_Down_whole ?mt_Down_mark ?pg_Half ?hd_Half ?po_Half ?sa_Half ?mk_Half ?kc_Half ?ha_Half ?ob_Half ?na_Half_whole ?mt_Half_mark ?pg_Between ?hd_Between ?po_Between ?sa_Between ?mk_Between ?kc_Between ?ha_Between ?ob_Between ?na_Between_whole ?mt_Between_mark ?x_BadRule ?x_NoVotes ?ct_NoVotes_DealError ?gx_NoVotes ?gt_NoVotes ?be_NoVotes ?hx_NoVotes ?ha_NoVotes ?ob_NoVotes ?k_NoVotes_BadLine ?k_NoVotes_NoTable ?k_NoVotes_BadRule ?k_NoVotes_ValueError
      (case m_Rule => first | k_is | kit_is | kts_exm | k_exc)
      (case m_Down => first | k_is | kit_is | kts_exm | k_exc)
      (case m_Half => first | k_is | kit_is | kts_exm | k_exc)
      (case m_Between => first | k_is | kit_is | kts_exm | k_exc)
      (case m_DealError => first | k_is | kit_is | kts_exm | k_exc)
      (case m_BadRule => first | k_is | kit_is | kts_exm | k_exc)
      (case m_NoTable => first | k_is | kit_is | kts_exm | k_exc)
      (case m_NoVotes => first | k_is | kit_is | kts_exm | k_exc)
      (case m_BadLine => first | k_is | kit_is | kts_exm | k_exc)
      (case a_common_divisor => first | k_is | kit_is | kts_exm | k_exc)
      (case l_common_divisor => first | k_is | kit_is | kts_exm | k_exc)
      (case c_common_divisor' => first | k_is | kit_is | kts_exm | k_exc)
      (case k_common_divisor' => first | k_is | kit_is | kts_exm | k_exc)
      (case a_ratio => first | k_is | kit_is | kts_exm | k_exc)
      (case l_ratio => first | k_is | kit_is | kts_exm | k_exc)
      (case c_ratio' => first | k_is | kit_is | kts_exm | k_exc)
      (case k_ratio' => first | k_is | kit_is | kts_exm | k_exc)
      (case a_over => first | k_is | kit_is | kts_exm | k_exc)
      (case l_over => first | k_is | kit_is | kts_exm | k_exc)
      (case c_over' => first | k_is | kit_is | kts_exm | k_exc)
      (case k_over' => first | k_is | kit_is | kts_exm | k_exc)
      (case a_below => first | k_is | kit_is | kts_exm | k_exc)
      (case l_below => first | k_is | kit_is | kts_exm | k_exc)
      (case c_below' => first | k_is | kit_is | kts_exm | k_exc)
      (case k_below' => first | k_is | kit_is | kts_exm | k_exc)
      (case a_price => first | k_is | kit_is | kts_exm | k_exc)
      (case l_price => first | k_is | kit_is | kts_exm | k_exc)
      (case c_price' => first | k_is | kit_is | kts_exm | k_exc)
      (case k_price' => first | k_is | kit_is | kts_exm | k_exc)
      (case a_next_price => first | k_is | kit_is | kts_exm | k_exc)
      (case l_next_price => first | k_is | kit_is | kts_exm | k_exc)
      (case c_next_price' => first | k_is | kit_is | kts_exm | k_exc)
      (case k_next_price' => first | k_is | kit_is | kts_exm | k_exc)
      (case a_cheapest => first | k_is | kit_is | kts_exm | k_exc)
      (case l_cheapest => first | k_is | kit_is | kts_exm | k_exc)
      (case c_cheapest' => first | k_is | kit_is | kts_exm | k_exc)
      (case k_cheapest' => first | k_is | kit_is | kts_exm | k_exc)
      (case a_dealt => first | k_is | kit_is | kts_exm | k_exc)
      (case l_dealt => first | k_is | kit_is | kts_exm | k_exc)
      (case c_dealt' => first | k_is | kit_is | kts_exm | k_exc)
      (case k_dealt' => first | k_is | kit_is | kts_exm | k_exc)
      (case a_is_whole_number => first | k_is | kit_is | kts_exm | k_exc)
      (case l_is_whole_number => first | k_is | kit_is | kts_exm | k_exc)
      (case c_is_whole_number' => first | k_is | kit_is | kts_exm | k_exc)
      (case k_is_whole_number' => first | k_is | kit_is | kts_exm | k_exc)
      (case a_lcell_at => first | k_is | kit_is | kts_exm | k_exc)
      (case l_lcell_at => first | k_is | kit_is | kts_exm | k_exc)
      (case c_lcell_at' => first | k_is | kit_is | kts_exm | k_exc)
      (case k_lcell_at' => first | k_is | kit_is | kts_exm | k_exc)
      (case a_ldraw => first | k_is | kit_is | kts_exm | k_exc)
      (case l_ldraw => first | k_is | kit_is | kts_exm | k_exc)
      (case c_ldraw' => first | k_is | kit_is | kts_exm | k_exc)
      (case k_ldraw' => first | k_is | kit_is | kts_exm | k_exc)
      (case a_lgreat => first | k_is | kit_is | kts_exm | k_exc)
      (case l_lgreat => first | k_is | kit_is | kts_exm | k_exc)
      (case c_lgreat' => first | k_is | kit_is | kts_exm | k_exc)
      (case k_lgreat' => first | k_is | kit_is | kts_exm | k_exc)
      (case a_lrule => first | k_is | kit_is | kts_exm | k_exc)
      (case l_lrule => first | k_is | kit_is | kts_exm | k_exc)
      (case c_lrule' => first | k_is | kit_is | kts_exm | k_exc)
      (case k_lrule' => first | k_is | kit_is | kts_exm | k_exc)
      (case a_lratio => first | k_is | kit_is | kts_exm | k_exc)
      (case l_lratio => first | k_is | kit_is | kts_exm | k_exc)
      (case c_lratio' => first | k_is | kit_is | kts_exm | k_exc)
      (case k_lratio' => first | k_is | kit_is | kts_exm | k_exc)
      (case a_lfits => first | k_is | kit_is | kts_exm | k_exc)
      (case l_lfits => first | k_is | kit_is | kts_exm | k_exc)
      (case c_lfits' => first | k_is | kit_is | kts_exm | k_exc)
      (case k_lfits' => first | k_is | kit_is | kts_exm | k_exc)
      (case a_lvote => first | k_is | kit_is | kts_exm | k_exc)
      (case l_lvote => first | k_is | kit_is | kts_exm | k_exc)
      (case c_lvote' => first | k_is | kit_is | kts_exm | k_exc)
      (case k_lvote' => first | k_is | kit_is | kts_exm | k_exc)
      (case a_lat_mark => first | k_is | kit_is | kts_exm | k_exc)
      (case l_lat_mark => first | k_is | kit_is | kts_exm | k_exc)
      (case c_lat_mark' => first | k_is | kit_is | kts_exm | k_exc)
      (case k_lat_mark' => first | k_is | kit_is | kts_exm | k_exc)
      (case a_lright => first | k_is | kit_is | kts_exm | k_exc)
      (case l_lright => first | k_is | kit_is | kts_exm | k_exc)
      (case c_lright' => first | k_is | kit_is | kts_exm | k_exc)
      (case k_lright' => first | k_is | kit_is | kts_exm | k_exc)
      (case a_lrefused => first | k_is | kit_is | kts_exm | k_exc)
      (case l_lrefused => first | k_is | kit_is | kts_exm | k_exc)
      (case c_lrefused' => first | k_is | kit_is | kts_exm | k_exc)
      (case k_lrefused' => first | k_is | kit_is | kts_exm | k_exc)
      (case a_law => first | k_is | kit_is | kts_exm | k_exc)
      (case l_law => first | k_is | kit_is | kts_exm | k_exc)
      (case c_law' => first | k_is | kit_is | kts_exm | k_exc)
      (case k_law' => first | k_is | kit_is | kts_exm | k_exc)
      (case a_Rule_init => first | k_is | kit_is | kts_exm | k_exc)
      (case i_Rule_init => first | k_is | kit_is | kts_exm | k_exc)
      (case l_Rule_init => first | k_is | kit_is | kts_exm | k_exc)
      (case c_Rule_init' => first | k_is | kit_is | kts_exm | k_exc)
      (case k_Rule_init' => first | k_is | kit_is | kts_exm | k_exc)
      (case a_Rule_mark => first | k_is | kit_is | kts_exm | k_exc)
      (case i_Rule_mark => first | k_is | kit_is | kts_exm | k_exc)
      (case l_Rule_mark => first | k_is | kit_is | kts_exm | k_exc)
      (case c_Rule_mark' => first | k_is | kit_is | kts_exm | k_exc)
      (case k_Rule_mark' => first | k_is | kit_is | kts_exm | k_exc)
      (case a_Down_init => first | k_is | kit_is | kts_exm | k_exc)
      (case i_Down_init => first | k_is | kit_is | kts_exm | k_exc)
      (case l_Down_init => first | k_is | kit_is | kts_exm | k_exc)
      (case c_Down_init' => first | k_is | kit_is | kts_exm | k_exc)
      (case k_Down_init' => first | k_is | kit_is | kts_exm | k_exc)
      (case a_Half_init => first | k_is | kit_is | kts_exm | k_exc)
      (case i_Half_init => first | k_is | kit_is | kts_exm | k_exc)
      (case l_Half_init => first | k_is | kit_is | kts_exm | k_exc)
      (case c_Half_init' => first | k_is | kit_is | kts_exm | k_exc)
      (case k_Half_init' => first | k_is | kit_is | kts_exm | k_exc)
      (case a_Between_init => first | k_is | kit_is | kts_exm | k_exc)
      (case i_Between_init => first | k_is | kit_is | kts_exm | k_exc)
      (case l_Between_init => first | k_is | kit_is | kts_exm | k_exc)
      (case c_Between_init' => first | k_is | kit_is | kts_exm | k_exc)
      (case k_Between_init' => first | k_is | kit_is | kts_exm | k_exc)
      (case z_isinstance => first | k_is | kit_is | kts_exm | k_exc)
      (case z_int => first | k_is | kit_is | kts_exm | k_exc)
      (case z_bool => first | k_is | kit_is | kts_exm | k_exc)
      (case z_tuple => first | k_is | kit_is | kts_exm | k_exc)
      (case z_list => first | k_is | kit_is | kts_exm | k_exc)
      (case z_ValueError => first | k_is | kit_is | kts_exm | k_exc)
      (case z_len => first | k_is | kit_is | kts_exm | k_exc)
      (case z_min => first | k_is | kit_is | kts_exm | k_exc)
      (case z_max => first | k_is | kit_is | kts_exm | k_exc)
      (case z_range => first | k_is | kit_is | kts_exm | k_exc)
      (case z_sum => first | k_is | kit_is | kts_exm | k_exc)
      (case g_GREATEST_Q => first | k_is | kit_is | kts_exm | k_exc)
      (case ga_Rule => first | k_is | kit_is | kts_exm | k_exc)
      (case rd_Rule => first | k_is | kit_is | kts_exm | k_exc)
      (case fn_Rule_init => first | k_is | kit_is | kts_exm | k_exc)
      (case pg_Down => first | k_is | kit_is | kts_exm | k_exc)
      (case hd_Down => first | k_is | kit_is | kts_exm | k_exc)
      (case po_Down => first | k_is | kit_is | kts_exm | k_exc)
      (case sa_Down => first | k_is | kit_is | kts_exm | k_exc)
      (case mk_Down => first | k_is | kit_is | kts_exm | k_exc)
      (case kc_Down => first | k_is | kit_is | kts_exm | k_exc)
      (case hn => first | k_is | kit_is | kts_exm | k_exc)
      (case tk => first | k_is | kit_is | kts_exm | k_exc)
      (case ha_Down => first | k_is | kit_is | kts_exm | k_exc)
      (case ob_Down => first | k_is | kit_is | kts_exm | k_exc)
      (case na_Down_whole => first | k_is | kit_is | kts_exm | k_exc)
      (case mt_Down_mark => first | k_is | kit_is | kts_exm | k_exc)
      (case pg_Half => first | k_is | kit_is | kts_exm | k_exc)
      (case hd_Half => first | k_is | kit_is | kts_exm | k_exc)
      (case po_Half => first | k_is | kit_is | kts_exm | k_exc)
      (case sa_Half => first | k_is | kit_is | kts_exm | k_exc)
      (case mk_Half => first | k_is | kit_is | kts_exm | k_exc)
      (case kc_Half => first | k_is | kit_is | kts_exm | k_exc)
      (case ha_Half => first | k_is | kit_is | kts_exm | k_exc)
      (case ob_Half => first | k_is | kit_is | kts_exm | k_exc)
      (case na_Half_whole => first | k_is | kit_is | kts_exm | k_exc)
      (case mt_Half_mark => first | k_is | kit_is | kts_exm | k_exc)
      (case pg_Between => first | k_is | kit_is | kts_exm | k_exc)
      (case hd_Between => first | k_is | kit_is | kts_exm | k_exc)
      (case po_Between => first | k_is | kit_is | kts_exm | k_exc)
      (case sa_Between => first | k_is | kit_is | kts_exm | k_exc)
      (case mk_Between => first | k_is | kit_is | kts_exm | k_exc)
      (case kc_Between => first | k_is | kit_is | kts_exm | k_exc)
      (case ha_Between => first | k_is | kit_is | kts_exm | k_exc)
      (case ob_Between => first | k_is | kit_is | kts_exm | k_exc)
      (case na_Between_whole => first | k_is | kit_is | kts_exm | k_exc)
      (case mt_Between_mark => first | k_is | kit_is | kts_exm | k_exc)
      (case x_BadRule => first | k_is | kit_is | kts_exm | k_exc)
      (case x_NoVotes => first | k_is | kit_is | kts_exm | k_exc)
      (case ct_NoVotes_DealError => first | k_is | kit_is | kts_exm | k_exc)
      (case gx_NoVotes => first | k_is | kit_is | kts_exm | k_exc)
      (case gt_NoVotes => first | k_is | kit_is | kts_exm | k_exc)
      (case be_NoVotes => first | k_is | kit_is | kts_exm | k_exc)
      (case hx_NoVotes => first | k_is | kit_is | kts_exm | k_exc)
      (case ha_NoVotes => first | k_is | kit_is | kts_exm | k_exc)
      (case ob_NoVotes => first | k_is | kit_is | kts_exm | k_exc)
      (case k_NoVotes_BadLine => first | k_is | kit_is | kts_exm | k_exc)
      (case k_NoVotes_NoTable => first | k_is | kit_is | kts_exm | k_exc)
      (case k_NoVotes_BadRule => first | k_is | kit_is | kts_exm | k_exc)
      (case k_NoVotes_ValueError => first | k_is | kit_is | kts_exm | k_exc)
    obtain ⟨T, e1, hb⟩ := T
    have e := hmg.symm.trans e1
    cases e
    exact ⟨T.fd_law, hb, fun base _ _ => K3.ok_law T⟩
#print axioms PySem.Challenge.cw_seatweave_k03_one_row_holds
