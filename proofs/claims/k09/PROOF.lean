import PyProof.Rows.All
import Wide.All
import OpenK.AllK
import Wide.FinOn
import Lean
import PyProof.EqAt
import PyProof.EqKinds
import PyProof.TupleCall
import PySem.Challenge.RW_seatweave_k09_whole_rounded
set_option Elab.async false
set_option linter.all false
set_option maxRecDepth 100000
/-! THE HAND LAYER, for ints, bools, texts, own classes, LISTS and tuples (index, slices, in, append, pop ..), calls, loops. Paste it whole ahead of your own text; what your proof does not reach may be deleted. -/
namespace L2
open PySem PySem.Spec PyProof.Rows

/-- a key: an int or a str -/
abbrev Key := Sum Int Str
def keyIs : Key → Value → Bool
  | .inl k, v => Value.isInt k v
  | .inr x, v => Value.isStrOf x v
def keyH (w : World) : Key → Int
  | .inl k => hashInt k
  | .inr x => hashStr w x
theorem keyIs_shape : ∀ {k : Key} {v : Value}, keyIs k v = true → (∃ i t, k = Sum.inl i ∧ v = Value.int i t) ∨ (∃ x t, k = Sum.inr x ∧ v = Value.str x t)
  | .inl i, v, h => by
    obtain ⟨t, e⟩ := Value.isInt_shape (k := i) (v := v) h
    exact .inl ⟨i, t, rfl, e⟩
  | .inr x, v, h => by
    obtain ⟨t, e⟩ := Value.isStrOf_shape (x := x) (v := v) h
    exact .inr ⟨x, t, rfl, e⟩
theorem key_ll (a b : Int) : decide ((Sum.inl a : Key) = Sum.inl b) = (a == b) := by
  by_cases e : a = b
  · subst e; simp
  · have h : ¬ (Sum.inl a : Key) = Sum.inl b := fun q => e (Sum.inl.inj q)
    rw [decide_eq_false h]
    exact (beq_eq_false_iff_ne.mpr e).symm
theorem key_rr (a b : Str) : decide ((Sum.inr a : Key) = Sum.inr b) = decide (a = b) := by
  by_cases e : a = b
  · subst e; simp
  · have h : ¬ (Sum.inr a : Key) = Sum.inr b := fun q => e (Sum.inr.inj q)
    rw [decide_eq_false h, decide_eq_false e]
theorem key_lr (a : Int) (b : Str) : decide ((Sum.inl a : Key) = Sum.inr b) = false := decide_eq_false (fun q => nomatch q)
theorem key_rl (a : Str) (b : Int) : decide ((Sum.inr a : Key) = Sum.inl b) = false := decide_eq_false (fun q => nomatch q)

def mixKind (prog : Program) (w : World) : PySem.KeyKind prog w Key where
  is := keyIs
  hash := keyH w
  inj := fun v a b ha hb => by
    rcases keyIs_shape ha with ⟨i, t, rfl, rfl⟩ | ⟨x, t, rfl, rfl⟩
    · rcases keyIs_shape hb with ⟨j, u, rfl, e⟩ | ⟨y, u, rfl, e⟩
      · injection e with e1 _; rw [e1]
      · exact nomatch e
    · rcases keyIs_shape hb with ⟨j, u, rfl, e⟩ | ⟨y, u, rfl, e⟩
      · exact nomatch e
      · injection e with e1 _; rw [e1]
  byValue := fun k v h => by
    rcases keyIs_shape h with ⟨i, t, rfl, rfl⟩ | ⟨x, t, rfl, rfl⟩ <;> rfl
  pyHash := fun hv h => by
    rcases keyIs_shape hv with ⟨i, t, rfl, rfl⟩ | ⟨x, t, rfl, rfl⟩
    · exact wpAny_pyHash_int h
    · exact wpAny_pyHash_str h
  eqBool := fun hu hv h => by
    rcases keyIs_shape hu with ⟨i, t, rfl, rfl⟩ | ⟨x, t, rfl, rfl⟩
    · rcases keyIs_shape hv with ⟨j, u, rfl, rfl⟩ | ⟨y, u, rfl, rfl⟩
      · rw [key_ll] at h; exact wpAny_eqBool_int h
      · rw [key_lr] at h; exact SeqAt.EqAt.int_str i t y u _ _ _ _ h
    · rcases keyIs_shape hv with ⟨j, u, rfl, rfl⟩ | ⟨y, u, rfl, rfl⟩
      · rw [key_rl] at h; exact SeqAt.EqAt.str_int x t j u _ _ _ _ h
      · rw [key_rr] at h; exact wpAny_eqBool_str h
  «strs» := fun k x t v h => by
    rcases keyIs_shape h with ⟨i, u, rfl, e⟩ | ⟨y, u, rfl, e⟩
    · exact nomatch e
    · injection e with e1 _
      subst e1
      cases v <;> rfl

end L2

namespace L2
open PySem PySem.Spec PyProof.Rows

/-- a value, without the heap -/
inductive V where
  | non | bl (b : Bool) | int (i : Int) | str (x : Str) | byt (b : Array UInt8) | flt (b : UInt64) | ref (a : Addr) | ty (n : String)
  deriving DecidableEq

def RelV : V → Value → Prop
  | .non, u => u = Value.none
  | .bl b, u => u = Value.bool b
  | .int i, u => ∃ t, u = Value.int i t
  | .str x, u => ∃ t, u = Value.str x t
  | .byt b, u => ∃ t, u = Value.bytes b t
  | .flt b, u => ∃ t, u = Value.float b t
  | .ref a, u => u = Value.ref a
  | .ty n, u => u = Value.type n

abbrev Vals : List V → List Value → Prop := Paired RelV
theorem Vals.length {xs : List V} {us : List Value} (r : Vals xs us) : xs.length = us.length := Paired.length r
theorem Vals.get : ∀ {xs : List V} {us : List Value} {i : Nat} {x : V}, Vals xs us → xs[i]? = some x → ∃ u, us[i]? = some u ∧ RelV x u
  | _, _, _, _, .nil, e => by simp at e
  | _, _, 0, _, .cons r _, e => by simp at e; subst e; exact ⟨_, rfl, r⟩
  | _, _, i + 1, x, .cons _ t, e => by
    obtain ⟨u, h1, h2⟩ := Vals.get (i := i) (x := x) t (by simpa using e)
    exact ⟨u, by simpa using h1, h2⟩
theorem Vals.set {x : V} {u : Value} (r : RelV x u) : ∀ {xs : List V} {us : List Value} (i : Nat), Vals xs us → Vals (xs.set i x) (us.set i u)
  | _, _, _, .nil => .nil
  | _, _, 0, .cons _ t => .cons r t
  | _, _, i + 1, .cons q t => .cons q (Vals.set r i t)
theorem Vals.append : ∀ {xs ys : List V} {us ws : List Value}, Vals xs us → Vals ys ws → Vals (xs ++ ys) (us ++ ws)
  | _, _, _, _, .nil, s => s
  | _, _, _, _, .cons r t, s => .cons r (Vals.append t s)
theorem Vals.take : ∀ {xs : List V} {us : List Value} (n : Nat), Vals xs us → Vals (xs.take n) (us.take n)
  | _, _, 0, _ => .nil
  | _, _, _ + 1, .nil => .nil
  | _, _, n + 1, .cons r t => .cons r (Vals.take n t)
theorem Vals.drop : ∀ {xs : List V} {us : List Value} (n : Nat), Vals xs us → Vals (xs.drop n) (us.drop n)
  | _, _, 0, r => r
  | _, _, _ + 1, .nil => .nil
  | _, _, n + 1, .cons _ t => Vals.drop n t
theorem Vals.none_of : ∀ {xs : List V} {us : List Value} {i : Nat}, Vals xs us → xs[i]? = none → us[i]? = none := fun {xs us i} r e => by
  have h1 := r.length
  have h2 : xs.length ≤ i := List.getElem?_eq_none_iff.mp e
  exact List.getElem?_eq_none_iff.mpr (by omega)

def RelO : Option V → Option Value → Prop
  | some v, some u => RelV v u
  | none, none => True
  | _, _ => False
def KV {κ : Type} : List (κ × V) → List (κ × Value) → Prop := Paired fun (p : κ × V) (q : κ × Value) => p.1 = q.1 ∧ RelV p.2 q.2

/-- a key of a dict (00_mix): an int or a text -/
def kV : Key → V
  | .inl i => .int i
  | .inr x => .str x

/-- what stands at a tracked address -/
inductive HO where
  /-- a list -/
  | lst (xs : List V)
  /-- a tuple (never changes) -/
  | tup (xs : List V)
  /-- a dict whose keys are ints and texts; one whose keys are tuples of ints and texts (the empty one is both) -/
  | dK (kvs : List (Key × V)) | dT (kvs : List (List Key × V))
  /-- a set of ints: its members, its size -/
  | set (S : Int → Bool) (n : Nat)
  /-- an instance of the class at C, its dict at dx, its attributes -/
  | ins (C dx : Addr) (fs : List (Str × V))
  /-- the dict of the instance at x -/
  | own (x : Addr)
  /-- the dict of an exception -/
  | xd (fs : List (Str × V))
  /-- a bound method, f of x -/
  | met (f x : Addr)
  /-- a range object lo, lo + 1, .. below hi -/
  | rng (lo hi : Int)
  /-- a thing that is known to the object (the script; a dict while a loop walks it): read, never written while it is so -/
  | frz (o : Obj) (u : HO)
  /-- a code object's table -/
  | tbl (ps : Array Value)
  /-- any other thing, by what is true of its one object (a def of one's own: SetO a S n := HO.ext fun h => ..) -/
  | ext (φ : Heap → Prop)

abbrev Hp := Addr → Option HO
def upd (H : Hp) (a : Addr) (o : HO) : Hp := fun b => if b = a then some o else H b
theorem upd_same {H : Hp} {a : Addr} {o : HO} : upd H a o a = some o := by unfold upd; rw [if_pos rfl]
theorem upd_ne {H : Hp} {a b : Addr} {o : HO} (h : b ≠ a) : upd H a o b = H b := by unfold upd; rw [if_neg h]
theorem ne_of_none {H : Hp} {a b : Addr} {o : HO} (h : H a = some o) (h' : H b = none) : a ≠ b := by
  intro e; subst e; rw [h] at h'; cases h'

section
variable (P : Program) (w : World)
def ObjOk (H : Hp) (h : Heap) (a : Addr) : HO → Prop
  | .lst xs => xs.length ≤ sizeLine ∧ ∃ (its : List Value) (n : Nat), Vals xs its ∧ h.get? a = some { cls := .type "list", data := .seq its.toArray n }
  | .tup xs => xs.length ≤ sizeLine ∧ ∃ its : List Value, Vals xs its ∧ IsTup h a its.toArray
  | .dK kvs => kvs.length ≤ sizeLine ∧ (a == sysModules) = false ∧ ∃ vs, KV kvs vs ∧ h.DictOf (mixKind P w) a vs
  | .dT kvs => kvs.length ≤ sizeLine ∧ (a == sysModules) = false ∧ ∃ xs : List (List Key × Addr × Value),
      Paired (fun (p : List Key × V) (q : List Key × Addr × Value) => p.1 = q.1 ∧ H q.2.1 = some (.tup (p.1.map kV)) ∧ RelV p.2 q.2.2) kvs xs ∧
      ∃ o es ep, h.get? a = some o ∧ o.ExactDict ∧ o.data = .dict es ep ∧ es.toList = xs.map (entryOfKey (tupleKind (mixKind P w))) ∧ (xs.map (·.1)).Nodup
  | .set S n => h.SetOf (intKind P w) a S n
  | .ins C dx fs => H dx = some (.own a) ∧ fs.length ≤ 1000 ∧ dx ≠ a ∧ h.get? a = some (PySem.W.instObj C dx) ∧
      ∃ mA, h.Ns1 dx mA ∧ (∀ f, RelO (fs.lookup f) (mA f)) ∧ PySem.Within mA (fs.map (·.1))
  | .own _ => ∃ o, h.get? a = some o
  | .xd fs => ∃ mA, h.Ns1 a mA ∧ ∀ f, RelO (fs.lookup f) (mA f)
  | .rng lo hi => ∃ t u v, h.get? a = some { cls := .type "range", data := .fields #[.int lo t, .int hi u, .int 1 v] }
  | .frz o u => h.get? a = some o ∧ ObjOk H h a u
  | .tbl ps => h.get? a = some { cls := .none, data := .fields ps }
  | .met f x => h.get? a = some (PySem.W.methodObj (.ref f) (.ref x))
  | .ext φ => φ h ∧ (∃ o, h.get? a = some o) ∧ ∀ h1 h2 : Heap, φ h1 → (∀ o, h1.get? a = some o → h2.get? a = some o) → φ h2
/-- the abstract heap is held -/
def HOk (H : Hp) (h : Heap) : Prop := ∀ a o, H a = some o → ObjOk P w H h a o
end

section
variable {P : Program} {w : World} {H H' : Hp} {h h' : Heap} {a : Addr} {o : HO}
theorem ObjOk.lt (x : ObjOk P w H h a o) : a < h.objs.size := by
  cases o with
  | lst xs => obtain ⟨_, _, _, _, e⟩ := x; exact Heap.lt_size e
  | tup xs => obtain ⟨_, _, _, p⟩ := x; exact p.lt
  | dK kvs => obtain ⟨_, _, _, _, o, _, _, e, _⟩ := x; exact Heap.lt_size e
  | dT kvs => obtain ⟨_, _, _, _, o, _, _, e, _⟩ := x; exact Heap.lt_size e
  | set S n => obtain ⟨o, _, _, _, e, _⟩ := x; exact Heap.lt_size e
  | ins C dx fs => obtain ⟨_, _, _, e, _⟩ := x; exact Heap.lt_size e
  | own y => obtain ⟨_, e⟩ := x; exact Heap.lt_size e
  | xd fs => obtain ⟨_, ⟨_, _, _, e, _⟩, _⟩ := x; exact Heap.lt_size e
  | rng lo hi => obtain ⟨_, _, _, e⟩ := x; exact Heap.lt_size e
  | frz ob u => obtain ⟨e, _⟩ := x; exact Heap.lt_size e
  | tbl ps => exact Heap.lt_size (show h.get? a = some _ from x)
  | met f y => exact Heap.lt_size (show h.get? a = some _ from x)
  | ext φ => obtain ⟨_, ⟨_, e⟩, _⟩ := x; exact Heap.lt_size e
theorem Paired.mapP {α β : Type} {F G : α → β → Prop} : ∀ {l₁ : List α} {l₂ : List β}, Paired F l₁ l₂ → (∀ a b, F a b → G a b) → Paired G l₁ l₂
  | _, _, .nil, _ => .nil
  | _, _, .cons r t, f => .cons (f _ _ r) (Paired.mapP t f)
/-- what an object's description leans on: its own object, its own dict, the tuples -/
theorem ObjOk.stay (x : ObjOk P w H h a o) (k : ∀ b u, (b = a ∨ H b = some (.own a)) → h.get? b = some u → h'.get? b = some u)
    (ho : ∀ b, H b = some (.own a) → H' b = some (.own a)) (ht : ∀ b xs, H b = some (.tup xs) → H' b = some (.tup xs)) : ObjOk P w H' h' a o := by
  induction o with
  | lst xs => obtain ⟨z, its, n, r, e⟩ := x; exact ⟨z, its, n, r, k _ _ (.inl rfl) e⟩
  | tup xs => obtain ⟨z, its, r, ob, e, c⟩ := x; exact ⟨z, its, r, ob, k _ _ (.inl rfl) e, c⟩
  | dK kvs => obtain ⟨z, y, vs, r, ob, es, ep, e, c⟩ := x; exact ⟨z, y, vs, r, ob, es, ep, k _ _ (.inl rfl) e, c⟩
  | dT kvs =>
    obtain ⟨z, y, xs, r, ob, es, ep, e, c⟩ := x
    exact ⟨z, y, xs, Paired.mapP r fun p q z => ⟨z.1, ht _ _ z.2.1, z.2.2⟩, ob, es, ep, k _ _ (.inl rfl) e, c⟩
  | set S n => obtain ⟨ob, es, ep, t, e, c⟩ := x; exact ⟨ob, es, ep, t, k _ _ (.inl rfl) e, c⟩
  | ins C dx fs =>
    obtain ⟨d, z, ne, e, mA, ⟨od, es, ep, e2, c⟩, r⟩ := x
    exact ⟨ho _ d, z, ne, k _ _ (.inl rfl) e, mA, ⟨od, es, ep, k _ _ (.inr d) e2, c⟩, r⟩
  | own y => obtain ⟨ob, e⟩ := x; exact ⟨ob, k _ _ (.inl rfl) e⟩
  | xd fs => obtain ⟨mA, ⟨od, es, ep, e, c⟩, r⟩ := x; exact ⟨mA, ⟨od, es, ep, k _ _ (.inl rfl) e, c⟩, r⟩
  | rng lo hi => obtain ⟨t, u, v, e⟩ := x; exact ⟨t, u, v, k _ _ (.inl rfl) e⟩
  | frz ob u ih => obtain ⟨e, q⟩ := x; exact ⟨k _ _ (.inl rfl) e, ih q⟩
  | tbl ps =>
    have e : h.get? a = some { cls := .none, data := .fields ps } := x
    show h'.get? a = some { cls := .none, data := .fields ps }
    exact k a _ (.inl rfl) e
  | met f y =>
    have e : h.get? a = some (PySem.W.methodObj (.ref f) (.ref y)) := x
    show h'.get? a = some (PySem.W.methodObj (.ref f) (.ref y))
    exact k a _ (.inl rfl) e
  | ext φ => obtain ⟨p, ⟨o, e⟩, st⟩ := x; exact ⟨st _ _ p fun o q => k _ _ (.inl rfl) q, ⟨o, k _ _ (.inl rfl) e⟩, st⟩
theorem HOk.lt (x : HOk P w H h) (e : H a = some o) : a < h.objs.size := (x a o e).lt
theorem HOk.fresh (x : HOk P w H h) (e : h.objs.size ≤ a) : H a = none := by
  cases q : H a with
  | none => rfl
  | some u => exact absurd (Nat.lt_of_lt_of_le (x.lt q) e) (Nat.lt_irrefl _)
/-- every object of the heap is kept -/
theorem HOk.kept (x : HOk P w H h) (k : ∀ b u, h.get? b = some u → h'.get? b = some u) : HOk P w H h' := fun a o e =>
  (x a o e).stay (fun b u _ q => k b u q) (fun _ q => q) fun _ _ q => q
/-- a new object is laid and tracked -/
theorem HOk.laid (x : HOk P w H h) (k : ∀ b u, h.get? b = some u → h'.get? b = some u) (hp : h.objs.size ≤ a) (new : ObjOk P w (upd H a o) h' a o) : HOk P w (upd H a o) h' := fun b u e => by
  have hn := x.fresh hp
  by_cases hb : b = a
  · subst hb; rw [upd_same] at e; cases e; exact new
  · rw [upd_ne hb] at e
    exact (x b u e).stay (fun c v _ q => k c v q) (fun c q => by rw [upd_ne (ne_of_none q hn)]; exact q) fun c xs q => by rw [upd_ne (ne_of_none q hn)]; exact q
end

/-- what may be read as u: it is u, or a known u -/
def Rd (H : Hp) (a : Addr) (u : HO) : Prop := H a = some u ∨ ∃ o, H a = some (.frz o u)
theorem Rd.ok {P : Program} {w : World} {H : Hp} {h : Heap} {a : Addr} {u : HO} (r : Rd H a u) (x : HOk P w H h) : ObjOk P w H h a u := by
  rcases r with r | ⟨o, r⟩
  · exact x a u r
  · obtain ⟨_, q⟩ := x a _ r
    exact q
/-- what may be written -/
def Mut : Option HO → Prop
  | some (.lst _) => True
  | some (.dK _) => True
  | some (.dT _) => True
  | some (.set _ _) => True
  | some (.ins _ _ _) => True
  | some (.ext _) => True
  | _ => False
section
variable {P : Program} {w : World} {H : Hp} {h h' : Heap} {x e : Addr} {o' : HO}
/-- the object at e is changed: x itself, or the dict of the instance x -/
theorem HOk.write (ok : HOk P w H h) (mu : Mut (H x)) (he : e = x ∨ H e = some (.own x)) (k : ∀ b u, b ≠ e → h.get? b = some u → h'.get? b = some u) (heo : ∃ u, h'.get? e = some u)
    (new : ObjOk P w (upd H x o') h' x o') : HOk P w (upd H x o') h' := fun b u q => by
  have nown : ∀ c y, H c = some (.own y) → c ≠ x := fun c y r z => by subst z; rw [r] at mu; exact mu
  have ntup : ∀ c xs, H c = some (.tup xs) → c ≠ x := fun c xs r z => by subst z; rw [r] at mu; exact mu
  by_cases hb : b = x
  · subst hb; rw [upd_same] at q; cases q; exact new
  · rw [upd_ne hb] at q
    by_cases hbe : b = e
    · have q' : H b = some (.own x) := by
        rcases he with z | z
        · exact absurd (hbe.trans z) hb
        · rw [hbe]; exact z
      rw [q] at q'; cases q'
      obtain ⟨v, hv⟩ := heo
      exact ⟨v, by rw [hbe]; exact hv⟩
    · refine (ok b u q).stay (fun c v hc r => k c v ?_ r) (fun c r => by rw [upd_ne (nown c b r)]; exact r) fun c xs r => by rw [upd_ne (ntup c xs r)]; exact r
      rcases hc with rfl | hc
      · exact hbe
      · rintro rfl
        rcases he with z | z
        · exact nown c b hc z
        · rw [hc] at z; cases z; exact hb rfl
end

/-! ### kept unless tracked; of the frames at fs (the callers') the slots may change (an exception that passes writes there); of the records at ex (iterators) nothing is said -/
structure Un (fs ex : List Addr) (H H' : Hp) (h h' : Heap) : Prop where
  keep : ∀ b o, h.get? b = some o → H b = none → b ∉ fs → b ∉ ex → h'.get? b = some o
  slot : ∀ b o, h.get? b = some o → H b = none → b ∈ fs → b ∉ ex → ∃ sl, h'.get? b = some { o with slots := sl }
  free : ∀ b o, h.get? b = some o → H b = none → b ∉ ex → H' b = none
  there : ∀ b o, h.get? b = some o → b ∉ ex → ∃ o', h'.get? b = some o'
  tups : ∀ b xs, H b = some (.tup xs) → H' b = some (.tup xs)
  frzs : ∀ b o u, H b = some (.frz o u) → H' b = some (.frz o u)
  tbls : ∀ b ps, H b = some (.tbl ps) → ∃ more, H' b = some (.tbl (ps ++ more))
section
variable {fs fs' ex ex' : List Addr} {H H1 H2 : Hp} {h h1 h2 h' : Heap} {a x e : Addr} {o : HO}
theorem Un.any (u : Un fs ex H H1 h h1) {b : Addr} {ob : Obj} (q : h.get? b = some ob) (n : H b = none) (hx : b ∉ ex) : ∃ sl, h1.get? b = some { ob with slots := sl } := by
  by_cases hb : b ∈ fs
  · exact u.slot b ob q n hb hx
  · exact ⟨ob.slots, u.keep b ob q n hb hx⟩
theorem Un.kept (k : ∀ b u, h.get? b = some u → h'.get? b = some u) : Un fs ex H H h h' :=
  ⟨fun b ob q _ _ _ => k b ob q, fun b ob q _ _ _ => ⟨ob.slots, k b ob q⟩, fun _ _ _ n _ => n, fun b ob q _ => ⟨ob, k b ob q⟩, fun _ _ q => q, fun _ _ _ q => q, fun _ ps q => ⟨#[], by rw [q]; simp⟩⟩
theorem Un.refl : Un fs ex H H h h := Un.kept fun _ _ q => q
theorem Un.laid (k : ∀ b u, h.get? b = some u → h'.get? b = some u) (hp : h.objs.size ≤ a) (hn : H a = none) : Un fs ex H (upd H a o) h h' where
  keep := fun b u q _ _ _ => k b u q
  slot := fun b u q _ _ _ => ⟨u.slots, k b u q⟩
  free := fun b u q n _ => by rw [upd_ne (Nat.ne_of_lt (Nat.lt_of_lt_of_le (Heap.lt_size q) hp))]; exact n
  there := fun b u q _ => ⟨u, k b u q⟩
  tups := fun b xs q => by rw [upd_ne (ne_of_none q hn)]; exact q
  frzs := fun b u xs q => by rw [upd_ne (ne_of_none q hn)]; exact q
  tbls := fun b ps q => ⟨#[], by rw [upd_ne (ne_of_none q hn), q]; simp⟩
theorem Un.write (mu : Mut (H x)) (he : e = x ∨ H e = some (.own x)) (k : ∀ b u, b ≠ e → h.get? b = some u → h'.get? b = some u) (heo : ∃ u, h'.get? e = some u) : Un fs ex H (upd H x o) h h' := by
  have hx : ∀ b, H b = none → b ≠ x := fun b n z => by subst z; rw [n] at mu; exact mu
  have hb : ∀ b, H b = none → b ≠ e := fun b n z => by
    subst z
    rcases he with r | r
    · exact hx b n r
    · rw [n] at r; cases r
  have hm : ∀ b u, H b = some u → ¬ Mut (some u) → b ≠ x := fun b u q nm z => by subst z; rw [q] at mu; exact nm mu
  refine ⟨fun b u q n _ _ => k b u (hb b n) q, fun b u q n _ _ => ⟨u.slots, k b u (hb b n) q⟩, fun b u q n _ => by rw [upd_ne (hx b n)]; exact n, fun b u q _ => ?_,
    fun b xs q => by rw [upd_ne (hm b _ q fun z => z)]; exact q, fun b u xs q => by rw [upd_ne (hm b _ q fun z => z)]; exact q, fun b ps q => ⟨#[], by rw [upd_ne (hm b _ q fun z => z), q]; simp⟩⟩
  by_cases hbe : b = e
  · subst hbe; exact heo
  · exact ⟨u, k b u hbe q⟩
end

/-! ### the heap without what is tracked -/
def trk (h : Heap) (H : Hp) : List Addr := (List.range h.objs.size).filter fun a => (H a).isSome
def hidT (h : Heap) (H : Hp) : Heap := PySem.W.hideAll h (trk h H)
theorem hidT_size (h : Heap) (H : Hp) : (hidT h H).objs.size = h.objs.size := PySem.W.hideAll_size _ _
theorem hidT_get {h : Heap} {H : Hp} {b : Addr} {o : Obj} (e : h.get? b = some o) (n : H b = none) : (hidT h H).get? b = some o :=
  PySem.W.hideAll_get _ e fun hm => by
    have q : (H b).isSome = true := (List.mem_filter.mp hm).2
    rw [n] at q; simp at q
theorem of_hidT {h : Heap} {H : Hp} {b : Addr} {o : Obj} (e : (hidT h H).get? b = some o) : h.get? b = some o ∧ H b = none := by
  have e' : h.get? b = some o := PySem.W.of_hideAll (trk h H) e
  refine ⟨e', ?_⟩
  cases q : H b with
  | none => rfl
  | some x =>
    have hm : b ∈ trk h H := List.mem_filter.mpr ⟨List.mem_range.mpr (Heap.lt_size e'), by simp [q]⟩
    have z : (hidT h H).get? b = none := PySem.W.hideAll_none (trk h H) hm
    rw [z] at e; cases e

/-! ### OpenK's ledger, filled with every new object but one -/
def allNews (g h : Heap) (L : Addr) : List (Addr × Obj) := (List.range h.objs.size).filterMap fun a => if a = L ∨ (g.get? a).isSome = true then none else (h.get? a).map fun o => (a, o)
def rest (g h : Heap) (L d : Addr) : List (Addr × Obj) := (allNews g h L).filter fun p => decide (p.1 ≠ d)
end L2

namespace L2
open PySem PySem.Spec PyProof.Rows

/-- the module's facts, over the base: the heap at the law's entry without what is tracked there -/
structure Mod (K : PySem.W.Frag) (mg : Str → Option Value) (base : Heap) : Prop where
  kin : K.In base
  glob : base.Ns mainGlobals mg
  blt : ∃ mb, base.Ns builtinsNs mb ∧ ∀ x : Str, x ≠ "__name__" → mb x = bootBuiltins x
  nolimit : base.NoLimit

/-- the context: a def's body (or a comprehension's block) running. base: fixed through the whole law; s₀, H₀: the entry; outer: the frames whose slots others may change (a def's callers); stack: all frames that run;
   ex: iterators that were made ahead of the entry and are walked here (a comprehension's); fn: the names whose cells were made at the entry (a def: all; a comprehension's block: its own); calm: not within an except suite; pn: pins that every state bears; xe: what is wanted of an exception that leaves the code -/
structure Cx where
  prog : Program
  w : World
  K : PySem.W.Frag
  mg : Str → Option Value
  base : Heap
  A : Around
  N : List Str
  s₀ : Shared
  H₀ : Hp
  env : Env
  outer : List Env
  stack : List Env
  ex : List Addr
  fn : Str → Bool
  calm : Bool
  pn : List (Addr × Obj)
  xe : Value → Shared → Prop
/-- the callers' frames -/
def frs (l : List Env) : List Addr := l.filterMap (·.frame)
abbrev Cx.fs (X : Cx) : List Addr := frs X.outer

def Vis (sc : Scope) (x : Str) : Prop := sc.names.lookup x = some .local ∨ sc.names.lookup x = some .cell ∨ sc.names.lookup x = some .free
def Loc (sc : Scope) (x : Str) : Prop := sc.names.lookup x = some .local ∨ sc.names.lookup x = some .cell
def Look (env : Env) (h : Heap) (m : Str → Option Value) (x : Str) (u : Value) : Prop :=
  (env.kindOf x = some .local ∧ m x = some u) ∨ ((env.kindOf x = some .cell ∨ env.kindOf x = some .free) ∧ ∃ c, env.cells.lookup x = some c ∧ h.IsCell c (some u))

structure Cx.Ok (X : Cx) : Prop where
  mod : Mod X.K X.mg X.base
  kind : X.env.scope.kind = .function
  glob : X.env.globals = mainGlobals
  blt : X.env.builtins = builtinsNs
  above : X.s₀.heap.objs.size ≤ X.env.locals
  inj : ∀ x y c, X.env.cells.lookup x = some c → X.env.cells.lookup y = some c → x = y
  has : ∀ x, (X.env.kindOf x = some .cell ∨ X.env.kindOf x = some .free) → ∃ c, X.env.cells.lookup x = some c
  cab : ∀ x c, X.fn x = true → X.env.cells.lookup x = some c → X.s₀.heap.objs.size ≤ c
  hd : X.calm = true → X.A.handled = none
  frames : X.A.frames = some X.stack
  stk : X.stack = X.outer ∨ (X.stack = X.env :: X.outer ∧ X.env.frame = some X.env.locals)
  exf : ∀ b ∈ X.ex, b ≠ X.env.locals ∧ ∀ x c, X.env.cells.lookup x = some c → c ≠ b
  bs : ∀ b o, X.base.get? b = some o → X.s₀.heap.get? b = some o ∧ X.H₀ b = none
  bsz : X.base.objs.size ≤ X.s₀.heap.objs.size
  noex : ∀ b o, X.base.get? b = some o → b ∉ X.ex
  exfs : ∀ b ∈ X.ex, b ∉ X.fs
  funs : X.s₀.heap.FunFrames X.base X.outer
  frf : ∀ b ∈ X.fs, X.H₀ b = none

structure Inv (X : Cx) (pins : List (Addr × Obj)) (σ : List (Option V)) (H : Hp) (s : Shared) : Prop where
  ok : X.Ok
  os : s.os = X.s₀.os
  bare : AllBare s.gens
  base : Un X.fs X.ex X.H₀ H X.s₀.heap s.heap
  loc : ∃ m, s.heap.Ns X.env.locals m ∧ ∀ (i : Nat) (x : Str) (v : V), X.N[i]? = some x → σ[i]? = some (some v) → Vis X.env.scope x → ∃ u, RelV v u ∧ Look X.env s.heap m x u
  cell : ∀ x c, X.env.cells.lookup x = some c → ∃ v, s.heap.IsCell c v
  free : H X.env.locals = none
  freeC : ∀ x c, X.env.cells.lookup x = some c → H c = none
  pin : ∀ p ∈ X.pn ++ pins, s.heap.get? p.1 = some p.2 ∧ H p.1 = none ∧ p.1 ≠ X.env.locals ∧ p.1 ∉ X.fs ∧ ∀ v, p.2.data ≠ .cell v
  hok : HOk X.prog X.w H s.heap
  len : σ.length = X.N.length

section
variable {X : Cx} {pins : List (Addr × Obj)} {σ : List (Option V)} {H H' : Hp} {s : Shared} {h' : Heap}

theorem Cx.Ok.nofr (ok : X.Ok) {b : Addr} {o : Obj} (e : X.base.get? b = some o) : b ∉ X.fs := fun hb => by
  have := (ok.funs.mem hb).1
  rw [e] at this; cases this
theorem Inv.bs (I : Inv X pins σ H s) : ∀ b o, X.base.get? b = some o → s.heap.get? b = some o ∧ H b = none := fun b o e =>
  ⟨I.base.keep b o (I.ok.bs b o e).1 (I.ok.bs b o e).2 (I.ok.nofr e) (I.ok.noex b o e), I.base.free b o (I.ok.bs b o e).1 (I.ok.bs b o e).2 (I.ok.noex b o e)⟩
theorem Inv.bk (I : Inv X pins σ H s) : ∀ b o, X.base.get? b = some o → s.heap.get? b = some o := fun b o e => (I.bs b o e).1
theorem Inv.mod (I : Inv X pins σ H s) : Mod X.K X.mg X.base := I.ok.mod
theorem Inv.kIn (I : Inv X pins σ H s) : X.K.In s.heap := I.ok.mod.kin.keeps I.bk
theorem Inv.lt (I : Inv X pins σ H s) : X.env.locals < s.heap.objs.size := let ⟨_, hn, _⟩ := I.loc; hn.lt
theorem Inv.sz (I : Inv X pins σ H s) : X.s₀.heap.objs.size ≤ s.heap.objs.size := Nat.le_trans I.ok.above (Nat.le_of_lt I.lt)
theorem Inv.nofs (I : Inv X pins σ H s) {a : Addr} (h : s.heap.objs.size ≤ a) : a ∉ X.fs := fun hb => by
  obtain ⟨_, o, ho, _⟩ := I.ok.funs.mem hb
  exact absurd (Nat.lt_of_lt_of_le (Heap.lt_size ho) (Nat.le_trans I.sz h)) (Nat.lt_irrefl _)
theorem Inv.cne (I : Inv X pins σ H s) : ∀ x c, X.env.cells.lookup x = some c → c ≠ X.env.locals := fun x c e z => by
  obtain ⟨v, o, ho, hd⟩ := I.cell x c e
  obtain ⟨m, ⟨o', es, ep, ho', hd', _⟩, _⟩ := I.loc
  rw [z, ho'] at ho; cases ho; rw [hd'] at hd; cases hd
theorem Inv.funs (I : Inv X pins σ H s) : s.heap.FunFrames X.base X.outer := by
  have all : ∀ (l : List Env), (∀ b ∈ frs l, b ∈ X.fs) → X.s₀.heap.FunFrames X.base l → s.heap.FunFrames X.base l := by
    intro l
    induction l with
    | nil => intro _ _; trivial
    | cons env r ih =>
      intro hs hl
      obtain ⟨hk, ⟨L, o, hf, hn, ho, hd⟩, hr⟩ := hl
      have hL : L ∈ X.fs := hs L (by unfold frs; rw [List.filterMap_cons, hf]; exact List.mem_cons_self)
      obtain ⟨sl, e⟩ := I.base.slot L o ho (I.ok.frf L hL) hL fun z => I.ok.exfs L z hL
      exact ⟨hk, ⟨L, _, hf, hn, e, hd⟩, ih (fun b hb => hs b (by unfold frs; rw [List.filterMap_cons, hf]; exact List.mem_cons_of_mem _ hb)) hr⟩
  exact all X.outer (fun _ hb => hb) I.ok.funs

/-- the frames that run, for a call -/
theorem Inv.stack (I : Inv X pins σ H s) : s.heap.FunFrames X.base X.stack := by
  rcases I.ok.stk with e | ⟨e, hf⟩
  · rw [e]; exact I.funs
  · rw [e]
    obtain ⟨m, hn, _⟩ := I.loc
    refine .cons (by rw [I.ok.kind]; decide) hf hn ?_ I.funs
    exact Heap.get?_none_of_le (Nat.le_trans I.ok.bsz I.ok.above)
theorem Inv.stkSub (I : Inv X pins σ H s) : ∀ b ∈ frs X.stack, b ∈ X.env.locals :: X.fs := fun b hb => by
  rcases I.ok.stk with e | ⟨e, hf⟩
  · rw [e] at hb; exact List.mem_cons_of_mem _ hb
  · rw [e] at hb
    unfold frs at hb
    rw [List.filterMap_cons, hf] at hb
    exact hb
theorem Inv.stkFree (I : Inv X pins σ H s) : ∀ b ∈ frs X.stack, H b = none := fun b hb => by
  rcases List.mem_cons.mp (I.stkSub b hb) with e | hb
  · rw [e]; exact I.free
  · obtain ⟨_, o, ho, _⟩ := I.ok.funs.mem hb
    exact I.base.free b o ho (I.ok.frf b hb) fun z => I.ok.exfs b z hb

/-- THE STEP: the untracked objects but the frame and the records at ch are kept (the callers' frames up to slots), the frame's map is kept, the new abstract heap is held -/
theorem Inv.step {g' : Array GenState} {t' : Nat} {d' : Drawn} {ch : List Addr} (I : Inv X pins σ H s)
    (hch : ∀ b ∈ ch, (b ∈ X.ex ∨ X.s₀.heap.objs.size ≤ b) ∧ b ≠ X.env.locals ∧ (∀ x c, X.env.cells.lookup x = some c → c ≠ b) ∧ ∀ p ∈ X.pn ++ pins, p.1 ≠ b)
    (keep : ∀ b o, b ≠ X.env.locals → b ∉ X.fs → b ∉ ch → s.heap.get? b = some o → H b = none → h'.get? b = some o)
    (slot : ∀ b o, b ≠ X.env.locals → b ∈ X.fs → b ∉ ch → s.heap.get? b = some o → H b = none → ∃ sl, h'.get? b = some { o with slots := sl }) (free : ∀ b o, b ∉ ch → s.heap.get? b = some o → H b = none → H' b = none)
    (there : ∀ b o, b ∉ ch → s.heap.get? b = some o → ∃ o', h'.get? b = some o')
    (tups : ∀ b xs, H b = some (.tup xs) → H' b = some (.tup xs)) (frzs : ∀ b o u, H b = some (.frz o u) → H' b = some (.frz o u)) (tbls : ∀ b ps, H b = some (.tbl ps) → ∃ more, H' b = some (.tbl (ps ++ more)))
    (ns : ∀ m, s.heap.Ns X.env.locals m → h'.Ns X.env.locals m) (hok : HOk X.prog X.w H' h') (hg : AllBare g') :
    Inv X pins σ H' { s with heap := h', gens := g', drawn := d', toks := t' } := by
  have neL : ∀ b o, X.s₀.heap.get? b = some o → b ≠ X.env.locals := fun b o e => Nat.ne_of_lt (Nat.lt_of_lt_of_le (Heap.lt_size e) I.ok.above)
  have neC : ∀ b o, X.s₀.heap.get? b = some o → b ∉ X.ex → b ∉ ch := fun b o e hx hb => by
    rcases (hch b hb).1 with z | z
    · exact hx z
    · exact absurd (Nat.lt_of_lt_of_le (Heap.lt_size e) z) (Nat.lt_irrefl _)
  have cellK : ∀ x c, X.env.cells.lookup x = some c → ∀ v, s.heap.IsCell c v → h'.IsCell c v := fun x c e v ⟨o, ho, hd⟩ => by
    have nch : c ∉ ch := fun z => (hch c z).2.2.1 x c e rfl
    by_cases hc : c ∈ X.fs
    · obtain ⟨sl, q⟩ := slot c o (I.cne x c e) hc nch ho (I.freeC x c e)
      exact ⟨_, q, hd⟩
    · exact ⟨o, keep c o (I.cne x c e) hc nch ho (I.freeC x c e), hd⟩
  refine ⟨I.ok, I.os, hg, ⟨fun b o e n hb hx => ?_, fun b o e n hb hx => ?_, fun b o e n hx => ?_, fun b o e hx => ?_, fun b xs e => tups b xs (I.base.tups b xs e), fun b o xs e => frzs b o xs (I.base.frzs b o xs e), fun b ps e => ?_⟩, ?_, fun x c e => ?_, ?_, fun x c e => ?_, fun p hp => ?_, hok, I.len⟩
  · exact keep b o (neL b o e) hb (neC b o e hx) (I.base.keep b o e n hb hx) (I.base.free b o e n hx)
  · obtain ⟨sl, e1⟩ := I.base.slot b o e n hb hx
    obtain ⟨sl', e2⟩ := slot b _ (neL b o e) hb (neC b o e hx) e1 (I.base.free b o e n hx)
    exact ⟨sl', e2⟩
  · obtain ⟨o', e1⟩ := I.base.there b o e hx
    exact free b o' (neC b o e hx) e1 (I.base.free b o e n hx)
  · obtain ⟨o', e1⟩ := I.base.there b o e hx
    exact there b o' (neC b o e hx) e1
  · obtain ⟨m1, e1⟩ := I.base.tbls b ps e
    obtain ⟨m2, e2⟩ := tbls b _ e1
    exact ⟨m1 ++ m2, by rw [e2, Array.append_assoc]⟩
  · obtain ⟨m, hn, hl⟩ := I.loc
    refine ⟨m, ns m hn, fun i x v e1 e2 e3 => ?_⟩
    obtain ⟨u, r, l⟩ := hl i x v e1 e2 e3
    refine ⟨u, r, ?_⟩
    rcases l with l | ⟨k, c, e, z⟩
    · exact .inl l
    · exact .inr ⟨k, c, e, cellK x c e _ z⟩
  · obtain ⟨v, z⟩ := I.cell x c e
    exact ⟨v, cellK x c e v z⟩
  · obtain ⟨m, ⟨o, _, _, ho, _⟩, _⟩ := I.loc
    exact free _ o (fun z => (hch _ z).2.1 rfl) ho I.free
  · obtain ⟨v, o, ho, hd⟩ := I.cell x c e
    exact free c o (fun z => (hch c z).2.2.1 x c e rfl) ho (I.freeC x c e)
  · obtain ⟨e, n, ne, nf, d⟩ := I.pin p hp
    have nch : p.1 ∉ ch := fun z => (hch p.1 z).2.2.2 p hp rfl
    exact ⟨keep p.1 p.2 ne nf nch e n, free p.1 p.2 nch e n, ne, nf, d⟩
/-- .. where the frame's own object is kept too -/
theorem Inv.un {t' : Nat} (I : Inv X pins σ H s) (u : Un X.fs [] H H' s.heap h') (hok : HOk X.prog X.w H' h') : Inv X pins σ H' { s with heap := h', toks := t' } := by
  obtain ⟨m, ⟨o, es, ep, ho, r⟩, _⟩ := id I.loc
  obtain ⟨sl, hL⟩ := u.any ho I.free (by simp)
  exact I.step (g' := s.gens) (d' := s.drawn) (ch := []) (fun _ z => nomatch z) (fun b o _ hb _ e n => u.keep b o e n hb (by simp)) (fun b o _ hb _ e n => u.slot b o e n hb (by simp)) (fun b o _ e n => u.free b o e n (by simp)) (fun b o _ e => u.there b o e (by simp)) u.tups u.frzs u.tbls (fun m' hm => by
    obtain ⟨o', es', ep', ho', r'⟩ := hm
    rw [ho] at ho'; cases ho'
    exact ⟨_, es', ep', hL, r'⟩) hok I.bare
/-- behind a call (or a comprehension's block): the slots of this frame may have changed too, the records at ch may have turned -/
theorem Inv.call {g' : Array GenState} {t' : Nat} {d' : Drawn} {ch : List Addr} (I : Inv X pins σ H s) (u : Un (frs X.stack) ch H H' s.heap h') (hok : HOk X.prog X.w H' h') (hg : AllBare g')
    (hch : ∀ b ∈ ch, (b ∈ X.ex ∨ X.s₀.heap.objs.size ≤ b) ∧ b ≠ X.env.locals ∧ (∀ x c, X.env.cells.lookup x = some c → c ≠ b) ∧ ∀ p ∈ X.pn ++ pins, p.1 ≠ b) :
    Inv X pins σ H' { s with heap := h', gens := g', drawn := d', toks := t' } := by
  obtain ⟨m, ⟨o, es, ep, ho, r⟩, _⟩ := id I.loc
  obtain ⟨sl, hL⟩ := u.any ho I.free fun z => (hch _ z).2.1 rfl
  exact I.step (ch := ch) hch (fun b o hL hb hc e n => u.keep b o e n (fun z => (List.mem_cons.mp (I.stkSub b z)).elim hL hb) hc) (fun b o _ _ hc e n => u.any e n hc) (fun b o hc e n => u.free b o e n hc) (fun b o hc e => u.there b o e hc) u.tups u.frzs u.tbls (fun m' hm => by
    obtain ⟨o', es', ep', ho', r'⟩ := hm
    rw [ho] at ho'; cases ho'
    exact ⟨_, es', ep', hL, r'⟩) hok hg
/-- an untracked record of ours (an iterator) has turned -/
theorem Inv.turned {t' : Nat} {it : Addr} (I : Inv X pins σ H s) (k : ∀ b o, b ≠ it → s.heap.get? b = some o → h'.get? b = some o) (hn : H it = none) (hL : it ≠ X.env.locals)
    (h1 : it ∈ X.ex ∨ X.s₀.heap.objs.size ≤ it) (h2 : ∀ x c, X.env.cells.lookup x = some c → c ≠ it) (h3 : ∀ p ∈ X.pn ++ pins, p.1 ≠ it) : Inv X pins σ H { s with heap := h', toks := t' } := by
  have nit : ∀ b u, H b = some u → b ≠ it := fun b u e z => by rw [z, hn] at e; cases e
  refine I.step (g' := s.gens) (d' := s.drawn) (ch := [it]) (fun b hb => ?_) (fun b o _ _ hc e _ => k b o (fun z => hc (by simp [z])) e) (fun b o _ _ hc e _ => ⟨o.slots, k b o (fun z => hc (by simp [z])) e⟩) (fun _ _ _ _ n => n)
    (fun b o hc e => ⟨o, k b o (fun z => hc (by simp [z])) e⟩) (fun _ _ e => e) (fun _ _ _ e => e) (fun b ps e => ⟨#[], by rw [e]; simp⟩) (fun m hm => ?_) (fun b u e => ?_) I.bare
  · have e : b = it := by simpa using hb
    subst e
    exact ⟨h1, hL, h2, h3⟩
  · obtain ⟨o, es, ep, ho, r⟩ := hm
    exact ⟨o, es, ep, k _ o (Ne.symm hL) ho, r⟩
  · refine (I.hok b u e).stay (fun c v hc q => k c v ?_ q) (fun _ q => q) fun _ _ q => q
    rcases hc with z | z
    · rw [z]; exact nit b u e
    · exact nit c _ z
theorem Inv.tok (I : Inv X pins σ H s) (t : Nat) : Inv X pins σ H { s with toks := t } := I.un (h' := s.heap) (t' := t) Un.refl I.hok
/-- all objects kept -/
theorem Inv.kept {t' : Nat} (I : Inv X pins σ H s) (k : ∀ b u, s.heap.get? b = some u → h'.get? b = some u) : Inv X pins σ H { s with heap := h', toks := t' } := I.un (Un.kept k) (I.hok.kept k)
/-- a new object laid and tracked -/
theorem Inv.laid {a : Addr} {o : HO} {t' : Nat} (I : Inv X pins σ H s) (k : ∀ b u, s.heap.get? b = some u → h'.get? b = some u) (hp : s.heap.objs.size ≤ a) (new : ObjOk X.prog X.w (upd H a o) h' a o) :
    Inv X pins σ (upd H a o) { s with heap := h', toks := t' } := I.un (Un.laid k hp (I.hok.fresh hp)) (I.hok.laid k hp new)
/-- an object written -/
theorem Inv.write {x e : Addr} {o : HO} {t' : Nat} (I : Inv X pins σ H s) (mu : Mut (H x)) (he : e = x ∨ H e = some (.own x)) (k : ∀ b u, b ≠ e → s.heap.get? b = some u → h'.get? b = some u) (heo : ∃ u, h'.get? e = some u)
    (new : ObjOk X.prog X.w (upd H x o) h' x o) : Inv X pins σ (upd H x o) { s with heap := h', toks := t' } := I.un (Un.write mu he k heo) (I.hok.write mu he k heo new)
/-- forgetting slots, pins -/
theorem Inv.weak {σ' : List (Option V)} (I : Inv X pins σ H s) (hl : σ'.length = σ.length) (w : ∀ (i : Nat) v, σ'[i]? = some (some v) → σ[i]? = some (some v)) : Inv X pins σ' H s :=
  ⟨I.ok, I.os, I.bare, I.base, let ⟨m, hn, hl'⟩ := I.loc; ⟨m, hn, fun i x v e1 e2 e3 => hl' i x v e1 (w i v e2) e3⟩, I.cell, I.free, I.freeC, I.pin, I.hok, hl.trans I.len⟩
theorem Inv.pins_of {pins' : List (Addr × Obj)} (I : Inv X pins σ H s) (h : ∀ p ∈ pins', s.heap.get? p.1 = some p.2 ∧ H p.1 = none ∧ p.1 ≠ X.env.locals ∧ p.1 ∉ X.fs ∧ ∀ v, p.2.data ≠ .cell v) : Inv X pins' σ H s :=
  ⟨I.ok, I.os, I.bare, I.base, I.loc, I.cell, I.free, I.freeC, fun p hp => (List.mem_append.mp hp).elim (fun z => I.pin p (List.mem_append_left _ z)) (h p), I.hok, I.len⟩

theorem nodup_ix {N : List Str} (hN : N.Nodup) {i j : Nat} {x : Str} (a : N[i]? = some x) (b : N[j]? = some x) : i = j := by
  obtain ⟨h1, e1⟩ := List.getElem?_eq_some_iff.mp a
  obtain ⟨h2, e2⟩ := List.getElem?_eq_some_iff.mp b
  exact (List.getElem_inj hN).mp (e1.trans e2.symm)

/-- a name is stored; what changed -/
theorem store_ok2 {M : Model} {A : Around} {E : Value → Shared → Prop} {i : Nat} {x : Str} {v : V} {u : Value} {Q : Unit → Shared → Prop} (I : Inv X pins σ H s) (hN : X.N.Nodup) (hi : X.N[i]? = some x) (hx : Loc X.env.scope x) (r : RelV v u)
    (h : ∀ s', Inv X pins (σ.set i (some v)) H s' → (∃ a, Heap.SameBut a s.heap s'.heap ∧ (a = X.env.locals ∨ X.env.cells.lookup x = some a)) → Q () s') (hf : X.fn x = true ∨ X.env.scope.names.lookup x = some .local := by first | exact .inl rfl | exact .inr rfl | assumption) : wpAny M A (storeName X.env x u) Q E s := by
  obtain ⟨m, hn, hl⟩ := id I.loc
  have hcls : (X.env.scope.kind == .class || (X.env.scope.kind == .module && X.env.locals != X.env.globals)) = false := by rw [I.ok.kind]; rfl
  have hiσ : i < σ.length := by rw [I.len]; exact (List.getElem?_eq_some_iff.mp hi).1
  have cne := I.cne
  have tracked : ∀ {a : Addr} {h' : Heap}, (∃ o, s.heap.get? a = some o ∧ H a = none) → Heap.SameBut a s.heap h' → HOk X.prog X.w H h' := fun {a h'} ha hs b ob e => by
    obtain ⟨_, _, hfree⟩ := ha
    refine (I.hok b ob e).stay (fun c w' hc q => (hs.2 c ?_).trans q) (fun _ q => q) fun _ _ q => q
    rintro rfl
    rcases hc with rfl | hc
    · rw [hfree] at e; cases e
    · rw [hfree] at hc; cases hc
  rcases hx with hk | hk
  · refine wpAny_storeName_local hk hn (fun h' hn' hs => ?_) hcls
    obtain ⟨oL, _, _, hoL, _⟩ := id hn
    refine h _ ⟨I.ok, I.os, I.bare, ⟨fun b o e n hb hx => ?_, fun b o e n hb hx => ?_, I.base.free, fun b o e hx => ?_, I.base.tups, I.base.frzs, I.base.tbls⟩, ⟨_, hn', fun j y v' e1 e2 e3 => ?_⟩, fun y c e => ?_, I.free, I.freeC, fun p hp => ?_, tracked ⟨oL, hoL, I.free⟩ hs, by simpa using I.len⟩ ⟨_, hs, .inl rfl⟩
    · exact (hs.2 b (Nat.ne_of_lt (Nat.lt_of_lt_of_le (Heap.lt_size e) I.ok.above))).trans (I.base.keep b o e n hb hx)
    · obtain ⟨sl, e1⟩ := I.base.slot b o e n hb hx
      exact ⟨sl, (hs.2 b (Nat.ne_of_lt (Nat.lt_of_lt_of_le (Heap.lt_size e) I.ok.above))).trans e1⟩
    · obtain ⟨o', e1⟩ := I.base.there b o e hx
      exact ⟨o', (hs.2 b (Nat.ne_of_lt (Nat.lt_of_lt_of_le (Heap.lt_size e) I.ok.above))).trans e1⟩
    · by_cases hj : j = i
      · subst hj
        rw [hi] at e1; cases e1
        rw [List.getElem?_set_self hiσ] at e2
        cases e2
        exact ⟨u, r, .inl ⟨hk, by simp⟩⟩
      · rw [List.getElem?_set_ne (Ne.symm hj)] at e2
        obtain ⟨u', r', q⟩ := hl j y v' e1 e2 e3
        refine ⟨u', r', ?_⟩
        rcases q with ⟨k, e⟩ | ⟨k, c, e, z⟩
        · refine .inl ⟨k, ?_⟩
          have : y ≠ x := fun e => hj (nodup_ix hN e1 (e ▸ hi))
          simp [this, e]
        · exact .inr ⟨k, c, e, z.sameBut hs (cne y c e)⟩
    · obtain ⟨w', z⟩ := I.cell y c e
      exact ⟨w', z.sameBut hs (cne y c e)⟩
    · obtain ⟨e, n, ne, nf, d⟩ := I.pin p hp
      exact ⟨(hs.2 p.1 ne).trans e, n, ne, nf, d⟩
  · have hfn : X.fn x = true := by
      rcases hf with z | z
      · exact z
      · rw [z] at hk; cases hk
    obtain ⟨c, hc⟩ := I.ok.has x (.inl hk)
    obtain ⟨w', z⟩ := I.cell x c hc
    refine wpAny_storeName_cell I.ok.kind hk hc z (fun h' hc' hs => ?_)
    obtain ⟨oc, hoc, hocd⟩ := id z
    refine h { s with heap := h' } ⟨I.ok, I.os, I.bare, ⟨fun b o e n hb hx => ?_, fun b o e n hb hx => ?_, I.base.free, fun b o e hx => ?_, I.base.tups, I.base.frzs, I.base.tbls⟩, ⟨m, hn.sameBut hs (Ne.symm (cne x c hc)), fun j y v' e1 e2 e3 => ?_⟩, fun y c' e => ?_, I.free, I.freeC, fun p hp => ?_, tracked ⟨oc, hoc, I.freeC x c hc⟩ hs, by simpa using I.len⟩ ⟨c, hs, .inr hc⟩
    · exact (hs.2 b (Nat.ne_of_lt (Nat.lt_of_lt_of_le (Heap.lt_size e) (I.ok.cab x c hfn hc)))).trans (I.base.keep b o e n hb hx)
    · obtain ⟨sl, e1⟩ := I.base.slot b o e n hb hx
      exact ⟨sl, (hs.2 b (Nat.ne_of_lt (Nat.lt_of_lt_of_le (Heap.lt_size e) (I.ok.cab x c hfn hc)))).trans e1⟩
    · obtain ⟨o', e1⟩ := I.base.there b o e hx
      exact ⟨o', (hs.2 b (Nat.ne_of_lt (Nat.lt_of_lt_of_le (Heap.lt_size e) (I.ok.cab x c hfn hc)))).trans e1⟩
    · by_cases hj : j = i
      · subst hj
        rw [hi] at e1; cases e1
        rw [List.getElem?_set_self hiσ] at e2
        cases e2
        exact ⟨u, r, .inr ⟨.inl hk, c, hc, hc'⟩⟩
      · rw [List.getElem?_set_ne (Ne.symm hj)] at e2
        obtain ⟨u', r', q⟩ := hl j y v' e1 e2 e3
        refine ⟨u', r', ?_⟩
        rcases q with q | ⟨k, c', e, z'⟩
        · exact .inl q
        · refine .inr ⟨k, c', e, z'.sameBut hs ?_⟩
          rintro rfl
          exact hj (nodup_ix hN e1 (I.ok.inj _ _ _ e hc ▸ hi))
    · by_cases hcc : c' = c
      · subst hcc; exact ⟨_, hc'⟩
      · obtain ⟨w2, z2⟩ := I.cell y c' e
        exact ⟨w2, z2.sameBut hs hcc⟩
    · obtain ⟨e, n, ne, nf, d⟩ := I.pin p hp
      refine ⟨(hs.2 p.1 ?_).trans e, n, ne, nf, d⟩
      intro q
      rw [q, hoc] at e
      have q' : oc = p.2 := Option.some.inj e
      exact d w' (by rw [← q']; exact hocd)
theorem store_ok {M : Model} {A : Around} {E : Value → Shared → Prop} {i : Nat} {x : Str} {v : V} {u : Value} {Q : Unit → Shared → Prop} (I : Inv X pins σ H s) (hN : X.N.Nodup) (hi : X.N[i]? = some x) (hx : Loc X.env.scope x) (r : RelV v u)
    (h : ∀ s', Inv X pins (σ.set i (some v)) H s' → Q () s') (hf : X.fn x = true ∨ X.env.scope.names.lookup x = some .local := by first | exact .inl rfl | exact .inr rfl | assumption) : wpAny M A (storeName X.env x u) Q E s :=
  store_ok2 I hN hi hx r (fun s' I' _ => h s' I') hf
/-- behind a call or a block, the state as it is -/
theorem Inv.call' {s' : Shared} {ch : List Addr} (I : Inv X pins σ H s) (ho : s'.os = s.os) (u : Un (frs X.stack) ch H H' s.heap s'.heap) (hok : HOk X.prog X.w H' s'.heap) (hg : AllBare s'.gens)
    (hch : ∀ b ∈ ch, (b ∈ X.ex ∨ X.s₀.heap.objs.size ≤ b) ∧ b ≠ X.env.locals ∧ (∀ x c, X.env.cells.lookup x = some c → c ≠ b) ∧ ∀ p ∈ X.pn ++ pins, p.1 ≠ b) : Inv X pins σ H' s' := by
  obtain ⟨h', g', d', t', o'⟩ := s'
  have e : o' = s.os := ho
  subst e
  exact I.call (g' := g') (t' := t') (d' := d') u hok hg hch
end

/-! ### the judgements -/
/-- an exception: its class, its own dict's address (where it has one), the abstract heap behind it -/
abbrev XK := Value → Option Addr → Hp → Prop
abbrev St := List (Option V)
abbrev VK := V → Hp → Prop
/-- an expression's reading; a test's; an argument list's -/
abbrev TE := St → Hp → VK → Prop
abbrev TT := St → Hp → (Bool → Hp → Prop) → Prop
abbrev TA := St → Hp → (List V → Hp → Prop) → Prop
/-- what is wanted behind a statement -/
structure Ends where
  nx : St → Hp → Prop
  rt : VK
  bk : St → Hp → Prop := fun _ _ => False
  ct : St → Hp → Prop := fun _ _ => False
abbrev TS := Ends → St → Hp → Prop

def EP (X : Cx) (pins : List (Addr × Obj)) (σ : St) (Q : VK) (u : Value) (s' : Shared) : Prop := ∃ v H', Inv X pins σ H' s' ∧ RelV v u ∧ Q v H'
def TP (X : Cx) (pins : List (Addr × Obj)) (σ : St) (Q : Bool → Hp → Prop) (b : Bool) (s' : Shared) : Prop := ∃ H', Inv X pins σ H' s' ∧ Q b H'
def AP (X : Cx) (pins : List (Addr × Obj)) (σ : St) (Q : List V → Hp → Prop) (us : List Value) (s' : Shared) : Prop := ∃ vs H', Inv X pins σ H' s' ∧ Vals vs us ∧ Q vs H'
def SP (X : Cx) (pins : List (Addr × Obj)) (D : Ends) (f : Flow) (s' : Shared) : Prop :=
  match f with
  | .next => ∃ σ' H', Inv X pins σ' H' s' ∧ D.nx σ' H'
  | .brk => ∃ σ' H', Inv X pins σ' H' s' ∧ D.bk σ' H'
  | .cont => ∃ σ' H', Inv X pins σ' H' s' ∧ D.ct σ' H'
  | .ret u => ∃ v σ' H', Inv X pins σ' H' s' ∧ RelV v u ∧ D.rt v H'

def PE (X : Cx) (e : Expr) (t : TE) : Prop :=
  ∀ (pins : List (Addr × Obj)) (s : Shared) (σ : St) (H : Hp) (Q : VK), Inv X pins σ H s → t σ H Q → wpAny (model X.prog X.w) X.A (eval e X.env) (EP X pins σ Q) X.xe s
def PT (X : Cx) (e : Expr) (t : TT) : Prop :=
  ∀ (pins : List (Addr × Obj)) (s : Shared) (σ : St) (H : Hp) (Q : Bool → Hp → Prop), Inv X pins σ H s → t σ H Q → wpAny (model X.prog X.w) X.A (isTrue e X.env (eval e X.env)) (TP X pins σ Q) X.xe s
/-- a test whatever its 'whole' is (and, or) -/
def PW (X : Cx) (e : Expr) (t : TT) : Prop :=
  ∀ (whole : Sem Value) (pins : List (Addr × Obj)) (s : Shared) (σ : St) (H : Hp) (Q : Bool → Hp → Prop), Inv X pins σ H s → t σ H Q → wpAny (model X.prog X.w) X.A (isTrue e X.env whole) (TP X pins σ Q) X.xe s
theorem PW.pt {X : Cx} {e : Expr} {t : TT} (h : PW X e t) : PT X e t := h _
/-- an argument list (no star), from the left -/
def PA (X : Cx) (es : List Expr) (t : TA) : Prop :=
  ∀ (pos : Pos) (pins : List (Addr × Obj)) (s : Shared) (σ : St) (H : Hp) (Q : List V → Hp → Prop), Inv X pins σ H s → t σ H Q → wpAny (model X.prog X.w) X.A (spliced (backTo pos (starEach es X.env))) (AP X pins σ Q) X.xe s
def PS (X : Cx) (st : Stmt) (t : TS) : Prop :=
  ∀ (pins : List (Addr × Obj)) (s : Shared) (σ : St) (H : Hp) (D : Ends), Inv X pins σ H s → t D σ H → wpAny (model X.prog X.w) X.A (exec st X.env) (SP X pins D) X.xe s
def PSs (X : Cx) (st : List Stmt) (t : TS) : Prop :=
  ∀ (pins : List (Addr × Obj)) (s : Shared) (σ : St) (H : Hp) (D : Ends), Inv X pins σ H s → t D σ H → wpAny (model X.prog X.w) X.A (execs st X.env) (SP X pins D) X.xe s
/-- weaken the end -/
theorem thn {α : Type} {t : Sem α} {Q Q' : α → Shared → Prop} {M : Model} {A : Around} {E : Value → Shared → Prop} {s : Shared} (h : wpAny M A t Q E s) (hQ : ∀ a s, Q a s → Q' a s) : wpAny M A t Q' E s := wpAny_mono h hQ fun _ _ x => x
end L2

namespace L2
open PySem PySem.Spec PyProof.Rows
section
variable {X : Cx}

/-! ### names and constants -/
def tVar (i : Nat) : TE := fun σ H Q => ∃ v, σ[i]? = some (some v) ∧ Q v H
def tC (v : V) : TE := fun _ H Q => Q v H
theorem pe_var {i : Nat} {x : Str} {pos : Pos} (hN : X.N[i]? = some x) (hv : Vis X.env.scope x) (hd : (x == ("__debug__" : Str)) = false := by decide) (hcd : (x == ("__classdict__" : Str)) = false := by decide) : PE X (.Name x pos) (tVar i) := by
  intro pins s σ H Q I h
  obtain ⟨v, e, h⟩ := h
  obtain ⟨m, hn, hl⟩ := I.loc
  obtain ⟨u, r, l⟩ := hl i x v hN e hv
  have fin : EP X pins σ Q u s := ⟨v, H, I, r, h⟩
  rcases l with ⟨hk, hm⟩ | ⟨hk, c, hc, hcell⟩
  · exact wpAny_Name (wpAny_loadName_local I.ok.kind hk hn hm fin) hd
  · rcases hk with hk | hk
    · exact wpAny_Name (wpAny_loadName_cell I.ok.kind hk hc hcell fin) hd
    · exact wpAny_Name (wpAny_loadName_free I.ok.kind hk hc hcell fin hcd) hd
theorem pe_int {i j pos} : PE X (.Constant (.int i) j pos) (tC (.int i)) := fun _ _ _ H _ I h => wpAny_Constant_int ⟨.int i, H, I.tok _, ⟨_, rfl⟩, h⟩
theorem pe_bl {b j pos} : PE X (.Constant (.bool b) j pos) (tC (.bl b)) := fun _ _ _ H _ I h => Constant_bool ⟨.bl b, H, I, rfl, h⟩
theorem pe_non {j pos} : PE X (.Constant .none j pos) (tC .non) := fun _ _ _ H _ I h => Constant_none ⟨.non, H, I, rfl, h⟩
/-- a global name of the def -/
def Gl (X : Cx) (x : Str) : Prop := X.env.kindOf x = some .globalImplicit
theorem ld_glob {E : Value → Shared → Prop} {pins : List (Addr × Obj)} {s : Shared} {σ : St} {H : Hp} {x : Str} {u : Value} {pos : Pos} {Q : Value → Shared → Prop} (I : Inv X pins σ H s) (hg : Gl X x) (hm : X.mg x = some u) (h : Q u s)
    (hd : (x == ("__debug__" : Str)) = false := by decide) : wpAny (model X.prog X.w) X.A (eval (.Name x pos) X.env) Q E s :=
  Calls.Name_function_global I.ok.kind hg (Calls.loadGlobal_global (by rw [I.ok.glob]; exact I.mod.glob.keeps I.bk) hm h) hd
theorem ld_blt {E : Value → Shared → Prop} {pins : List (Addr × Obj)} {s : Shared} {σ : St} {H : Hp} {x : Str} {u : Value} {pos : Pos} {Q : Value → Shared → Prop} (I : Inv X pins σ H s) (hg : Gl X x) (hm : X.mg x = none) (hv : bootBuiltins x = some u) (h : Q u s)
    (hn : x ≠ "__name__" := by decide) (hd : (x == ("__debug__" : Str)) = false := by decide) : wpAny (model X.prog X.w) X.A (eval (.Name x pos) X.env) Q E s := by
  obtain ⟨mb, h1, h2⟩ := I.mod.blt
  exact Calls.Name_function_global I.ok.kind hg (Calls.loadGlobal_builtin (by rw [I.ok.glob]; exact I.mod.glob.keeps I.bk) hm (by rw [I.ok.blt]; exact h1.keeps I.bk) ((h2 x hn).trans hv) h) hd
theorem pe_bltn {x : Str} {v : V} {u : Value} {pos : Pos} (hg : Gl X x) (hm : X.mg x = none) (hv : bootBuiltins x = some u) (r : RelV v u) (hn : x ≠ "__name__" := by decide) (hd : (x == ("__debug__" : Str)) = false := by decide) : PE X (.Name x pos) (tC v) :=
  fun _ _ _ H _ I h => ld_blt I hg hm hv ⟨v, H, I, r, h⟩ hn hd

/-! ### arithmetic -/
/-- two ints -/
def t2I (ta tb : TE) (k : Int → Int → Hp → Prop) : St → Hp → Prop := fun σ H => ta σ H fun x H1 => tb σ H1 fun y H2 => ∃ i j, x = .int i ∧ y = .int j ∧ k i j H2
def tAdd (ta tb : TE) : TE := fun σ H Q => t2I ta tb (fun i j H2 => Q (.int (i + j)) H2) σ H
def tSub (ta tb : TE) : TE := fun σ H Q => t2I ta tb (fun i j H2 => Q (.int (i - j)) H2) σ H
/-- the left factor below 2^64 -/
def tMul (ta tb : TE) : TE := fun σ H Q => t2I ta tb (fun i j H2 => (-(2 ^ 64) < i ∧ i < 2 ^ 64) ∧ Q (.int (i * j)) H2) σ H
variable {a b : Expr} {ta tb : TE} {pos : Pos}
/-! ### comparisons -/
def PC (X : Cx) (op : CmpOp) (a b : Expr) (t : TE) : Prop :=
  ∀ (pins : List (Addr × Obj)) (s : Shared) (σ : St) (H : Hp) (Q : VK), Inv X pins σ H s → t σ H Q →
    wpAny (model X.prog X.w) X.A (eval a X.env) (fun v s₁ => wpAny (model X.prog X.w) X.A (eval b X.env) (fun u s₂ => wpAny (model X.prog X.w) X.A (compareOp op v u) (EP X pins σ Q) X.xe s₂) X.xe s₁) X.xe s
def tCmp (p : Int → Int → Bool) (ta tb : TE) : TE := fun σ H Q => t2I ta tb (fun i j H2 => Q (.bl (p i j)) H2) σ H
abbrev tLt : TE → TE → TE := tCmp fun i j => decide (i < j)
abbrev tLe : TE → TE → TE := tCmp fun i j => decide (i ≤ j)
abbrev tGt : TE → TE → TE := tCmp fun i j => decide (j < i)
abbrev tGe : TE → TE → TE := tCmp fun i j => decide (j ≤ i)
abbrev tEqI : TE → TE → TE := tCmp fun i j => decide (i = j)
abbrev tNeI : TE → TE → TE := tCmp fun i j => !decide (i = j)
/-- is None -/
def tIsN (ta : TE) : TE := fun σ H Q => ta σ H fun x H1 => Q (.bl (decide (x = .non))) H1
def tNotN (ta : TE) : TE := fun σ H Q => ta σ H fun x H1 => Q (.bl (!decide (x = .non))) H1
/-- a comparison as a value, as a test -/
def tB (t : TE) : TT := fun σ H Q => t σ H fun x H1 => ∃ c, x = .bl c ∧ Q c H1
/-- an expression whose value is a bool, as a test -/
theorem pt_val {e : Expr} {t : TE} (h : PE X e t) (he : ∀ whole, isTrue e X.env whole = (do let v ← whole; standAt e.pos; holding [v] (truthy v)) := by intro _; rfl) : PT X e (tB t) := by
  intro pins s σ H Q I hw
  refine isTrue_plain (thn (h pins s σ H _ I hw) fun v s1 ⟨x, H1, I1, r1, q1⟩ => ?_) (he _)
  obtain ⟨d, rfl, q⟩ := q1
  cases r1
  exact wpAny_truthy_bool ⟨H1, I1, q⟩

/-! ### and, or, not -/
variable {tA tB' : TT} {rest : List Expr}
def tAnd (t u : TT) : TT := fun σ H Q => t σ H fun c H1 => if c = true then u σ H1 Q else Q false H1
def tOr (t u : TT) : TT := fun σ H Q => t σ H fun c H1 => if c = true then Q true H1 else u σ H1 Q
def tNot (t : TT) : TT := fun σ H Q => t σ H fun c H1 => Q (!c) H1
theorem pw_and1 (ha : PT X a tA) : PW X (.BoolOp .And [a] pos) tA := by
  intro wh pins s σ H Q I h
  refine isTrue_and (thn (ha pins s σ H Q I h) fun c s1 e => ?_)
  cases c with
  | true => exact isTrue_and_nil e
  | false => exact e
theorem pw_or1 (ha : PT X a tA) : PW X (.BoolOp .Or [a] pos) tA := by
  intro wh pins s σ H Q I h
  refine isTrue_or (thn (ha pins s σ H Q I h) fun c s1 e => ?_)
  cases c with
  | false => exact isTrue_or_nil e
  | true => exact e
theorem pw_and (ha : PT X a tA) (hb : PW X (.BoolOp .And (b :: rest) pos) tB') : PW X (.BoolOp .And (a :: b :: rest) pos) (tAnd tA tB') := by
  intro wh pins s σ H Q I h
  refine isTrue_and (thn (ha pins s σ H _ I h) fun c s1 ⟨H1, I1, q1⟩ => ?_)
  cases c with
  | true => exact hb wh pins s1 σ H1 Q I1 q1
  | false => exact ⟨H1, I1, q1⟩
theorem pw_or (ha : PT X a tA) (hb : PW X (.BoolOp .Or (b :: rest) pos) tB') : PW X (.BoolOp .Or (a :: b :: rest) pos) (tOr tA tB') := by
  intro wh pins s σ H Q I h
  refine isTrue_or (thn (ha pins s σ H _ I h) fun c s1 ⟨H1, I1, q1⟩ => ?_)
  cases c with
  | true => exact ⟨H1, I1, q1⟩
  | false => exact hb wh pins s1 σ H1 Q I1 q1
theorem pt_not (ha : PT X a tA) : PT X (.UnaryOp .Not a pos) (tNot tA) := by
  intro pins s σ H Q I h
  exact isTrue_not (ha pins s σ H (fun c H1 => Q (!c) H1) I h)
/-- .. as values (bools) -/
def tAndV (ta tb : TE) : TE := fun σ H Q => ta σ H fun x H1 => ∃ c, x = .bl c ∧ if c = true then tb σ H1 Q else Q (.bl false) H1
def tOrV (ta tb : TE) : TE := fun σ H Q => ta σ H fun x H1 => ∃ c, x = .bl c ∧ if c = true then Q (.bl true) H1 else tb σ H1 Q
def tNotV (ta : TE) : TE := fun σ H Q => ta σ H fun x H1 => ∃ c, x = .bl c ∧ Q (.bl (!c)) H1
/-- a if t else b -/
def tIf (t : TT) (ta tb : TE) : TE := fun σ H Q => t σ H fun c H1 => if c = true then ta σ H1 Q else tb σ H1 Q
theorem pe_ifExp {c : Expr} (hc : PT X c tA) (ha : PE X a ta) (hb : PE X b tb) : PE X (.IfExp c a b pos) (tIf tA ta tb) := by
  intro pins s σ H Q I h
  refine wpAny_IfExp (thn (hc pins s σ H _ I h) fun d s1 ⟨H1, I1, q1⟩ => ?_)
  cases d with
  | true => exact ha pins s1 σ H1 Q I1 q1
  | false => exact hb pins s1 σ H1 Q I1 q1
end
end L2

namespace L2
open PySem PySem.Spec PyProof.Rows

/-! ### a list, a tuple that is read: tracked, frozen, or an object of the module -/
def SqL (K : PySem.W.Frag) (H : Hp) (a : Addr) (xs : List V) : Prop :=
  Rd H a (.lst xs) ∨
    ∃ (o : Obj) (its : Array Value) (n : Nat), K.lookup a = some o ∧ o.cls = .type "list" ∧ o.dict = none ∧ o.data = .seq its n ∧ its.size ≤ sizeLine ∧ Vals xs its.toList
def SqT (K : PySem.W.Frag) (H : Hp) (a : Addr) (xs : List V) : Prop :=
  Rd H a (.tup xs) ∨
    ∃ (o : Obj) (its : Array Value) (n : Nat), K.lookup a = some o ∧ o.cls = .type "tuple" ∧ o.data = .seq its n ∧ its.size ≤ sizeLine ∧ Vals xs its.toList
def absV : Value → Option V
  | .none => some .non
  | .bool b => some (.bl b)
  | .int i _ => some (.int i)
  | .str x _ => some (.str x)
  | .bytes b _ => some (.byt b)
  | .float b _ => some (.flt b)
  | .ref a => some (.ref a)
  | .type n => some (.ty n)
  | _ => none
theorem RelV.abs {x : V} {u : Value} (r : RelV x u) : absV u = some x := by
  cases x with
  | non => cases r; rfl
  | bl _ => cases r; rfl
  | int _ => obtain ⟨t, rfl⟩ := r; rfl
  | str _ => obtain ⟨t, rfl⟩ := r; rfl
  | byt _ => obtain ⟨t, rfl⟩ := r; rfl
  | flt _ => obtain ⟨t, rfl⟩ := r; rfl
  | ref _ => cases r; rfl
  | ty _ => cases r; rfl
theorem RelV.inj {x y : V} {u : Value} (r : RelV x u) (q : RelV y u) : x = y := Option.some.inj (r.abs.symm.trans q.abs)
theorem Vals.inj : ∀ {xs ys : List V} {us : List Value}, Vals xs us → Vals ys us → xs = ys
  | _, _, _, .nil, .nil => rfl
  | _, _, _, .cons r t, .cons r' t' => by rw [r.inj r', Vals.inj t t']
section
variable {X : Cx} {pins : List (Addr × Obj)} {σ : St} {H : Hp} {s : Shared} {a : Addr} {xs ys : List V}
theorem SqL.of {K : PySem.W.Frag} (h : H a = some (.lst xs)) : SqL K H a xs := .inl (.inl h)
theorem SqT.of {K : PySem.W.Frag} (h : H a = some (.tup xs)) : SqT K H a xs := .inl (.inl h)
theorem Inv.list (I : Inv X pins σ H s) (h : SqL X.K H a xs) : ∃ its : List Value, Vals xs its ∧ PlainL s.heap a its.toArray ∧ xs.length ≤ sizeLine := by
  rcases h with h | ⟨o, its, n, hk, hc, hd, hs, hz, r⟩
  · obtain ⟨z, its, n, r, e⟩ := h.ok I.hok
    exact ⟨its, r, ⟨_, n, e, rfl, rfl, rfl⟩, z⟩
  · refine ⟨its.toList, r, ⟨o, n, I.kIn a o hk, hc, hd, by simpa using hs⟩, ?_⟩
    have e := r.length
    simp only [Array.length_toList] at e
    omega
theorem Inv.tuple (I : Inv X pins σ H s) (h : SqT X.K H a xs) : ∃ its : List Value, Vals xs its ∧ IsTup s.heap a its.toArray ∧ xs.length ≤ sizeLine := by
  rcases h with h | ⟨o, its, n, hk, hc, hs, hz, r⟩
  · obtain ⟨z, its, r, p⟩ := h.ok I.hok
    exact ⟨its, r, p, z⟩
  · refine ⟨its.toList, r, ⟨o, I.kIn a o hk, hc, n, by simpa using hs⟩, ?_⟩
    have e := r.length
    simp only [Array.length_toList] at e
    omega
theorem Inv.list_inj (I : Inv X pins σ H s) (h : SqL X.K H a xs) (h' : SqL X.K H a ys) : xs = ys := by
  obtain ⟨its, r, ⟨o, n, e, _, _, d⟩, _⟩ := I.list h
  obtain ⟨its', r', ⟨o', n', e', _, _, d'⟩, _⟩ := I.list h'
  rw [e] at e'; cases e'
  rw [d] at d'
  injection d' with d1 _
  have : its = its' := by simpa using congrArg Array.toList d1
  subst this
  exact r.inj r'
end

/-! ### another wish about exceptions -/
abbrev Cx.wish (X : Cx) (E : Value → Shared → Prop) : Cx := { X with xe := E }
/-- no exception leaves -/
abbrev Cx.nox (X : Cx) : Cx := X.wish fun _ _ => False
theorem Cx.Ok.wish {X : Cx} (ok : X.Ok) (E : Value → Shared → Prop) : (X.wish E).Ok :=
  ⟨ok.mod, ok.kind, ok.glob, ok.blt, ok.above, ok.inj, ok.has, ok.cab, ok.hd, ok.frames, ok.stk, ok.exf, ok.bs, ok.bsz, ok.noex, ok.exfs, ok.funs, ok.frf⟩
theorem Cx.Ok.unwish {X : Cx} {E : Value → Shared → Prop} (ok : (X.wish E).Ok) : X.Ok :=
  ⟨ok.mod, ok.kind, ok.glob, ok.blt, ok.above, ok.inj, ok.has, ok.cab, ok.hd, ok.frames, ok.stk, ok.exf, ok.bs, ok.bsz, ok.noex, ok.exfs, ok.funs, ok.frf⟩
section
variable {X : Cx} {pins : List (Addr × Obj)} {σ : St} {H : Hp} {s : Shared} {E : Value → Shared → Prop}
theorem Inv.wish (I : Inv X pins σ H s) (E : Value → Shared → Prop) : Inv (X.wish E) pins σ H s := ⟨I.ok.wish E, I.os, I.bare, I.base, I.loc, I.cell, I.free, I.freeC, I.pin, I.hok, I.len⟩
theorem Inv.unwish (I : Inv (X.wish E) pins σ H s) : Inv X pins σ H s := ⟨I.ok.unwish, I.os, I.bare, I.base, I.loc, I.cell, I.free, I.freeC, I.pin, I.hok, I.len⟩
theorem SP.unwish {D : Ends} {f : Flow} {s' : Shared} (h : SP (X.wish E) pins D f s') : SP X pins D f s' := by
  cases f with
  | next => obtain ⟨σ', H', I, q⟩ := h; exact ⟨σ', H', I.unwish, q⟩
  | brk => obtain ⟨σ', H', I, q⟩ := h; exact ⟨σ', H', I.unwish, q⟩
  | cont => obtain ⟨σ', H', I, q⟩ := h; exact ⟨σ', H', I.unwish, q⟩
  | ret u => obtain ⟨v, σ', H', I, r, q⟩ := h; exact ⟨v, σ', H', I.unwish, r, q⟩
theorem PSs.nox {st : List Stmt} {t : TS} (h : PSs X.nox st t) : PSs X st t := fun pins s σ H D I hw =>
  wpAny_mono (h pins s σ H D (I.wish _) hw) (fun _ _ q => q.unwish) fun _ _ z => False.elim z
end

/-! ### blocks and small statements -/
section
variable {X : Cx} {st : Stmt} {rest : List Stmt} {t u : TS} {e : Expr} {te : TE} {pos : Pos}
def tNext : TS := fun D σ H => D.nx σ H
def tSeq (t u : TS) : TS := fun D σ H => t { D with nx := u D } σ H
theorem pss_nil : PSs X [] tNext := fun _ _ σ H _ I h => wpAny_execs_nil ⟨σ, H, I, h⟩
theorem pss_cons (h1 : PS X st t) (h2 : PSs X rest u) : PSs X (st :: rest) (tSeq t u) := by
  intro pins s σ H D I h
  refine wpAny_execs_cons (thn (h1 pins s σ H { D with nx := u D } I h) fun f s1 q => ?_)
  cases f with
  | next =>
    obtain ⟨σ', H', I', q⟩ := q
    exact h2 pins s1 σ' H' D I' q
  | ret v => exact q
  | brk => exact q
  | cont => exact q
theorem pss_one (h1 : PS X st t) : PSs X [st] t := by
  intro pins s σ H D I h
  refine wpAny_execs_cons (thn (h1 pins s σ H D I h) fun f s1 q => ?_)
  cases f with
  | next => exact wpAny_execs_nil q
  | ret v => exact q
  | brk => exact q
  | cont => exact q
def tBreak : TS := fun D σ H => D.bk σ H
def tCont : TS := fun D σ H => D.ct σ H
/-- in a def's body nothing is shown -/
theorem Inv.quiet {pins : List (Addr × Obj)} {σ : St} {H : Hp} {s : Shared} (I : Inv X pins σ H s) : interactive X.env = false := by simp [interactive, I.ok.kind]
/-- an expression whose value is dropped -/
def tDrop (te : TE) : TS := fun D σ H => te σ H fun _ H1 => D.nx σ H1
theorem ps_expr (he : PE X e te) (hs : swapsWith e none pos.line X.env = pure false := by rfl) : PS X (.Expr e pos) (tDrop te) := by
  intro pins s σ H D I h
  exact wpAny_Expr_any (thn (he pins s σ H _ I h) fun v s1 ⟨x, H1, I1, r1, q1⟩ => ⟨σ, H1, I1, q1⟩) I.quiet hs
def tRet (te : TE) : TS := fun D σ H => te σ H D.rt
theorem ps_ret (he : PE X e te) : PS X (.Return (some e) pos) (tRet te) := by
  intro pins s σ H D I h
  exact wpAny_Return_some (thn (he pins s σ H _ I h) fun v s1 ⟨x, H1, I1, r1, q1⟩ => ⟨x, σ, H1, I1, r1, q1⟩)
def tRetN : TS := fun D _ H => D.rt .non H
def tIfS (c : TT) (t u : TS) : TS := fun D σ H => c σ H fun b H1 => if b = true then t D σ H1 else u D σ H1
theorem ps_if {c : Expr} {a b : List Stmt} {tc : TT} (hc : PT X c tc) (ha : PSs X a t) (hb : PSs X b u) : PS X (.If c a b pos) (tIfS tc t u) := by
  intro pins s σ H D I h
  refine wpAny_If (thn (hc pins s σ H _ I h) fun d s1 ⟨H1, I1, q1⟩ => ?_)
  cases d with
  | true => exact ha pins s1 σ H1 D I1 q1
  | false => exact hb pins s1 σ H1 D I1 q1
/-- code that the proof never comes to -/
def tNever : TS := fun _ _ _ => False
end

/-! ### targets -/
abbrev TG := V → St → Hp → (St → Hp → Prop) → Prop
abbrev TGs := List V → St → Hp → (St → Hp → Prop) → Prop
def PG (X : Cx) (target : Expr) (t : TG) : Prop :=
  ∀ (pins : List (Addr × Obj)) (s : Shared) (σ : St) (H : Hp) (v : V) (u : Value) (Q : St → Hp → Prop), Inv X pins σ H s → RelV v u → t v σ H Q →
    wpAny (model X.prog X.w) X.A (assign target X.env u) (fun _ s' => ∃ σ' H', Inv X pins σ' H' s' ∧ Q σ' H') X.xe s
/-- several targets, one after another -/
def PGs (X : Cx) (ts : List Expr) (t : TGs) : Prop :=
  ∀ (pins : List (Addr × Obj)) (s : Shared) (σ : St) (H : Hp) (vs : List V) (us : List Value) (Q : St → Hp → Prop), Inv X pins σ H s → Vals vs us → t vs σ H Q →
    wpAny (model X.prog X.w) X.A (assignInOrder ((assignEach ts X.env).map (·.2)) us) (fun _ s' => ∃ σ' H', Inv X pins σ' H' s' ∧ Q σ' H') X.xe s
/-- o[i] = v, by values -/
abbrev TSet := V → V → V → Hp → (Hp → Prop) → Prop
def PSet (X : Cx) (t : TSet) : Prop :=
  ∀ (pins : List (Addr × Obj)) (s : Shared) (σ : St) (H : Hp) (o i v : V) (ov iv u : Value) (Q : Hp → Prop), Inv X pins σ H s → RelV o ov → RelV i iv → RelV v u → t o i v H Q →
    wpAny (model X.prog X.w) X.A (setItem ov iv u) (fun _ s' => ∃ H', Inv X pins σ H' s' ∧ Q H') X.xe s
/-- a op= b, by values -/
abbrev TIp := V → V → Hp → VK → Prop
def PIp (X : Cx) (op : Operator) (t : TIp) : Prop :=
  ∀ (pins : List (Addr × Obj)) (s : Shared) (σ : St) (H : Hp) (x y : V) (v u : Value) (Q : VK), Inv X pins σ H s → RelV x v → RelV y u → t x y H Q →
    wpAny (model X.prog X.w) X.A (inplaceOp op v u) (EP X pins σ Q) X.xe s
section
variable {X : Cx} {pos : Pos}
def gName (i : Nat) : TG := fun v σ H Q => Q (σ.set i (some v)) H
theorem pg_name {i : Nat} {x : Str} (hN : X.N.Nodup) (hi : X.N[i]? = some x) (hx : Loc X.env.scope x) (hf : X.fn x = true ∨ X.env.scope.names.lookup x = some .local := by first | exact .inl rfl | exact .inr rfl | assumption) : PG X (.Name x pos) (gName i) := by
  intro pins s σ H v u Q I r h
  exact wpAny_assign_Name (store_ok I hN hi hx r (fun s' I' => ⟨_, H, I', h⟩) hf)
def gNil : TGs := fun vs σ H Q => vs = [] ∧ Q σ H
def gCons (t : TG) (u : TGs) : TGs := fun vs σ H Q => ∃ v r, vs = v :: r ∧ t v σ H fun σ' H' => u r σ' H' Q
theorem pgs_nil : PGs X [] gNil := by
  intro pins s σ H vs us Q I r h
  obtain ⟨e, h⟩ := h
  subst e
  cases r
  exact assignInOrder_nil ⟨σ, H, I, h⟩
theorem pgs_cons {e : Expr} {es : List Expr} {t : TG} {u : TGs} (h1 : PG X e t) (h2 : PGs X es u)
    (hs : (assignEach (e :: es) X.env).map (·.2) = assign e X.env :: (assignEach es X.env).map (·.2) := by rfl) : PGs X (e :: es) (gCons t u) := by
  intro pins s σ H vs us Q I r h
  obtain ⟨v, vr, e1, h⟩ := h
  subst e1
  cases r with
  | cons r rr =>
    rw [hs]
    refine assignInOrder_cons (thn (h1 pins s σ H _ _ _ I r h) fun _ s1 ⟨σ1, H1, I1, q1⟩ => ?_)
    exact h2 pins s1 σ1 H1 _ _ Q I1 rr q1
/-- (a, b, ..) = a tuple of that length -/
def gTup (K : PySem.W.Frag) (n : Nat) (t : TGs) : TG := fun v σ H Q => ∃ a xs, v = .ref a ∧ SqT K H a xs ∧ xs.length = n ∧ t xs σ H Q
theorem pg_tup {es : List Expr} {k : Nat} {t : TGs} {n : Nat} (hc : X.calm = true) (h : PGs X es t)
    (hn : (assignEach es X.env).length = n := by rfl) (hst : (assignEach es X.env).findIdx? (·.1) = none := by rfl) : PG X (.Tuple es k pos) (gTup X.K n t) := by
  intro pins s σ H v u Q I r hw
  obtain ⟨a, xs, e1, hq, hl, hw⟩ := hw
  subst e1
  cases r
  obtain ⟨its, rv, ht, hz⟩ := I.tuple hq
  refine assign_Tuple_tuple (I.ok.hd hc) ht (by simp [hn, ← hl, rv.length]) hst fun h' hx => ?_
  have I1 : Inv X pins σ H { s with heap := h' } := I.kept (t' := s.toks) fun b o e => hx b o (Nat.ne_of_lt (Heap.lt_size e)) e
  exact h pins _ σ H xs _ Q I1 (by simpa using rv) hw
/-- o[i] = .. -/
def gSub (to ti : TE) (t : TSet) : TG := fun v σ H Q => to σ H fun o H1 => ti σ H1 fun i H2 => t o i v H2 fun H3 => Q σ H3
/-- target = value -/
def tAsg (te : TE) (g : TG) : TS := fun D σ H => te σ H fun x H1 => g x σ H1 D.nx
theorem ps_asg {tg e : Expr} {te : TE} {g : TG} (he : PE X e te) (hg : PG X tg g) (hs : swapsWithSole [tg] e pos.line X.env = pure false := by rfl) (hw : swappedStores [tg] e X.env = pure none := by rfl)
    (h1 : (assignEach [tg] X.env).map (·.2) = [assign tg X.env] := by rfl) : PS X (.Assign [tg] e pos) (tAsg te g) := by
  intro pins s σ H D I h
  refine wpAny_Assign_stores (thn (he pins s σ H _ I h) fun v s1 ⟨x, H1, I1, r1, q1⟩ => ?_) hs hw
  rw [h1]
  exact thn (hg pins s1 σ H1 x v _ I1 r1 q1) fun _ s2 q => q
/-- name = value -/
theorem ps_set {i : Nat} {x : Str} {e : Expr} {te : TE} {pos' : Pos} (hN : X.N.Nodup) (hi : X.N[i]? = some x) (hx : Loc X.env.scope x) (he : PE X e te) (hs : swapsWith e (some (.Name x pos')) pos.line X.env = pure false := by rfl) (hf : X.fn x = true ∨ X.env.scope.names.lookup x = some .local := by first | exact .inl rfl | exact .inr rfl | assumption) :
    PS X (.Assign [.Name x pos'] e pos) (tAsg te (gName i)) := by
  intro pins s σ H D I h
  refine wpAny_Assign_Name (thn (he pins s σ H _ I h) fun v s1 ⟨y, H1, I1, r1, q1⟩ => ?_) hs
  exact store_ok I1 hN hi hx r1 (fun s2 I2 => ⟨_, H1, I2, q1⟩) hf
/-- a, b = x, y with plain local names: stored from the right; the pair itself is not tracked (the opening rows as in PyProof/Rows/TupAssign.lean:23) -/
def tPar (i j : Nat) (ta : TA) : TS := fun D σ H => ta σ H fun vs H1 => ∃ v w, vs = [v, w] ∧ D.nx ((σ.set i (some v)).set j (some w)) H1
theorem ps_par {i j : Nat} {x y : Str} {a b : Expr} {ta : TA} {px py pt : Pos} {kt k2 pt2} (hc : X.calm = true) (hN : X.N.Nodup) (hi : X.N[i]? = some x) (hj : X.N[j]? = some y) (hij : i ≠ j)
    (hx : X.env.scope.names.lookup x = some .local) (hy : X.env.scope.names.lookup y = some .local) (ha : PA X [a, b] ta)
    (hw : swappedStores [.Tuple [.Name x px, .Name y py] kt pt] (.Tuple [a, b] k2 pt2) X.env = pure (some [x, y]))
    (hs : swapsWithSole [.Tuple [.Name x px, .Name y py] kt pt] (.Tuple [a, b] k2 pt2) pos.line X.env = pure false := by rfl) :
    PS X (.Assign [.Tuple [.Name x px, .Name y py] kt pt] (.Tuple [a, b] k2 pt2) pos) (tPar i j ta) := by
  intro pins s σ H D I h
  rw [exec_Assign_arm]
  refine wpAny_bind (wpAny_standAt ?_)
  rw [hs]
  refine wpAny_bind (wpAny_pure ?_)
  rw [if_neg (by decide)]
  refine wpAny_bind (Tuple_ (thn (ha _ pins s σ H _ I h) fun us s1 ⟨vs, H1, I1, r1, q1⟩ => ?_))
  obtain ⟨v, w, e1, q1⟩ := q1
  subst e1
  obtain ⟨u1, u2, rfl, rv, rw'⟩ : ∃ u1 u2, us = [u1, u2] ∧ RelV v u1 ∧ RelV w u2 := by
    cases r1 with
    | cons p q =>
      cases q with
      | cons p' q' =>
        cases q'
        exact ⟨_, _, rfl, p, p'⟩
  refine wpAny_newObj_type ?_ (by show 2 ≤ sizeLine; decide)
  have I2 : Inv X pins σ H1 { s1 with heap := s1.heap.push { cls := .type "tuple", data := .seq [u1, u2].toArray } } := I1.kept (t' := s1.toks) fun b o e => Heap.get?_push_of_some _ e
  rw [hw]
  refine wpAny_bind (wpAny_pure ?_)
  show wpAny (model X.prog X.w) X.A (do rule "assign.swapped-stores"; let items ← unpackItems (.ref s1.heap.objs.size) 2 none; assignInOrder [fun v => bindName X.env y v, fun v => bindName X.env x v] items.reverse; pure Flow.next) _ _ _
  refine wpAny_bind (wpAny_rule (wpAny_bind (unpackItems_tuple (items := #[u1, u2]) (I.ok.hd hc) (IsTup.new s1.heap _) fun h' hx' => ?_)))
  have I3 := I2.kept (h' := h') (t' := s1.toks) fun b o e => hx' b o (Nat.ne_of_lt (Heap.lt_size e)) e
  show wpAny _ _ (assignInOrder [fun v => bindName X.env y v, fun v => bindName X.env x v] [u2, u1] >>= fun _ => pure Flow.next) _ _ _
  refine wpAny_bind (assignInOrder_cons (wpAny_bindName (store_ok I3 hN hj (.inl hy) rw' (fun s2 I4 => ?_) (.inr hy))))
  refine assignInOrder_cons (wpAny_bindName (store_ok I4 hN hi (.inl hx) rv (fun s3 I5 => assignInOrder_nil (wpAny_pure ?_)) (.inr hx)))
  rw [List.set_comm _ _ (Ne.symm hij)] at I5
  exact ⟨_, H1, I5, q1⟩
/-- name op= e -/
def tAug (i : Nat) (te : TE) (ti : TIp) : TS := fun D σ H => ∃ x, σ[i]? = some (some x) ∧ te σ H fun y H1 => ti x y H1 fun z H2 => D.nx (σ.set i (some z)) H2
/-- o[i] op= e -/
def tAugS (to ti te : TE) (tget : V → V → Hp → VK → Prop) (tip : TIp) (tset : TSet) : TS := fun D σ H => to σ H fun o H1 => ti σ H1 fun i H2 => tget o i H2 fun x H3 => te σ H3 fun y H4 => tip x y H4 fun z H5 => tset o i z H5 fun H6 => D.nx σ H6
/-- o[i], by values -/
def PGet (X : Cx) (t : V → V → Hp → VK → Prop) : Prop :=
  ∀ (pins : List (Addr × Obj)) (s : Shared) (σ : St) (H : Hp) (o i : V) (ov iv : Value) (Q : VK), Inv X pins σ H s → RelV o ov → RelV i iv → t o i H Q →
    wpAny (model X.prog X.w) X.A (getItem ov iv) (EP X pins σ Q) X.xe s
theorem ps_augS {o i e : Expr} {to ti te : TE} {tget : V → V → Hp → VK → Prop} {tip : TIp} {tset : TSet} {op : Operator} {tpos : Pos} (ho : PE X o to) (hi : PE X i ti) (hg : PGet X tget) (he : PE X e te) (hp : PIp X op tip) (hs : PSet X tset)
    (ha : ∀ ov iv new, augStore i ov iv new = (do holding [new, ov, iv] (setItem ov iv new); release [new, ov, iv] []; pure .next) := by intros; rfl) : PS X (.AugAssign (.Subscript o i tpos) op e pos) (tAugS to ti te tget tip tset) := by
  intro pins s σ H D I h
  refine wpAny_AugAssign_SubscriptAny (thn (ho pins s σ H _ I h) fun ov s1 ⟨x1, H1, I1, r1, q1⟩ => ?_) ha
  refine thn (hi pins s1 σ H1 _ I1 q1) fun iv s2 ⟨x2, H2, I2, r2, q2⟩ => ?_
  refine thn (hg pins s2 σ H2 x1 x2 ov iv _ I2 r1 r2 q2) fun old s3 ⟨x3, H3, I3, r3, q3⟩ => ?_
  refine thn (he pins s3 σ H3 _ I3 q3) fun v s4 ⟨x4, H4, I4, r4, q4⟩ => ?_
  refine thn (hp pins s4 σ H4 x3 x4 old v _ I4 r3 r4 q4) fun new s5 ⟨x5, H5, I5, r5, q5⟩ => ?_
  exact thn (hs pins s5 σ H5 x1 x2 x5 ov iv new _ I5 r1 r2 r5 q5) fun _ s6 ⟨H6, I6, q6⟩ => ⟨σ, H6, I6, q6⟩
/-- ints -/
def ipI (f : Int → Int → Int) : TIp := fun x y H Q => ∃ i j, x = .int i ∧ y = .int j ∧ Q (.int (f i j)) H
theorem ip_add : PIp X .Add (ipI fun i j => i + j) := by
  intro pins s σ H x y v u Q I r1 r2 h
  obtain ⟨i, j, e1, e2, q⟩ := h
  subst e1; subst e2
  obtain ⟨t, rfl⟩ := r1
  obtain ⟨t', rfl⟩ := r2
  exact iadd_int ⟨.int _, H, I.tok _, ⟨_, rfl⟩, q⟩
end

/-! ### while -/
section
variable {X : Cx} {pos : Pos}
/-- the invariant W with its measure -/
def tWhile (c : TT) (tb : TS) : TS := fun D σ H => ∃ W : Nat → St → Hp → Prop, (∃ m, W m σ H) ∧ ∀ m σ H, W m σ H →
  c σ H fun b H1 => if b = true then ∃ N : St → Hp → Prop, (∀ σ' H', N σ' H' → ∃ m', m' < m ∧ W m' σ' H') ∧ tb { D with nx := N, ct := N, bk := D.nx } σ H1 else D.nx σ H1
theorem ps_while {c : Expr} {body : List Stmt} {tc : TT} {tb : TS} (hp : PassesOwn (model X.prog X.w) X.A X.env X.xe) (hc : PT X c tc) (hb : PSs X body tb) : PS X (.While c body [] pos) (tWhile tc tb) := by
  intro pins s σ H D I h
  obtain ⟨W, ⟨m0, w0⟩, turn⟩ := h
  refine wpAny_While (codeAny_whileLoop (fun n s' => ∃ σ' H', Inv X pins σ' H' s' ∧ W n σ' H') ?_ m0 ⟨σ, H, I, w0⟩)
  rintro n s1 ⟨σ1, H1, I1, w1⟩
  refine wpAny_passesOwn hp (thn (hc pins s1 σ1 H1 _ I1 (turn n σ1 H1 w1)) fun b s2 ⟨H2, I2, q2⟩ => ?_)
  cases b with
  | true =>
    obtain ⟨N, hN, q2⟩ := q2
    rw [if_pos rfl]
    refine wpAny_passesOwn hp (thn (hb pins s2 σ1 H2 _ I2 q2) fun f s3 q3 => ?_)
    cases f with
    | next =>
      obtain ⟨σ3, H3, I3, n3⟩ := q3
      obtain ⟨m', hm, w3⟩ := hN σ3 H3 n3
      exact ⟨m', hm, σ3, H3, I3, w3⟩
    | cont =>
      obtain ⟨σ3, H3, I3, n3⟩ := q3
      obtain ⟨m', hm, w3⟩ := hN σ3 H3 n3
      exact ⟨m', hm, σ3, H3, I3, w3⟩
    | brk => exact q3
    | ret v => exact q3
  | false =>
    rw [if_neg Bool.false_ne_true]
    exact wpAny_execs_nil ⟨σ1, H2, I2, q2⟩
end

/-! ### what a loop or a comprehension walks -/
/-- at turn i: it yields x (the heap may grow), or it stops -/
structure It where
  go : Nat → Hp → Prop
  yld : Nat → Hp → V → Hp → Prop
  stop : Nat → Hp → Prop
/-- the iterator's own objects may turn: they are not the frame's, not pinned, younger than the entry (or a comprehension's own) -/
def FpOk (X : Cx) (pins : List (Addr × Obj)) (H : Hp) (b : Addr) : Prop :=
  H b = none ∧ b ≠ X.env.locals ∧ b ∉ X.fs ∧ (b ∈ X.ex ∨ X.s₀.heap.objs.size ≤ b) ∧ (∀ x c, X.env.cells.lookup x = some c → c ≠ b) ∧ ∀ p ∈ X.pn ++ pins, p.1 ≠ b
theorem Inv.fpOk {X : Cx} {pins : List (Addr × Obj)} {σ : St} {H H' : Hp} {s : Shared} {b : Addr} (I : Inv X pins σ H s) (hb : s.heap.objs.size ≤ b) (hn : H' b = none) : FpOk X pins H' b := by
  refine ⟨hn, Nat.ne_of_gt (Nat.lt_of_lt_of_le I.lt hb), I.nofs hb, .inr (Nat.le_trans I.sz hb), fun x c e z => ?_, fun p hp z => ?_⟩
  · obtain ⟨v, q⟩ := I.cell x c e
    exact absurd (Nat.lt_of_lt_of_le q.lt (by rw [z]; exact hb)) (Nat.lt_irrefl _)
  · exact absurd (Nat.lt_of_lt_of_le (Heap.lt_size (I.pin p hp).1) (by rw [z]; exact hb)) (Nat.lt_irrefl _)
structure Turn (P : Program) (w : World) (K : PySem.W.Frag) (tg : Expr) (J : It) (fp : List Addr) (it : Addr) (tn : Nat → Heap → Prop) : Prop where
  mem : it ∈ fp
  obj : ∀ i h, tn i h → ∀ b ∈ fp, ∃ o, h.get? b = some o ∧ ∀ v, o.data ≠ .cell v
  keep : ∀ i h h', tn i h → (∀ b ∈ fp, ∀ o, h.get? b = some o → h'.get? b = some o) → tn i h'
  item : ∀ (X : Cx), X.prog = P → X.w = w → X.K = K → X.calm = true → ∀ (i : Nat) (pins : List (Addr × Obj)) (s : Shared) (σ : St) (H : Hp) (E : Value → Shared → Prop), Inv X pins σ H s → (∀ b ∈ fp, FpOk X pins H b) → tn i s.heap → J.go i H →
    wpAny (model P w) X.A (pyNext (.ref it)) (fun r s1 => ∃ u, r = some u ∧
      wpAny (model P w) X.A (letOwnedTupleGo tg (.ref it) u) (fun _ s2 => ∃ x H', Inv X pins σ H' s2 ∧ RelV x u ∧ J.yld i H x H' ∧ tn (i + 1) s2.heap ∧ ∀ b ∈ fp, H' b = none) E s1) E s
  done : ∀ (X : Cx), X.prog = P → X.w = w → X.K = K → X.calm = true → ∀ (i : Nat) (pins : List (Addr × Obj)) (s : Shared) (σ : St) (H : Hp) (E : Value → Shared → Prop), Inv X pins σ H s → (∀ b ∈ fp, FpOk X pins H b) → tn i s.heap → J.stop i H →
    wpAny (model P w) X.A (pyNext (.ref it)) (fun r s1 => r = none ∧ Inv X pins σ H s1) E s
  self : ∀ (A : Around) (i : Nat) (s : Shared) (Q : Value → Shared → Prop) (E : Value → Shared → Prop), tn i s.heap → Q (.ref it) s → wpAny (model P w) A (pyIter (.ref it)) Q E s
abbrev TI := St → Hp → (It → Hp → Prop) → Prop
/-- an iterator has come -/
def PIE (X : Cx) (pins : List (Addr × Obj)) (σ : St) (tg : Expr) (R : It → Hp → Prop) (itv : Value) (s2 : Shared) : Prop :=
  ∃ (it : Addr) (fp : List Addr) (tn : Nat → Heap → Prop) (J : It) (H' : Hp), itv = .ref it ∧ Inv X pins σ H' s2 ∧ Turn X.prog X.w X.K tg J fp it tn ∧ tn 0 s2.heap ∧ (∀ b ∈ fp, FpOk X pins H' b) ∧ R J H'
def PI (X : Cx) (tg iter : Expr) (wi : TI) : Prop :=
  ∀ (pins : List (Addr × Obj)) (s : Shared) (σ : St) (H : Hp) (R : It → Hp → Prop), Inv X pins σ H s → wi σ H R →
    wpAny (model X.prog X.w) X.A (eval iter X.env) (fun v s1 => wpAny (model X.prog X.w) X.A (pyIter v) (PIE X pins σ tg R) X.xe s1) X.xe s

/-- the step ahead of the store is nothing for an iterator that keeps no tuple -/
theorem go_of {M : Model} {A : Around} {E : Value → Shared → Prop} {s : Shared} {tg : Expr} {it : Addr} {u : Value} {o : Obj} {n : String} {vs : Array Value} {Q : Unit → Shared → Prop} (ho : s.heap.get? it = some o) (hc : o.cls = .type n) (hd : o.data = .fields vs)
    (hn : ["enumerate", "zip", "dict_itemiterator", "dict_reverseitemiterator", "odict_iterator", "itertools.zip_longest", "itertools.pairwise"].contains n = false) (hQ : Q () s) : wpAny M A (letOwnedTupleGo tg (.ref it) u) Q E s := by
  unfold letOwnedTupleGo
  cases tg <;> first
    | exact wpAny_pure hQ
    | (cases u <;> first
        | exact wpAny_pure hQ
        | (refine wpAny_bind (wpAny_load ho ?_)
           rw [hc, hd]
           show wpAny M A (if (["enumerate", "zip", "dict_itemiterator", "dict_reverseitemiterator", "odict_iterator", "itertools.zip_longest", "itertools.pairwise"].contains n && vs[0]? == some (rawInt _)) = true then _ else _) Q E s
           rw [if_neg (by intro h; rw [hn, Bool.false_and] at h; cases h)]
           exact wpAny_pure hQ))

/-- the list at a, as it stands at each turn (a loop may append to it) -/
def Itl (K : PySem.W.Frag) (a : Addr) : It :=
  ⟨fun i H => ∃ xs x, SqL K H a xs ∧ xs[i]? = some x, fun i H x H' => H' = H ∧ ∀ xs, SqL K H a xs → xs[i]? = some x, fun i H => ∃ xs, SqL K H a xs ∧ xs.length ≤ i⟩
def Itt (K : PySem.W.Frag) (a : Addr) : It :=
  ⟨fun i H => ∃ xs x, SqT K H a xs ∧ xs[i]? = some x, fun i H x H' => H' = H ∧ ∀ xs, SqT K H a xs → xs[i]? = some x, fun i H => ∃ xs, SqT K H a xs ∧ xs.length ≤ i⟩
/-- lo, lo + 1, .. (n of them) -/
def Itr (lo : Int) (n : Nat) : It := ⟨fun i _ => i < n, fun i H x H' => H' = H ∧ x = .int (lo + i), fun i _ => n ≤ i⟩
theorem turn_list {P : Program} {w : World} {K : PySem.W.Frag} {tg : Expr} (a it : Addr) : Turn P w K tg (Itl K a) [it] it (fun i h => h.IsListIter it a i) where
  mem := by simp
  obj := fun i h st b hb => by
    have e : b = it := by simpa using hb
    subst e
    obtain ⟨o, e, c, d⟩ := st
    exact ⟨o, e, fun v z => by rw [d] at z; cases z⟩
  keep := fun i h h' st k => st.at fun o e => k it (by simp) o e
  item := by
    intro X hP hw hK hc i pins s σ H E I hf st hg
    subst hP hw hK
    obtain ⟨xs, x, hq, hx⟩ := hg
    obtain ⟨its, rv, p, hz⟩ := I.list hq
    obtain ⟨u, hu, ru⟩ := rv.get hx
    obtain ⟨f0, f1, f2, f3, f4, f5⟩ := hf it (by simp)
    refine wpAny_pyNext_list_item st p.isList (x := u) (by simpa using hu) fun h' st' sb => ?_
    have I1 : Inv X pins σ H { s with heap := h' } := I.turned (t' := s.toks) (fun b o hb e => (sb.2 b hb).trans e) f0 f1 f3 f4 f5
    obtain ⟨o, e, c, d⟩ := id st'
    exact ⟨u, rfl, go_of (s := { s with heap := h' }) e c d (by decide) ⟨x, H, I1, ru, ⟨rfl, fun ys hy => by rw [I.list_inj hy hq]; exact hx⟩, st', fun b hb => (hf b hb).1⟩⟩
  done := by
    intro X hP hw hK hc i pins s σ H E I hf st hg
    subst hP hw hK
    obtain ⟨xs, hq, hx⟩ := hg
    obtain ⟨its, rv, p, hz⟩ := I.list hq
    obtain ⟨f0, f1, f2, f3, f4, f5⟩ := hf it (by simp)
    have hl := rv.length
    exact wpAny_pyNext_list_end (I.ok.hd hc) st p.isList (by simp; omega) fun h' eb => ⟨rfl, I.turned (t' := s.toks) (fun b o hb e => eb b o hb e) f0 f1 f3 f4 f5⟩
  self := fun _ _ _ _ _ st h => wpAny_pyIter_listiter st h
theorem turn_range {P : Program} {w : World} {K : PySem.W.Frag} {tg : Expr} (it : Addr) (lo : Int) (n : Nat) : Turn P w K tg (Itr lo n) [it] it (fun i h => IsRangeIter h it (lo + (i : Nat) * 1) ((n : Int) - (i : Nat)) 1) where
  mem := by simp
  obj := fun i h st b hb => by
    have e : b = it := by simpa using hb
    subst e
    exact ⟨_, st, fun v z => by
      have z' : Data.fields _ = Data.cell v := z
      cases z'⟩
  keep := fun i h h' st k => k it (by simp) _ st
  item := by
    intro X hP hw hK hc i pins s σ H E I hf st hg
    subst hP hw hK
    obtain ⟨f0, f1, f2, f3, f4, f5⟩ := hf it (by simp)
    have W := Walks.range (prog := X.prog) (w := X.w) (I.ok.hd hc) it lo 1 n
    refine W.item i s _ _ hg st fun v h' tk hv st' kk => ?_
    obtain ⟨t, rfl⟩ := hv
    have I1 : Inv X pins σ H { s with heap := h', toks := tk } := I.turned (fun b o hb e => kk b o (by simpa using hb) e) f0 f1 f3 f4 f5
    refine ⟨_, rfl, go_of (s := { s with heap := h', toks := tk }) (n := "range_iterator") st' rfl rfl (by decide) ⟨.int (lo + i), H, I1, ⟨t, ?_⟩, ⟨rfl, rfl⟩, st', fun b hb => (hf b hb).1⟩⟩
    rw [Int.mul_one]
  done := by
    intro X hP hw hK hc i pins s σ H E I hf st hg
    subst hP hw hK
    obtain ⟨f0, f1, f2, f3, f4, f5⟩ := hf it (by simp)
    exact wpAny_pyNext_range_end (I.ok.hd hc) st (by have : n ≤ i := hg; omega) fun h' eb => ⟨rfl, I.turned (t' := s.toks) (fun b o hb e => eb b o hb e) f0 f1 f3 f4 f5⟩
  self := fun _ _ _ _ _ st h => wpAny_pyIter_rangeiter st h
end L2

namespace L2
open PySem PySem.Spec PyProof.Rows
section
variable {X : Cx} {tg : Expr}
def iList (K : PySem.W.Frag) (tl : TE) : TI := fun σ H R => tl σ H fun x H1 => ∃ a, x = .ref a ∧ (∃ xs, SqL K H1 a xs) ∧ R (Itl K a) H1
def iTup (K : PySem.W.Frag) (tl : TE) : TI := fun σ H R => tl σ H fun x H1 => ∃ a, x = .ref a ∧ (∃ xs, SqT K H1 a xs) ∧ R (Itt K a) H1
theorem pi_list {l : Expr} {tl : TE} (hl : PE X l tl) : PI X tg l (iList X.K tl) := by
  intro pins s σ H R I h
  refine thn (hl pins s σ H _ I h) fun v s1 ⟨x, H1, I1, r1, q1⟩ => ?_
  obtain ⟨a, e, ⟨xs, hq⟩, q⟩ := q1
  subst e
  cases r1
  obtain ⟨its, rv, p, hz⟩ := I1.list hq
  refine wpAny_pyIter_list p.isList ?_
  refine ⟨s1.heap.objs.size, [s1.heap.objs.size], _, _, H1, rfl, I1.kept (t' := s1.toks) fun b o e => Heap.get?_push_of_some _ e, turn_list a _, ⟨_, Heap.get?_push_size _ rfl, rfl, rfl⟩, fun b hb => ?_, q⟩
  have e : b = s1.heap.objs.size := by simpa using hb
  subst e
  exact I1.fpOk (Nat.le_refl _) (I1.hok.fresh (Nat.le_refl _))
/-- a range object just made, walked -/
theorem range_it {pins : List (Addr × Obj)} {σ : St} {H : Hp} {s : Shared} {R : It → Hp → Prop} {E : Value → Shared → Prop} {lo hi : Int} {t u v : Tok} {tk : Nat} (I : Inv X pins σ H s) (h1 : -(2 ^ 62) ≤ lo) (h2 : lo < 2 ^ 62) (h3 : -(2 ^ 62) ≤ hi) (h4 : hi < 2 ^ 62)
    (q : R (Itr lo (hi - lo).toNat) H) : wpAny (model X.prog X.w) X.A (pyIter (.ref s.heap.objs.size)) (PIE X pins σ tg R) E { s with heap := s.heap.push { cls := .type "range", data := .fields #[.int lo t, .int hi u, .int 1 v] }, toks := tk } := by
  refine wpAny_pyIter_range (IsRange.new ..) (small_one h1 h2 h3 h4) ?_
  have I1 : Inv X pins σ H { s with heap := s.heap.push { cls := .type "range", data := .fields #[.int lo t, .int hi u, .int 1 v] }, toks := tk } := I.kept fun b o e => Heap.get?_push_of_some _ e
  refine ⟨(s.heap.push { cls := .type "range", data := .fields #[.int lo t, .int hi u, .int 1 v] }).objs.size, [(s.heap.push { cls := .type "range", data := .fields #[.int lo t, .int hi u, .int 1 v] }).objs.size], _, _, H, rfl,
    I1.kept (t' := tk) fun b o e => Heap.get?_push_of_some _ e, turn_range _ lo (hi - lo).toNat, ?_, fun b hb => ?_, q⟩
  · have e1 : lo + ((0 : Nat) : Int) * 1 = lo := by simp
    have e2 : (((hi - lo).toNat : Nat) : Int) - ((0 : Nat) : Int) = Builtin.Range.rangeSize lo hi 1 := by rw [rangeSize_one]; split <;> omega
    show IsRangeIter _ _ (lo + ((0 : Nat) : Int) * 1) ((((hi - lo).toNat : Nat) : Int) - ((0 : Nat) : Int)) 1
    rw [e1, e2]
    exact Heap.get?_push_size _ rfl
  · have e : b = (s.heap.push { cls := .type "range", data := .fields #[.int lo t, .int hi u, .int 1 v] }).objs.size := by simpa using hb
    subst e
    exact I1.fpOk (Nat.le_refl _) (I1.hok.fresh (Nat.le_refl _))
def iRng1 (ta : TA) : TI := fun σ H R => ta σ H fun vs H1 => ∃ j : Int, vs = [.int j] ∧ -(2 ^ 62) ≤ j ∧ j < 2 ^ 62 ∧ R (Itr 0 j.toNat) H1
def iRng2 (ta : TA) : TI := fun σ H R => ta σ H fun vs H1 => ∃ i j : Int, vs = [.int i, .int j] ∧ (-(2 ^ 62) ≤ i ∧ i < 2 ^ 62 ∧ -(2 ^ 62) ≤ j ∧ j < 2 ^ 62) ∧ R (Itr i (j - i).toNat) H1
theorem pi_range1 {a : Expr} {ta : TA} {p pos : Pos} (hg : Gl X "range") (hm : X.mg "range" = none) (ha : PA X [a] ta) (hs : starEach [a] X.env = [(false, eval a X.env)] := by rfl) : PI X tg (.Call (.Name "range" p) [a] [] pos) (iRng1 ta) := by
  intro pins s σ H R I h
  refine Call_ (ld_blt I hg hm boot_range (PyProof.Rows.callWith_type1 (thn (ha pos pins s σ H _ I h) fun us s1 ⟨vs, H1, I1, r1, q1⟩ => ?_) hs rfl))
  obtain ⟨j, e, q1, q2, q⟩ := q1
  subst e
  cases r1 with
  | cons r rr =>
    cases rr
    obtain ⟨t, rfl⟩ := r
    exact call_range_1 (range_it I1 (by omega) (by omega) q1 q2 (by simpa using q))
/-! ### for -/
/-- W: the invariant by the turn and a measure; N: what the body is to reach -/
def tFor (wi : TI) (g : TG) (tb : TS) : TS := fun D σ H => wi σ H fun J H1 => ∃ W : Nat → Nat → St → Hp → Prop, (∃ m, W 0 m σ H1) ∧ ∀ i m σ H, W i m σ H →
  (J.stop i H ∧ D.nx σ H) ∨ (J.go i H ∧ ∃ N : St → Hp → Prop, (∀ σ' H', N σ' H' → ∃ m', m' < m ∧ W (i + 1) m' σ' H') ∧ ∀ x H', J.yld i H x H' → g x σ H' fun σ2 H2 => tb { D with nx := N, ct := N, bk := D.nx } σ2 H2)
/-- the records at fp as they stand -/
def pinsAt (fp : List Addr) (h : Heap) : List (Addr × Obj) := fp.filterMap fun b => (h.get? b).map fun o => (b, o)
theorem mem_pinsAt {fp : List Addr} {h : Heap} {b : Addr} {o : Obj} (hb : b ∈ fp) (e : h.get? b = some o) : (b, o) ∈ pinsAt fp h := List.mem_filterMap.mpr ⟨b, hb, by rw [e]; rfl⟩
theorem of_pinsAt {fp : List Addr} {h : Heap} {p : Addr × Obj} (hp : p ∈ pinsAt fp h) : p.1 ∈ fp ∧ h.get? p.1 = some p.2 := by
  obtain ⟨b, hb, e⟩ := List.mem_filterMap.mp hp
  cases q : h.get? b with
  | none => rw [q] at e; cases e
  | some o =>
    rw [q] at e
    have e' : (b, o) = p := Option.some.inj e
    subst e'
    exact ⟨hb, q⟩
theorem Inv.pinned {pins : List (Addr × Obj)} {σ : St} {H : Hp} {s : Shared} {fp : List Addr} (I : Inv X pins σ H s) (hf : ∀ b ∈ fp, FpOk X pins H b) (ho : ∀ b ∈ fp, ∃ o, s.heap.get? b = some o ∧ ∀ v, o.data ≠ .cell v) : Inv X (pins ++ pinsAt fp s.heap) σ H s :=
  I.pins_of fun p hp => (List.mem_append.mp hp).elim (fun z => I.pin p (List.mem_append_right _ z)) fun z => by
    obtain ⟨hb, e⟩ := of_pinsAt z
    obtain ⟨f0, f1, f2, _⟩ := hf p.1 hb
    obtain ⟨o, e', d⟩ := ho p.1 hb
    rw [e] at e'; cases e'
    exact ⟨e, f0, f1, f2, d⟩
theorem Inv.unpinned {pins pl : List (Addr × Obj)} {σ : St} {H : Hp} {s : Shared} (I : Inv X (pins ++ pl) σ H s) : Inv X pins σ H s := I.pins_of fun p hp => I.pin p (List.mem_append_right _ (List.mem_append_left _ hp))
theorem ps_for {iter : Expr} {body : List Stmt} {wi : TI} {g : TG} {tb : TS} {pos : Pos} (hp : PassesOwn (model X.prog X.w) X.A X.env X.xe) (hc : X.calm = true) (hi : PI X tg iter wi) (hg : PG X tg g) (hb : PSs X body tb)
    (hs : ∀ x, foldedSetIterable iter X.env x = pure x := by intro _; rfl) : PS X (.For tg iter body [] pos) (tFor wi g tb) := by
  intro pins s σ H D I h
  refine wpAny_For (thn (hi pins s σ H _ I h) fun v s1 h1 => thn h1 fun itv s2 h2 => ?_) hs
  obtain ⟨it, fp, tn, J, H2, e, I2, T, st2, f2, W, ⟨m0, w0⟩, turn⟩ := h2
  subst e
  -- what stays true of the iterator's objects through the loop
  have stat : ∀ {H' : Hp}, (∀ b ∈ fp, H' b = none) → ∀ b ∈ fp, FpOk X pins H' b := fun hn b hb => ⟨hn b hb, (f2 b hb).2⟩
  refine codeAny_forLoop_any (fun n s' => ∃ i σ' H', Inv X pins σ' H' s' ∧ tn i s'.heap ∧ (∀ b ∈ fp, H' b = none) ∧ W i n σ' H') ?_ m0 ⟨0, σ, H2, I2, st2, fun b hb => (f2 b hb).1, w0⟩
  rintro n s3 ⟨i, σ3, H3, I3, st3, fr3, w3⟩
  rcases turn i n σ3 H3 w3 with ⟨stop, qn⟩ | ⟨go, N, hN, step⟩
  · refine wpAny_passesOwn hp (thn (T.done X rfl rfl rfl hc i pins s3 σ3 H3 X.xe I3 (stat fr3) st3 stop) fun r s4 ⟨hr, I4⟩ => ?_)
    subst hr
    exact wpAny_execs_nil ⟨σ3, H3, I4, qn⟩
  · refine wpAny_passesOwn hp (thn (T.item X rfl rfl rfl hc i pins s3 σ3 H3 X.xe I3 (stat fr3) st3 go) fun r s4 ⟨u, hr, h4⟩ => ?_)
    subst hr
    refine wpAny_passesOwn hp (thn h4 fun _ s5 ⟨x, H5, I5, r5, y5, st5, fr5⟩ => ?_)
    have I5' := I5.pinned (stat fr5) (T.obj _ _ st5)
    refine wpAny_passesOwn hp (thn (hg _ s5 σ3 H5 x u _ I5' r5 (step x H5 y5)) fun _ s6 ⟨σ6, H6, I6, q6⟩ => ?_)
    refine wpAny_passesOwn hp (thn (hb _ s6 σ6 H6 _ I6 q6) fun f s7 q7 => ?_)
    have again : ∀ {σ7 : St} {H7 : Hp}, Inv X (pins ++ pinsAt fp s5.heap) σ7 H7 s7 → N σ7 H7 → ∃ m, m < n ∧ ∃ i σ' H', Inv X pins σ' H' s7 ∧ tn i s7.heap ∧ (∀ b ∈ fp, H' b = none) ∧ W i m σ' H' := fun {σ7 H7} I7 n7 => by
      obtain ⟨m', hm, w7⟩ := hN σ7 H7 n7
      refine ⟨m', hm, i + 1, σ7, H7, I7.unpinned, T.keep _ _ _ st5 fun b hb o e => (I7.pin (b, o) (List.mem_append_right _ (List.mem_append_right _ (mem_pinsAt hb e)))).1, fun b hb => ?_, w7⟩
      obtain ⟨o, e, d⟩ := T.obj _ _ st5 b hb
      exact (I7.pin (b, o) (List.mem_append_right _ (List.mem_append_right _ (mem_pinsAt hb e)))).2.1
    cases f with
    | next => obtain ⟨σ7, H7, I7, n7⟩ := q7; exact again I7 n7
    | cont => obtain ⟨σ7, H7, I7, n7⟩ := q7; exact again I7 n7
    | brk => obtain ⟨σ7, H7, I7, q7⟩ := q7; exact ⟨σ7, H7, I7.unpinned, q7⟩
    | ret v => obtain ⟨x7, σ7, H7, I7, r7, q7⟩ := q7; exact ⟨x7, σ7, H7, I7.unpinned, r7, q7⟩
end

/-! ### the forms one uses -/
/-- over a list that the body leaves as it is -/
theorem for_list {K : PySem.W.Frag} {a : Addr} {xs : List V} {g : TG} {tb : TS} {D : Ends} {σ : St} {H : Hp} (Pv : Nat → St → Hp → Prop) (h0 : Pv 0 σ H) (hl : ∀ i σ H, i ≤ xs.length → Pv i σ H → SqL K H a xs)
    (hs : ∀ i x σ H, xs[i]? = some x → Pv i σ H → g x σ H fun σ2 H2 => tb { D with nx := Pv (i + 1), ct := Pv (i + 1), bk := D.nx } σ2 H2) (hd : ∀ σ H, Pv xs.length σ H → D.nx σ H) :
    ∃ W : Nat → Nat → St → Hp → Prop, (∃ m, W 0 m σ H) ∧ ∀ i m σ H, W i m σ H →
      ((Itl K a).stop i H ∧ D.nx σ H) ∨ ((Itl K a).go i H ∧ ∃ N : St → Hp → Prop, (∀ σ' H', N σ' H' → ∃ m', m' < m ∧ W (i + 1) m' σ' H') ∧ ∀ x H', (Itl K a).yld i H x H' → g x σ H' fun σ2 H2 => tb { D with nx := N, ct := N, bk := D.nx } σ2 H2) := by
  refine ⟨fun i m σ H => m = xs.length - i ∧ i ≤ xs.length ∧ Pv i σ H, ⟨xs.length, by simp, Nat.zero_le _, h0⟩, ?_⟩
  rintro i m σ H ⟨rfl, hi, p⟩
  have q := hl i σ H hi p
  by_cases hlt : i < xs.length
  · refine .inr ⟨⟨xs, xs[i], q, by simp [hlt]⟩, Pv (i + 1), fun σ' H' p' => ⟨xs.length - (i + 1), by omega, rfl, hlt, p'⟩, fun x H' y => ?_⟩
    obtain ⟨e, y⟩ := y
    subst e
    exact hs i x σ _ (y xs q) p
  · have e : i = xs.length := by omega
    subst e
    exact .inl ⟨⟨xs, q, Nat.le_refl _⟩, hd σ H p⟩
theorem for_range {lo : Int} {n : Nat} {g : TG} {tb : TS} {D : Ends} {σ : St} {H : Hp} (Pv : Nat → St → Hp → Prop) (h0 : Pv 0 σ H)
    (hs : ∀ i σ H, i < n → Pv i σ H → g (.int (lo + i)) σ H fun σ2 H2 => tb { D with nx := Pv (i + 1), ct := Pv (i + 1), bk := D.nx } σ2 H2) (hd : ∀ σ H, Pv n σ H → D.nx σ H) :
    ∃ W : Nat → Nat → St → Hp → Prop, (∃ m, W 0 m σ H) ∧ ∀ i m σ H, W i m σ H →
      ((Itr lo n).stop i H ∧ D.nx σ H) ∨ ((Itr lo n).go i H ∧ ∃ N : St → Hp → Prop, (∀ σ' H', N σ' H' → ∃ m', m' < m ∧ W (i + 1) m' σ' H') ∧ ∀ x H', (Itr lo n).yld i H x H' → g x σ H' fun σ2 H2 => tb { D with nx := N, ct := N, bk := D.nx } σ2 H2) := by
  refine ⟨fun i m σ H => m = n - i ∧ i ≤ n ∧ Pv i σ H, ⟨n, by simp, Nat.zero_le _, h0⟩, ?_⟩
  rintro i m σ H ⟨rfl, hi, p⟩
  by_cases hlt : i < n
  · refine .inr ⟨hlt, Pv (i + 1), fun σ' H' p' => ⟨n - (i + 1), by omega, rfl, hlt, p'⟩, fun x H' y => ?_⟩
    obtain ⟨e, y⟩ := y
    subst e y
    exact hs i σ _ hlt p
  · have e : i = n := by omega
    subst e
    exact .inl ⟨Nat.le_refl _, hd σ H p⟩
end L2

namespace L2
open PySem PySem.Spec PyProof.Rows

abbrev R2 := V → V → Hp → VK → Prop
/-- a two-place operation on values: f is binaryOp op, inplaceOp op or compareOp op -/
def OpR (X : Cx) (f : Value → Value → Sem Value) (r : R2) : Prop :=
  ∀ (pins : List (Addr × Obj)) (s : Shared) (σ : St) (H : Hp) (x y : V) (v u : Value) (Q : VK), Inv X pins σ H s → RelV x v → RelV y u → r x y H Q →
    wpAny (model X.prog X.w) X.A (f v u) (EP X pins σ Q) X.xe s
/-- a one-place operation -/
def UnR (X : Cx) (f : Value → Sem Value) (r : V → Hp → VK → Prop) : Prop :=
  ∀ (pins : List (Addr × Obj)) (s : Shared) (σ : St) (H : Hp) (x : V) (v : Value) (Q : VK), Inv X pins σ H s → RelV x v → r x H Q →
    wpAny (model X.prog X.w) X.A (f v) (EP X pins σ Q) X.xe s
/-- a call of a value that is known (a builtin, a type) with values -/
def CallR (X : Cx) (f : Value) (r : List V → Hp → VK → Prop) : Prop :=
  ∀ (pins : List (Addr × Obj)) (s : Shared) (σ : St) (H : Hp) (xs : List V) (us : List Value) (Q : VK), Inv X pins σ H s → Vals xs us → r xs H Q →
    wpAny (model X.prog X.w) X.A (call f us) (EP X pins σ Q) X.xe s
/-- a value's truth -/
def TruR (X : Cx) (r : V → Hp → (Bool → Hp → Prop) → Prop) : Prop :=
  ∀ (pins : List (Addr × Obj)) (s : Shared) (σ : St) (H : Hp) (x : V) (v : Value) (Q : Bool → Hp → Prop), Inv X pins σ H s → RelV x v → r x H Q →
    wpAny (model X.prog X.w) X.A (truthy v) (TP X pins σ Q) X.xe s

def tOp (r : R2) (ta tb : TE) : TE := fun σ H Q => ta σ H fun x H1 => tb σ H1 fun y H2 => r x y H2 Q
def tUn (r : V → Hp → VK → Prop) (ta : TE) : TE := fun σ H Q => ta σ H fun x H1 => r x H1 Q
/-- ints in, under C, and a value out -/
def rI (C : Int → Int → Prop) (g : Int → Int → V) : R2 := fun x y H Q => ∃ i j, x = .int i ∧ y = .int j ∧ C i j ∧ Q (g i j) H
def rI0 (g : Int → Int → V) : R2 := fun x y H Q => ∃ i j, x = .int i ∧ y = .int j ∧ Q (g i j) H
def rU (g : Int → V) : V → Hp → VK → Prop := fun x H Q => ∃ i, x = .int i ∧ Q (g i) H

section
variable {X : Cx} {a b c : Expr} {ta tb tc : TE} {pos : Pos}

theorem binT (ha : PE X a ta) (hb : PE X b tb) {pins : List (Addr × Obj)} {s : Shared} {σ : St} {H : Hp} {R : V → V → Hp → Prop} (I : Inv X pins σ H s)
    (h : ta σ H fun x H1 => tb σ H1 fun y H2 => R x y H2) {Q : Value → Shared → Prop} {f : Value → Value → Sem Value}
    (hf : ∀ v u s2 x y H2, Inv X pins σ H2 s2 → RelV x v → RelV y u → R x y H2 → wpAny (model X.prog X.w) X.A (f v u) Q X.xe s2) :
    wpAny (model X.prog X.w) X.A (eval a X.env) (fun v s₁ => wpAny (model X.prog X.w) X.A (eval b X.env) (fun u s₂ => wpAny (model X.prog X.w) X.A (f v u) Q X.xe s₂) X.xe s₁) X.xe s := by
  refine thn (ha pins s σ H _ I h) fun v s1 ⟨x, H1, I1, r1, q1⟩ => ?_
  refine thn (hb pins s1 σ H1 _ I1 q1) fun u s2 ⟨y, H2, I2, r2, q2⟩ => ?_
  exact hf v u s2 x y H2 I2 r1 r2 q2

theorem pe_op {op : Operator} {r : R2} (ho : OpR X (binaryOp op) r) (ha : PE X a ta) (hb : PE X b tb) : PE X (.BinOp a op b pos) (tOp r ta tb) := by
  intro pins s σ H Q I h
  exact wpAny_BinOp (binT ha hb I h fun v u s2 x y H2 I2 rx ry q => ho pins s2 σ H2 x y v u Q I2 rx ry q)
theorem pe_un {op : UnaryOp} {r : V → Hp → VK → Prop} (ho : UnR X (unaryOp op) r) (ha : PE X a ta) : PE X (.UnaryOp op a pos) (tUn r ta) := by
  intro pins s σ H Q I h
  exact UnaryOp_ (thn (ha pins s σ H _ I h) fun v s1 ⟨x, H1, I1, r1, q1⟩ => ho pins s1 σ H1 x v Q I1 r1 q1)
/-! ### ints -/
theorem opI {f : Value → Value → Sem Value} {C : Int → Int → Prop} {g : Int → Int → Int}
    (rule : ∀ (i j : Int) (t u : Tok) (s : Shared) (Q : Value → Shared → Prop) (E : Value → Shared → Prop), C i j → Q (.int (g i j) s.toks) { s with toks := s.toks + 1 } → wpAny (model X.prog X.w) X.A (f (.int i t) (.int j u)) Q E s) :
    OpR X f (rI C fun i j => .int (g i j)) := by
  intro pins s σ H x y v u Q I rx ry h
  obtain ⟨i, j, rfl, rfl, hc, q⟩ := h
  obtain ⟨t, rfl⟩ := rx
  obtain ⟨t', rfl⟩ := ry
  exact rule i j t t' s _ _ hc ⟨.int (g i j), H, I.tok _, ⟨_, rfl⟩, q⟩
theorem opI0 {f : Value → Value → Sem Value} {g : Int → Int → Int}
    (rule : ∀ (i j : Int) (t u : Tok) (s : Shared) (Q : Value → Shared → Prop) (E : Value → Shared → Prop), Q (.int (g i j) s.toks) { s with toks := s.toks + 1 } → wpAny (model X.prog X.w) X.A (f (.int i t) (.int j u)) Q E s) :
    OpR X f (rI0 fun i j => .int (g i j)) := by
  intro pins s σ H x y v u Q I rx ry h
  obtain ⟨i, j, rfl, rfl, q⟩ := h
  obtain ⟨t, rfl⟩ := rx
  obtain ⟨t', rfl⟩ := ry
  exact rule i j t t' s _ _ ⟨.int (g i j), H, I.tok _, ⟨_, rfl⟩, q⟩
theorem opB0 {f : Value → Value → Sem Value} {g : Int → Int → Bool}
    (rule : ∀ (i j : Int) (t u : Tok) (s : Shared) (Q : Value → Shared → Prop) (E : Value → Shared → Prop), Q (.bool (g i j)) s → wpAny (model X.prog X.w) X.A (f (.int i t) (.int j u)) Q E s) :
    OpR X f (rI0 fun i j => .bl (g i j)) := by
  intro pins s σ H x y v u Q I rx ry h
  obtain ⟨i, j, rfl, rfl, q⟩ := h
  obtain ⟨t, rfl⟩ := rx
  obtain ⟨t', rfl⟩ := ry
  exact rule i j t t' s _ _ ⟨.bl (g i j), H, I, rfl, q⟩

def CDiv (i j : Int) : Prop := 0 < j ∧ j < 1073741824
def CDivN (i j : Int) : Prop := j ≠ 0 ∧ j.natAbs < 1073741824
def CPow (i j : Int) : Prop := 0 ≤ j ∧ j ≤ 1000000 ∧ i.natAbs < 2 ^ 64
def CMul (i j : Int) : Prop := (-(2 ^ 64) < i ∧ i < 2 ^ 64) ∨ (-(2 ^ 64) < j ∧ j < 2 ^ 64)
theorem CMul.ok {i j : Int} (h : CMul i j) : IntMulOk i j := by
  rcases h with ⟨h1, h2⟩ | ⟨h1, h2⟩
  · exact .of_left (intBits_le_64 h1 h2)
  · exact .of_right (intBits_le_64 h1 h2)
theorem op_add : OpR X (binaryOp .Add) (rI0 fun i j => .int (i + j)) := opI0 fun _ _ _ _ _ _ _ q => add_int q
theorem op_sub : OpR X (binaryOp .Sub) (rI0 fun i j => .int (i - j)) := opI0 fun _ _ _ _ _ _ _ q => sub_int q
/-- % by a positive divisor of any size -/
theorem op_mod : OpR X (binaryOp .Mod) (rI (fun _ j => 0 < j) fun i j => .int (i % j)) := opI fun i j _ _ _ _ _ hc q => by
  have h1 : (0 : Int) < j := hc
  exact mod_int' (by omega) (by rw [Int.fmod_eq_emod_of_nonneg i (by omega)]; exact q)
theorem unI {f : Value → Sem Value} {g : Int → Int}
    (rule : ∀ (i : Int) (t : Tok) (s : Shared) (Q : Value → Shared → Prop) (E : Value → Shared → Prop), Q (.int (g i) s.toks) { s with toks := s.toks + 1 } → wpAny (model X.prog X.w) X.A (f (.int i t)) Q E s) :
    UnR X f (rU fun i => .int (g i)) := by
  intro pins s σ H x v Q I rx h
  obtain ⟨i, rfl, q⟩ := h
  obtain ⟨t, rfl⟩ := rx
  exact rule i t s _ _ ⟨.int (g i), H, I.tok _, ⟨_, rfl⟩, q⟩
theorem un_neg : UnR X (unaryOp .USub) (rU fun i => .int (-i)) := unI fun _ _ _ _ _ q => neg_int q
/-! ### bools among ints: n += (a < b) -/
end

/-! ### comparisons -/
/-- the scalars that == tells apart as data does -/
def scal : V → V → Bool
  | .non, .non => true | .non, .int _ => true | .int _, .non => true | .non, .bl _ => true | .bl _, .non => true | .non, .str _ => true | .str _, .non => true
  | .int _, .int _ => true | .bl _, .bl _ => true | .str _, .str _ => true | .byt _, .byt _ => true
  | .int _, .str _ => true | .str _, .int _ => true | .bl _, .str _ => true | .str _, .bl _ => true
  | _, _ => false
def rEq : R2 := fun x y H Q => scal x y = true ∧ Q (.bl (decide (x = y))) H
def rNe : R2 := fun x y H Q => scal x y = true ∧ Q (.bl (!decide (x = y))) H

theorem dec_int {i j : Int} : decide (V.int i = V.int j) = (i == j) := by
  rw [Bool.eq_iff_iff]
  simp
theorem dec_bl {i j : Bool} : decide (V.bl i = V.bl j) = (i == j) := by
  rw [Bool.eq_iff_iff]
  simp
theorem dec_str {i j : Str} : decide (V.str i = V.str j) = (i == j) := by
  rw [Bool.eq_iff_iff]
  simp
theorem dec_byt {i j : Array UInt8} : decide (V.byt i = V.byt j) = (i.toList == j.toList) := by
  rw [Bool.eq_iff_iff]
  cases i
  cases j
  simp

section
variable {X : Cx} {a b c : Expr} {ta tb tc : TE} {pos : Pos}
theorem fin_bl {pins : List (Addr × Obj)} {σ : St} {H : Hp} {s : Shared} {Q : VK} {k k' : Bool} (I : Inv X pins σ H s) (q : Q (.bl k) H) (e : k = k') : EP X pins σ Q (.bool k') s := by
  subst e
  exact ⟨.bl k, H, I, rfl, q⟩
theorem op_eq : OpR X (compareOp .Eq) rEq := by
  intro pins s σ H x y v u Q I rx ry h
  obtain ⟨hs, q⟩ := h
  cases x with
  | non =>
    cases rx
    cases y with
    | non => cases ry; exact PySem.EqNone.eq_none_none (fin_bl I q (by simp))
    | bl j => cases ry; exact PySem.EqNone.eq_none_bool (fin_bl I q (by simp))
    | int j => obtain ⟨t', rfl⟩ := ry; exact PySem.EqNone.eq_none_int (fin_bl I q (by simp))
    | str j => obtain ⟨t', rfl⟩ := ry; exact PySem.EqNone.eq_none_str (fin_bl I q (by simp))
    | _ => exact absurd (show false = true from hs) Bool.false_ne_true
  | bl i =>
    cases rx
    cases y with
    | non => cases ry; exact PySem.EqNone.eq_bool_none (fin_bl I q (by simp))
    | bl j => cases ry; exact eq_bool (fin_bl I q dec_bl)
    | str j => obtain ⟨t', rfl⟩ := ry; exact PySem.EqMixed.eq_bool_str (fin_bl I q (by simp))
    | _ => exact absurd (show false = true from hs) Bool.false_ne_true
  | int i =>
    obtain ⟨t, rfl⟩ := rx
    cases y with
    | non => cases ry; exact PySem.EqNone.eq_int_none (fin_bl I q (by simp))
    | int j => obtain ⟨t', rfl⟩ := ry; exact eq_int (fin_bl I q dec_int)
    | str j => obtain ⟨t', rfl⟩ := ry; exact PySem.EqMixed.eq_int_str (fin_bl I q (by simp))
    | _ => exact absurd (show false = true from hs) Bool.false_ne_true
  | str i =>
    obtain ⟨t, rfl⟩ := rx
    cases y with
    | non => cases ry; exact PySem.EqNone.eq_str_none (fin_bl I q (by simp))
    | bl j => cases ry; exact PySem.EqMixed.eq_str_bool (fin_bl I q (by simp))
    | int j => obtain ⟨t', rfl⟩ := ry; exact PySem.EqMixed.eq_str_int (fin_bl I q (by simp))
    | str j => obtain ⟨t', rfl⟩ := ry; exact eq_str (fin_bl I q dec_str)
    | _ => exact absurd (show false = true from hs) Bool.false_ne_true
  | byt i =>
    obtain ⟨t, rfl⟩ := rx
    cases y with
    | byt j => obtain ⟨t', rfl⟩ := ry; exact PySem.W.eq_bytes (fin_bl I q dec_byt)
    | _ => exact absurd (show false = true from hs) Bool.false_ne_true
  | _ => cases y <;> exact absurd (show false = true from hs) Bool.false_ne_true
theorem op_ne : OpR X (compareOp .NotEq) rNe := by
  intro pins s σ H x y v u Q I rx ry h
  obtain ⟨hs, q⟩ := h
  cases x with
  | non =>
    cases rx
    cases y with
    | non => cases ry; exact PySem.EqNone.ne_none_none (fin_bl I q (by simp))
    | bl j => cases ry; exact PySem.EqNone.ne_none_bool (fin_bl I q (by simp))
    | int j => obtain ⟨t', rfl⟩ := ry; exact PySem.EqNone.ne_none_int (fin_bl I q (by simp))
    | str j => obtain ⟨t', rfl⟩ := ry; exact PySem.EqNone.ne_none_str (fin_bl I q (by simp))
    | _ => exact absurd (show false = true from hs) Bool.false_ne_true
  | bl i =>
    cases rx
    cases y with
    | non => cases ry; exact PySem.EqNone.ne_bool_none (fin_bl I q (by simp))
    | bl j => cases ry; exact ne_bool (fin_bl I q (congrArg not dec_bl))
    | str j => obtain ⟨t', rfl⟩ := ry; exact PySem.EqMixed.ne_bool_str (fin_bl I q (by simp))
    | _ => exact absurd (show false = true from hs) Bool.false_ne_true
  | int i =>
    obtain ⟨t, rfl⟩ := rx
    cases y with
    | non => cases ry; exact PySem.EqNone.ne_int_none (fin_bl I q (by simp))
    | int j => obtain ⟨t', rfl⟩ := ry; exact ne_int (fin_bl I q (congrArg not dec_int))
    | str j => obtain ⟨t', rfl⟩ := ry; exact PySem.EqMixed.ne_int_str (fin_bl I q (by simp))
    | _ => exact absurd (show false = true from hs) Bool.false_ne_true
  | str i =>
    obtain ⟨t, rfl⟩ := rx
    cases y with
    | non => cases ry; exact PySem.EqNone.ne_str_none (fin_bl I q (by simp))
    | bl j => cases ry; exact PySem.EqMixed.ne_str_bool (fin_bl I q (by simp))
    | int j => obtain ⟨t', rfl⟩ := ry; exact PySem.EqMixed.ne_str_int (fin_bl I q (by simp))
    | str j => obtain ⟨t', rfl⟩ := ry; exact ne_str (fin_bl I q (congrArg not dec_str))
    | _ => exact absurd (show false = true from hs) Bool.false_ne_true
  | byt i =>
    obtain ⟨t, rfl⟩ := rx
    cases y with
    | byt j => obtain ⟨t', rfl⟩ := ry; exact PySem.W.ne_bytes (fin_bl I q (congrArg not dec_byt))
    | _ => exact absurd (show false = true from hs) Bool.false_ne_true
  | _ => cases y <;> exact absurd (show false = true from hs) Bool.false_ne_true

theorem op_lt : OpR X (compareOp .Lt) (rI0 fun i j => .bl (decide (i < j))) := opB0 fun _ _ _ _ _ _ _ q => lt_int q
theorem op_gt : OpR X (compareOp .Gt) (rI0 fun i j => .bl (decide (j < i))) := opB0 fun _ _ _ _ _ _ _ q => gt_int q
theorem op_notN : OpR X (compareOp .IsNot) (fun x y H Q => y = .non ∧ Q (.bl (!decide (x = .non))) H) := by
  intro pins s σ H x y v u Q I rx ry h
  obtain ⟨rfl, q⟩ := h
  cases ry
  refine isnot_none_gen (fin_bl I q ?_)
  cases x <;> first
    | (cases rx; rfl)
    | (obtain ⟨t, rfl⟩ := rx; rfl)

/-- is, is not of two objects that are tracked lists or instances -/
def isObj : HO → Bool
  | .lst _ => true
  | .ins _ _ _ => true
  | _ => false
theorem nomark (b : Expr) {op : CmpOp} (h : op ≠ .In := by decide) (h2 : op ≠ .NotIn := by decide) : behindInMarks op b = false := by
  have e1 : (op == CmpOp.In) = false := by cases op <;> first | rfl | exact absurd rfl h
  have e2 : (op == CmpOp.NotIn) = false := by cases op <;> first | rfl | exact absurd rfl h2
  cases b <;> simp [behindInMarks, e1, e2]
/-- a reading of a value as a test -/
def tTest (t : TE) : TT := fun σ H Q => t σ H fun x H' => ∃ k, x = .bl k ∧ Q k H'
theorem pt_cmpR {op : CmpOp} {r : R2} (ho : OpR X (compareOp op) r) (ha : PE X a ta) (hb : PE X b tb) (hm : behindInMarks op b = false) : PT X (.Compare a [op] [b] pos) (tTest (tOp r ta tb)) := by
  intro pins s σ H Q I h
  refine wpAny_isTrue_Compare1 (thn (ha pins s σ H _ I h) fun v s1 ⟨x, H1, I1, r1, q1⟩ => thn (hb pins s1 σ H1 _ I1 q1) fun u s2 ⟨y, H2, I2, r2, q2⟩ =>
    thn (ho pins s2 σ H2 x y v u _ I2 r1 r2 q2) fun c s3 ⟨z, H3, I3, r3, k, e, q3⟩ => ?_) hm
  subst e
  cases r3
  exact wpAny_truthy_bool ⟨H3, I3, q3⟩
/-- a op1 b op2 c -/
def tChain (r r' : R2) (ta tb tc : TE) : TE := fun σ H Q => ta σ H fun x H1 => tb σ H1 fun y H2 => r x y H2 fun z H3 => ∃ k, z = .bl k ∧
  (if k = true then tc σ H3 fun w' H4 => r' y w' H4 Q else Q (.bl false) H3)
theorem pe_chain {op op' : CmpOp} {r r' : R2} (ho : OpR X (compareOp op) r) (ho' : OpR X (compareOp op') r') (ha : PE X a ta) (hb : PE X b tb) (hc : PE X c tc)
    (hm : lastMarks [op, op'] [b, c] = false := by with_unfolding_all rfl) : PE X (.Compare a [op, op'] [b, c] pos) (tChain r r' ta tb tc) := by
  intro pins s σ H Q I h
  refine Compare_chain (thn (ha pins s σ H _ I h) fun v s1 ⟨x, H1, I1, r1, q1⟩ => chain_link (thn (hb pins s1 σ H1 _ I1 q1) fun u s2 ⟨y, H2, I2, r2, q2⟩ =>
    thn (ho pins s2 σ H2 x y v u _ I2 r1 r2 q2) fun d s3 ⟨z, H3, I3, r3, k, e, q3⟩ => ?_)) hm
  subst e
  cases r3
  refine wpAny_truthy_bool ?_
  cases k with
  | false => exact ite_ff ⟨.bl false, H3, I3, rfl, q3⟩
  | true => exact ite_tt (chain_last (thn (hc pins s3 σ H3 _ I3 q3) fun w' s4 ⟨z', H4, I4, r4, q4⟩ => ho' pins s4 σ H4 y z' u w' Q I4 r2 r4 q4))
theorem pt_chain {op op' : CmpOp} {r r' : R2} (ho : OpR X (compareOp op) r) (ho' : OpR X (compareOp op') r') (ha : PE X a ta) (hb : PE X b tb) (hc : PE X c tc)
    (hm : lastMarks [op, op'] [b, c] = false := by with_unfolding_all rfl) : PT X (.Compare a [op, op'] [b, c] pos) (tTest (tChain r r' ta tb tc)) := by
  intro pins s σ H Q I h
  refine isTrue_chain (thn (ha pins s σ H _ I h) fun v s1 ⟨x, H1, I1, r1, q1⟩ => test_link (thn (hb pins s1 σ H1 _ I1 q1) fun u s2 ⟨y, H2, I2, r2, q2⟩ =>
    thn (ho pins s2 σ H2 x y v u _ I2 r1 r2 q2) fun d s3 ⟨z, H3, I3, r3, k, e, q3⟩ => ?_)) hm
  subst e
  cases r3
  refine wpAny_truthy_bool ?_
  cases k with
  | false =>
    obtain ⟨k', e', q'⟩ := q3
    cases e'
    exact ite_ff ⟨H3, I3, q'⟩
  | true =>
    refine ite_tt (test_last (thn (hc pins s3 σ H3 _ I3 q3) fun w' s4 ⟨z', H4, I4, r4, q4⟩ => thn (ho' pins s4 σ H4 y z' u w' _ I4 r2 r4 q4) fun d' s5 ⟨z2, H5, I5, r5, k2, e2, q5⟩ => ?_))
    subst e2
    cases r5
    exact wpAny_truthy_bool ⟨H5, I5, q5⟩

/-! ### truth -/
/-- a value's truth by the abstract heap -/
def TruV (K : PySem.W.Frag) (x : V) (H : Hp) (k : Bool) : Prop :=
  match x with
  | .non => k = false
  | .bl b => k = b
  | .int i => k = (i != 0)
  | .str y => y.length ≤ sizeLine ∧ k = ((y.length : Int) != 0)
  | .byt y => y.size ≤ sizeLine ∧ k = ((y.size : Int) != 0)
  | .ref p => (∃ xs, SqL K H p xs ∧ k = !xs.isEmpty) ∨ (∃ xs, SqT K H p xs ∧ k = !xs.isEmpty) ∨ ∃ kvs, H p = some (.dK kvs) ∧ k = !kvs.isEmpty
  | _ => False
theorem line63 : (sizeLine : Nat) < 2 ^ 63 := by rw [sizeLine_eq]; decide
/-! ### strs and bytes -/
def PlainIxT (b : Expr) : Prop := ∀ o i, subscripted b false o i = operate [o, i] (getItem o i)
/-! ### scalar builtins, by CallR -/
theorem vals1 {x : V} {us : List Value} (r : Vals [x] us) : ∃ u, us = [u] ∧ RelV x u := by
  cases r with
  | cons r1 r2 => cases r2; exact ⟨_, rfl, r1⟩
theorem vals2 {x y : V} {us : List Value} (r : Vals [x, y] us) : ∃ u w', us = [u, w'] ∧ RelV x u ∧ RelV y w' := by
  cases r with
  | cons r1 r2 =>
    cases r2 with
    | cons r3 r4 => cases r4; exact ⟨_, _, rfl, r1, r3⟩
/-- len of a str, a bytes, a list, a tuple -/
def LenV (K : PySem.W.Frag) (x : V) (H : Hp) (n : Nat) : Prop :=
  match x with
  | .str y => y.length ≤ sizeLine ∧ n = y.length
  | .byt y => y.size ≤ sizeLine ∧ n = y.size
  | .ref p => (∃ xs, SqL K H p xs ∧ n = xs.length) ∨ ∃ xs, SqT K H p xs ∧ n = xs.length
  | _ => False
end
end L2

namespace L2
open PySem PySem.Spec PyProof.Rows

/-! ### an instance, its attributes a map -/
structure ObjM (h : Heap) (x dx C : Addr) (mA : Str → Option Value) : Prop where
  obj : h.get? x = some (PySem.W.instObj C dx)
  ns : h.Ns1 dx mA
  ne : dx ≠ x

theorem lookIn_ns {h : Heap} {dx : Addr} {mA : Str → Option Value} (n : h.Ns1 dx mA) : ∃ od, h.get? dx = some od ∧ ∀ name, PySem.W.lookIn name od = some (mA name) := by
  obtain ⟨o, es, ep, ho, hd, hk, _, hm⟩ := n
  refine ⟨o, ho, fun name => ?_⟩
  have e := hm name
  unfold nsFind findBy at e
  rw [← Array.find?_toList] at e
  unfold PySem.W.lookIn
  rw [hd]
  dsimp only
  split
  · rename_i y q
    rw [q] at e
    exact congrArg some e
  · rename_i q
    rw [q] at e
    have a : es.toList.any (·.refKey) = false := by
      rw [List.any_eq_false]
      intro y hy
      obtain ⟨z, t, hkey⟩ := hk y (Array.mem_toList_iff.mp hy)
      simp [DictEntry.refKey, hkey]
    have a' : ¬ es.toList.any (·.refKey) = true := by rw [a]; exact Bool.false_ne_true
    rw [if_neg a']
    exact congrArg some e

theorem ObjM.look {h : Heap} {x dx C : Addr} {mA : Str → Option Value} (I : ObjM h x dx C mA) : ∃ od, PySem.W.InstAt h x (PySem.W.instObj C dx) C (some od) ∧ ∀ name, PySem.W.lookIn name od = some (mA name) :=
  let ⟨od, ho, hl⟩ := lookIn_ns I.ns
  ⟨od, ⟨I.obj, rfl, rfl, ho⟩, hl⟩

section
variable {prog : Program} {w : World} {A : Around} {E : Value → Shared → Prop} {s : Shared} {K : PySem.W.Frag} {x dx C f : Addr} {mA : Str → Option Value} {name : Str} {v : Value}

end

/-! ### the attributes as a list of pairs -/
def putF (f : Str) (v : V) : List (Str × V) → List (Str × V)
  | [] => [(f, v)]
  | (g, x) :: r => if g = f then (g, v) :: r else (g, x) :: putF f v r
section
variable {P : Program} {w : World} {H H' : Hp} {h h' : Heap} {a C dx : Addr} {fs fs' : List (Str × V)}
theorem ins_get (hok : HOk P w H h) (e : H a = some (.ins C dx fs)) : ∃ mA, ObjM h a dx C mA ∧ (∀ f, RelO (fs.lookup f) (mA f)) ∧ PySem.Within mA (fs.map (·.1)) ∧ fs.length ≤ 1000 ∧ H dx = some (.own a) := by
  obtain ⟨d, z, ne, ob, mA, n, r, q⟩ := (show ObjOk P w H h a (.ins C dx fs) from hok a _ e)
  exact ⟨mA, ⟨ob, n, ne⟩, r, q, z, d⟩
end

/-! ### what of the text a class must have -/
structure Cls (K : PySem.W.Frag) (C : Addr) : Prop where
  pg : PySem.W.plainGet K C Str.empty = true
  hd : PySem.W.hasDictIn K C = true
  po : PySem.W.plainOver K C = true
  sa : PySem.W.findIn K (.ref C) "__setattr__" = some (some (.builtin "object.__setattr__"))
theorem Cls.get {K : PySem.W.Frag} {C : Addr} (c : Cls K C) (f : Str) : PySem.W.plainGet K C f = true := c.pg
/-- no class of it has the name -/
def NoAttr (K : PySem.W.Frag) (C : Addr) (f : Str) : Prop := PySem.W.findIn K (.ref C) f = some none
/-- a constant of the class -/
structure Con (K : PySem.W.Frag) (C : Addr) (f : Str) (v : V) (u : Value) : Prop where
  at_ : PySem.W.findIn K (.ref C) f = some (some u)
  rel : RelV v u
  get : PySem.W.specialIn K u "__get__" = some none
  cp : PySem.W.copiedNames.contains f = false
/-- a method: a plain def of the class or of one above it -/
structure Meth (K : PySem.W.Frag) (C : Addr) (m : Str) (f : Addr) : Prop where
  at_ : PySem.W.findIn K (.ref C) m = some (some (.ref f))
  fn : PySem.W.isFn K (.ref f) = true
  kp : PySem.W.keepIn K (.ref f) = true

section
variable {X : Cx} {pins : List (Addr × Obj)} {σ : St} {H : Hp} {s : Shared} {a C dx : Addr} {fs : List (Str × V)} {f : Str} {v : V} {A : Around} {E : Value → Shared → Prop}

end

/-! ### readings and rules -/
/-- e.f, an attribute of the instance -/
def tFld (K : PySem.W.Frag) (ta : TE) (f : Str) : TE := fun σ H Q => ta σ H fun x H1 => ∃ a C dx fs v, x = .ref a ∧ H1 a = some (.ins C dx fs) ∧ Cls K C ∧ NoAttr K C f ∧ fs.lookup f = some v ∧ Q v H1
/-- e.f, a constant of the class -/
def tCon (K : PySem.W.Frag) (ta : TE) (f : Str) : TE := fun σ H Q => ta σ H fun x H1 => ∃ a C dx fs v u, x = .ref a ∧ H1 a = some (.ins C dx fs) ∧ Cls K C ∧ Con K C f v u ∧ fs.lookup f = none ∧ Q v H1
/-- e.f = value -/
def sFld (K : PySem.W.Frag) (ta tv : TE) (f : Str) : TS := fun D σ H => tv σ H fun y H1 => ta σ H1 fun x H2 => ∃ a C dx fs, x = .ref a ∧ H2 a = some (.ins C dx fs) ∧ Cls K C ∧ NoAttr K C f ∧ fs.length < 1000 ∧
  D.nx σ (upd H2 a (.ins C dx (putF f y fs)))
/-- an augmented operator on two values -/
def InOp (X : Cx) (op : Operator) (rd : V → V → Hp → VK → Prop) : Prop :=
  ∀ (pins : List (Addr × Obj)) (s : Shared) (σ : St) (H : Hp) (x y : V) (u v : Value) (Q : VK), Inv X pins σ H s → RelV x u → RelV y v → rd x y H Q → wpAny (model X.prog X.w) X.A (inplaceOp op u v) (EP X pins σ Q) X.xe s
/-- e.f op= value -/
def sFldAug (K : PySem.W.Frag) (ta tv : TE) (rd : V → V → Hp → VK → Prop) (f : Str) : TS := fun D σ H => ta σ H fun x H1 => ∃ a C dx fs v, x = .ref a ∧ H1 a = some (.ins C dx fs) ∧ Cls K C ∧ NoAttr K C f ∧ fs.lookup f = some v ∧
  tv σ H1 fun y H2 => rd v y H2 fun z H3 => ∃ dx' fs', H3 a = some (.ins C dx' fs') ∧ fs'.length < 1000 ∧ D.nx σ (upd H3 a (.ins C dx' (putF f z fs')))

section
variable {X : Cx} {o e value : Expr} {f : Str} {pos pos' tpos : Pos} {ta tv : TE}
def rAdd : V → V → Hp → VK → Prop := fun x y H Q => ∃ i j, x = .int i ∧ y = .int j ∧ Q (.int (i + j)) H
def rSub : V → V → Hp → VK → Prop := fun x y H Q => ∃ i j, x = .int i ∧ y = .int j ∧ Q (.int (i - j)) H
end

/-! ### isinstance -/
section
variable {X : Cx} {pins : List (Addr × Obj)} {σ : St} {H : Hp} {s : Shared} {A : Around} {E : Value → Shared → Prop} {Q : Value → Shared → Prop} {c : Value} {b : Bool}
/-- the type of a value, as the fragment's deciders take it; for an instance its class -/
inductive TyOf (K : PySem.W.Frag) (H : Hp) : V → Value → Prop where
  | non : TyOf K H .non (.type "NoneType")
  | bl (x : Bool) : TyOf K H (.bl x) (.type "bool")
  | int (i : Int) : TyOf K H (.int i) (.type "int")
  | str (x : Str) : TyOf K H (.str x) (.type "str")
  | flt (x : UInt64) : TyOf K H (.flt x) (.type "float")
  | lst {a : Addr} {xs : List V} (e : H a = some (.lst xs)) : TyOf K H (.ref a) (.type "list")
  | frz {a : Addr} {o : Obj} {xs : List V} (e : H a = some (.frz o (.lst xs))) : TyOf K H (.ref a) (.type "list")
  | tup {a : Addr} {xs : List V} (e : H a = some (.tup xs)) : TyOf K H (.ref a) (.type "tuple")
  | dK {a : Addr} {kvs : List (Key × V)} (e : H a = some (.dK kvs)) : TyOf K H (.ref a) (.type "dict")
  | dT {a : Addr} {kvs : List (List Key × V)} (e : H a = some (.dT kvs)) : TyOf K H (.ref a) (.type "dict")
  | ins {a C dx : Addr} {fs : List (Str × V)} (e : H a = some (.ins C dx fs)) (cl : Cls K C) (ha : PySem.W.findIn K (.ref C) "__class__" = some (some (.builtin "object.__class__")))
      (hn : PySem.W.specialIn K (.builtin "object.__class__") "__get__" = some (some (.builtin "getset_descriptor.__get__"))) (htk : PySem.W.takesIn K (.builtin "object.__class__") = some true)
      (hm : PySem.W.mroIn K C (.type "object") = some true) : TyOf K H (.ref a) (.ref C)
/-- isinstance(x, c) for one class c, a built-in or an own one: kitOne's answer -/
theorem isinst_ok {x : V} {u t : Value} (I : Inv X pins σ H s) (rx : RelV x u) (ty : TyOf X.K H x t) (e : PySem.W.kitOne X.K t c = some b) (h : ∀ tk, Q (.bool b) { s with toks := tk }) :
    wpAny (model X.prog X.w) A (call (.builtin "isinstance") [u, c]) Q E s := by
  cases ty with
  | non => cases (show u = Value.none from rx); exact PySem.W.kia_one PySem.W.kitx_none I.kIn True.intro e (fun z => nomatch z) h
  | bl y => cases (show u = Value.bool y from rx); exact PySem.W.kia_one PySem.W.kitx_bool I.kIn True.intro e (fun z => nomatch z) h
  | int i => obtain ⟨t, q⟩ := (show ∃ t, u = Value.int i t from rx); cases q; exact PySem.W.kia_one PySem.W.kitx_int I.kIn True.intro e (fun z => nomatch z) h
  | str y => obtain ⟨t, q⟩ := (show ∃ t, u = Value.str y t from rx); cases q; exact PySem.W.kia_one PySem.W.kitx_str I.kIn True.intro e (fun z => nomatch z) h
  | flt y => obtain ⟨t, q⟩ := (show ∃ t, u = Value.float y t from rx); cases q; exact PySem.W.kia_one PySem.W.kitx_float I.kIn True.intro e (fun z => nomatch z) h
  | @lst a xs ea =>
    cases (show u = Value.ref a from rx)
    obtain ⟨_, _, n, _, h1⟩ := (show ObjOk X.prog X.w H s.heap a (.lst xs) from I.hok a _ ea)
    exact PySem.W.kia_one PySem.W.kitx_list I.kIn ⟨_, h1, rfl⟩ e (fun z => nomatch z) h
  | @frz a ob xs ea =>
    cases (show u = Value.ref a from rx)
    obtain ⟨_, _, _, n, _, h1⟩ := (show ObjOk X.prog X.w H s.heap a (.frz ob (.lst xs)) from I.hok a _ ea)
    exact PySem.W.kia_one PySem.W.kitx_list I.kIn ⟨_, h1, rfl⟩ e (fun z => nomatch z) h
  | @tup a xs ea =>
    cases (show u = Value.ref a from rx)
    obtain ⟨_, _, _, p⟩ := (show ObjOk X.prog X.w H s.heap a (.tup xs) from I.hok a _ ea)
    obtain ⟨o, h1, h2, _⟩ := p
    exact PySem.W.kia_one PySem.W.kitx_tuple I.kIn ⟨o, h1, h2⟩ e (fun z => nomatch z) h
  | @dK a kvs ea =>
    cases (show u = Value.ref a from rx)
    obtain ⟨_, _, vs, _, p⟩ := (show ObjOk X.prog X.w H s.heap a (.dK kvs) from I.hok a _ ea)
    obtain ⟨o, es, ep, h1, h2, _⟩ := p
    exact PySem.W.kia_one PySem.W.kitx_dict I.kIn ⟨o, h1, h2.1⟩ e (fun z => nomatch z) h
  | @dT a kvs ea =>
    cases (show u = Value.ref a from rx)
    obtain ⟨_, _, xs, _, o, es, ep, h1, h2, _⟩ := (show ObjOk X.prog X.w H s.heap a (.dT kvs) from I.hok a _ ea)
    exact PySem.W.kia_one PySem.W.kitx_dict I.kIn ⟨o, h1, h2.1⟩ e (fun z => nomatch z) h
  | @ins a C dx fs ea cl ha hn htk hm =>
    cases (show u = Value.ref a from rx)
    obtain ⟨mA, O, _⟩ := ins_get I.hok ea
    obtain ⟨od, J, _⟩ := O.look
    exact PySem.W.kia_one (PySem.W.kitx_own (cl.get _) cl.hd ha hn htk hm) I.kIn J e (fun z => nomatch z) h
end
end L2

namespace L2
open PySem PySem.Spec PyProof.Rows

/-! ### room -/
structure Room (k : Nat) (A : Around) : Prop where
  hd : A.handled = none
  dp : A.depth + 3 * k + 5 < recursionLimit
  un : A.units + 16 * k + 200 < cLine
theorem Room.mono {j k : Nat} {A : Around} (r : Room k A) (h : j ≤ k) : Room j A := ⟨r.hd, by have := r.dp; omega, by have := r.un; omega⟩
theorem Room.deeper {k : Nat} {A : Around} (r : Room (k + 1) A) (env : Env) : Room k (A.deeper env) :=
  ⟨r.hd, by have := r.dp; show A.depth + 1 + 3 * k + 5 < _; omega, by have := r.un; show A.units + 3 + 16 * k + 200 < _; omega⟩
theorem Room.depth {k : Nat} {A : Around} (r : Room k A) : A.depth < recursionLimit := by have := r.dp; omega
theorem Room.units {k : Nat} {A : Around} (r : Room k A) : A.units + 64 < cLine := by have := r.un; omega
/-! ### argument lists and displays -/
def tNil : TA := fun _ H Q => Q [] H
def tCons (ta : TE) (tr : TA) : TA := fun σ H Q => ta σ H fun x H1 => tr σ H1 fun xs H2 => Q (x :: xs) H2
section
variable {X : Cx} {e : Expr} {es : List Expr} {te : TE} {t : TA} {pos : Pos}
theorem pa_nil : PA X [] tNil := fun _ _ _ _ H Q I h => Calls.spliced_nil ⟨[], H, I, .nil, h⟩
theorem pa_cons (ha : PE X e te) (hr : PA X es t) (hs : starEach (e :: es) X.env = (false, eval e X.env) :: starEach es X.env := by rfl) : PA X (e :: es) (tCons te t) := by
  intro pos pins s σ H Q I h
  rw [hs]
  show wpAny _ _ (spliced ((false, eval e X.env) :: backTo pos (starEach es X.env))) _ _ s
  refine Calls.spliced_cons (thn (ha pins s σ H _ I h) fun u s1 ⟨x, H1, I1, r1, q1⟩ => ?_)
  exact thn (hr pos pins s1 σ H1 _ I1 q1) fun us s2 ⟨xs, H2, I2, r2, q2⟩ => ⟨x :: xs, H2, I2, .cons r1 r2, q2⟩

/-- a tuple, a list of written items -/
def tTup (t : TA) : TE := fun σ H Q => t σ H fun xs H1 => xs.length ≤ sizeLine ∧ ∀ p, H1 p = none → Q (.ref p) (upd H1 p (.tup xs))
def tLst (t : TA) : TE := fun σ H Q => t σ H fun xs H1 => xs.length ≤ sizeLine ∧ ∀ p, H1 p = none → Q (.ref p) (upd H1 p (.lst xs))
theorem pe_tup {x1} (h : PA X es t) : PE X (.Tuple es x1 pos) (tTup t) := by
  intro pins s σ H Q I hq
  refine wpAny_Tuple_spliced (thn (h pos pins s σ H _ I hq) fun us s1 ⟨xs, H1, I1, r, z, q⟩ => ⟨by rw [← r.length]; exact z, ?_⟩)
  have hf : H1 s1.heap.objs.size = none := I1.hok.fresh (Nat.le_refl _)
  refine ⟨.ref s1.heap.objs.size, upd H1 s1.heap.objs.size (.tup xs), I1.laid (t' := s1.toks) (fun b u e => Heap.get?_push_of_some _ e) (Nat.le_refl _) ?_, rfl, q _ hf⟩
  exact ⟨z, us, r, ⟨_, Heap.get?_push_size _ rfl, rfl, _, rfl⟩⟩
end

/-! ### what a def promises -/
/-- a def's promise: the bound arguments in the parameters' order, the heap, the wanted end, the wanted exception -/
abbrev Sp := List V → Hp → VK → XK → Prop
/-- how an exception lies behind a call (file 08 gives it): the callers' frames, abstract heap and state ahead of the call, the wish, the exception, the state -/
abbrev CXT := List Env → Hp → Shared → XK → Value → Shared → Prop

/-- the state at a call -/
structure Env0 (P : Program) (w : World) (K : PySem.W.Frag) (mg : Str → Option Value) (base : Heap) (A : Around) (outer : List Env) (s : Shared) (H : Hp) : Prop where
  frames : A.frames = some outer
  mod : Mod K mg base
  bs : ∀ b o, base.get? b = some o → s.heap.get? b = some o ∧ H b = none
  bsz : base.objs.size ≤ s.heap.objs.size
  funs : s.heap.FunFrames base outer
  frf : ∀ b ∈ frs outer, H b = none
  hok : HOk P w H s.heap
  bare : AllBare s.gens
/-- a call's end -/
def CE (outer : List Env) (P : Program) (w : World) (H : Hp) (s : Shared) (Q : VK) (u : Value) (s' : Shared) : Prop :=
  ∃ v H', s'.os = s.os ∧ AllBare s'.gens ∧ Un (frs outer) [] H H' s.heap s'.heap ∧ HOk P w H' s'.heap ∧ RelV v u ∧ Q v H'
def CR (CX : CXT) (outer : List Env) (P : Program) (w : World) (H : Hp) (s : Shared) (Q : VK) (E : XK) (r : Result) (s' : Shared) : Prop :=
  match r with
  | .ok (.ret u) => CE outer P w H s Q u s'
  | .ok _ => False
  | .error e => CX outer H s E e s'
structure FnOk (P : Program) (w : World) (K : PySem.W.Frag) (mg : Str → Option Value) (base : Heap) (CX : CXT) (k : Nat) (f : Addr) (fd : FuncData) (ps : List Str) (sp : Sp) : Prop where
  len : ∀ vs H Q E, sp vs H Q E → vs.length = ps.length
  run : ∀ (A : Around) (outer : List Env) (s : Shared) (H : Hp) (args : Args) (us : List Value) (vs : List V) (Q : VK) (E : XK), Room k A → Env0 P w K mg base A outer s H → BindsTo s fd args (ps.zip us) → Vals vs us → sp vs H Q E →
    codeAny (model P w) A (.call (.ref f) args) (CR CX outer P w H s Q E) s
section
variable {X : Cx} {pins : List (Addr × Obj)} {σ : St} {H : Hp} {s s' : Shared}
/-- from a body: what a callee wants -/
theorem Inv.env0 (I : Inv X pins σ H s) : Env0 X.prog X.w X.K X.mg X.base X.A X.stack s H :=
  ⟨I.ok.frames, I.ok.mod, I.bs, Nat.le_trans I.ok.bsz I.sz, I.stack, I.stkFree, I.hok, I.bare⟩
/-- behind a call -/
theorem Inv.after {Q : VK} {u : Value} (I : Inv X pins σ H s) (h : CE X.stack X.prog X.w H s Q u s') : EP X pins σ Q u s' := by
  obtain ⟨v, H', os, bare, un, hok, r, q⟩ := h
  obtain ⟨hh, g, d, t, os'⟩ := s'
  obtain rfl : os' = s.os := os
  exact ⟨v, H', I.call (h' := hh) (g' := g) (d' := d) (t' := t) (ch := []) un hok bare (fun b z => absurd z (by simp)), r, q⟩
end

/-! ### calls -/
/-- f(..): the written arguments, then the defaults dvs; E: what is wanted of an exception -/
def tCall (sp : Sp) (dvs : List V) (E : XK) (t : TA) : TE := fun σ H Q => t σ H fun vs H1 => sp (vs ++ dvs) H1 Q E
/-- o.m(..) of an instance of the class at C -/
def tMeth (C : Addr) (m : Str) (sp : Sp) (dvs : List V) (E : XK) (ta : TE) (t : TA) : TE := fun σ H Q => ta σ H fun x H1 => ∃ a dx fs, x = .ref a ∧ H1 a = some (.ins C dx fs) ∧ fs.lookup m = none ∧
  t σ H1 fun vs H2 => sp (x :: (vs ++ dvs)) H2 Q E
/-- C(..): a new instance and its dict, then __init__ -/
def tMake (C : Addr) (sp : Sp) (dvs : List V) (E : XK) (t : TA) : TE := fun σ H Q => t σ H fun vs H1 => ∀ x dx, H1 x = none → H1 dx = none → dx ≠ x →
  sp (.ref x :: (vs ++ dvs)) (upd (upd H1 dx (.own x)) x (.ins C dx [])) (fun v H2 => v = .non ∧ Q (.ref x) H2) E

/-- how the parameters are bound: us the positional arguments, kw the keywords' values by name, ds the defaults that fill up -/
def Binds (K : PySem.W.Frag) (fd : FuncData) (ps : List Str) (ds : List Value) : Prop :=
  ∀ (s : Shared) (us : List Value), K.In s.heap → (us ++ ds).length = ps.length → BindsTo s fd ⟨us, []⟩ (ps.zip (us ++ ds))
/-- every parameter is given -/
theorem Binds.all {K : PySem.W.Frag} {fd : FuncData} {ps : List Str} (h : ∀ us : List Value, us.length = ps.length → bindArgs fd ⟨us, []⟩ = pure (ps.zip us)) : Binds K fd ps [] := fun s us _ hl => by
  rw [List.append_nil] at hl ⊢
  exact .of_eq (h us hl)

/-- an exception of a callee reaches what this body wants of exceptions -/
def Passes (CX : CXT) (X : Cx) (E : XK) : Prop := ∀ (pins : List (Addr × Obj)) (σ : St) (H : Hp) (s : Shared) (e : Value) (s' : Shared), Inv X pins σ H s → CX X.stack H s E e s' → X.xe e s'

section
variable {X : Cx} {CX : CXT} {k : Nat} {f C : Addr} {fd : FuncData} {ps : List Str} {sp : Sp} {dvs : List V} {ds : List Value} {E : XK} {x m : Str} {p pos apos : Pos} {e o : Expr} {es : List Expr} {ta : TE} {t : TA}

/-- the callee runs -/
theorem run_fn {pins : List (Addr × Obj)} {σ : St} {H : Hp} {s : Shared} {Q : VK} {us : List Value} {vs : List V} (F : FnOk X.prog X.w X.K X.mg X.base CX k f fd ps sp) (hr : Room k X.A) (hb : Binds X.K fd ps ds) (hd : Vals dvs ds) (hx : Passes CX X E)
    (I : Inv X pins σ H s) (r : Vals vs us) (h : sp (vs ++ dvs) H Q E) : wpAny (model X.prog X.w) X.A (call (.ref f) us) (EP X pins σ Q) X.xe s := by
  have r2 : Vals (vs ++ dvs) (us ++ ds) := r.append hd
  have hl : (us ++ ds).length = ps.length := by rw [← r2.length]; exact F.len _ _ _ _ h
  refine wpAny_call (codeAny_mono (F.run X.A X.stack s H ⟨us, []⟩ (us ++ ds) (vs ++ dvs) Q E hr I.env0 (hb s us I.kIn hl) r2 h) fun r s' hq => ?_)
  cases r with
  | error e => exact hx pins σ H s e s' I hq
  | ok fl =>
    cases fl with
    | ret u => exact I.after hq
    | next => exact False.elim hq
    | brk => exact False.elim hq
    | cont => exact False.elim hq

theorem pe_call (F : FnOk X.prog X.w X.K X.mg X.base CX k f fd ps sp) (hr : Room k X.A) (hg : Gl X x) (hm : X.mg x = some (.ref f)) (hk : PySem.W.keepIn X.K (.ref f) = true) (hb : Binds X.K fd ps ds) (hd : Vals dvs ds) (hx : Passes CX X E)
    (ha : PA X (e :: es) t) (hdb : (x == ("__debug__" : Str)) = false := by decide) (he : starEach (e :: es) X.env = (false, eval e X.env) :: starEach es X.env := by rfl) (hpl : (backTo pos (starEach es X.env)).any (·.1) = false := by rfl) :
    PE X (.Call (.Name x p) (e :: es) [] pos) (tCall sp dvs E t) := by
  intro pins s σ H Q I h
  refine wpAny_Call_Name_kw (ld_glob I hg hm ?_ hdb)
  refine PySem.W.callWith_K (h₀ := X.base) I.ok.mod.kin hk (thn (ha pos pins s σ H _ I h) fun us s1 ⟨vs, H1, I1, r, q⟩ => ⟨I1.kIn, ?_⟩) he hpl
  exact run_fn F hr hb hd hx I1 r q
/-- what a class must have to be made -/
structure Mk (K : PySem.W.Frag) (C f : Addr) : Prop where
  makes : PySem.W.makesIn K C = true
  init : PySem.W.findIn K (.ref C) "__init__" = some (some (.ref f))
  fn : PySem.W.isFn K (.ref f) = true
  kp : PySem.W.keepIn K (.ref C) = true

end

/-! ### keywords -/
/-- the values of the keywords, from the left -/
def PK (X : Cx) (kws : List Keyword) (t : TA) : Prop :=
  ∀ (pos : Pos) (pins : List (Addr × Obj)) (s : Shared) (σ : St) (H : Hp) (Q : List V → Hp → Prop), Inv X pins σ H s → t σ H Q → wpAny (model X.prog X.w) X.A (evalAll ((backToKw pos (keywordEach kws X.env)).map (·.2))) (AP X pins σ Q) X.xe s
section
variable {X : Cx} {CX : CXT} {k : Nat} {f C : Addr} {fd : FuncData} {ps ks : List Str} {sp : Sp} {E : XK} {x m : Str} {p pos apos kpos : Pos} {e o : Expr} {es : List Expr} {kws : List Keyword} {te ta : TE} {t tk : TA} {nm : Option Str}
/-- how a call with keywords binds: g puts the positional values us and the keywords' values ws (names ks) in the parameters' order, defaults among them -/
structure KBinds (K : PySem.W.Frag) (fd : FuncData) (ps ks : List Str) (g : List Value → List Value → List Value) (gV : List V → List V → List V) : Prop where
  to : ∀ (s : Shared) (us ws : List Value), K.In s.heap → (g us ws).length = ps.length → BindsTo s fd ⟨us, ks.zip ws⟩ (ps.zip (g us ws))
  rel : ∀ {vs : List V} {us : List Value} {zs : List V} {ws : List Value}, Vals vs us → Vals zs ws → Vals (gV vs zs) (g us ws)
def tCallK (sp : Sp) (gV : List V → List V → List V) (E : XK) (t tk : TA) : TE := fun σ H Q => t σ H fun vs H1 => tk σ H1 fun zs H2 => sp (gV vs zs) H2 Q E
variable {g : List Value → List Value → List Value} {gV : List V → List V → List V}
end

/-! ### a def's body keeps its promise -/
/-- names: the parameters first -/
structure FnScope (N P : List Str) (sc : Scope) : Prop where
  kind : sc.kind = .function
  co : sc.isCoroutine = false
  gen : sc.isGenerator = false
  nd : N.Nodup
  pre : N.take P.length = P
  par : ∀ x ∈ P, sc.names.lookup x = some .local ∨ sc.names.lookup x = some .cell
  nofree : ∀ y ∈ sc.names, y.2 ≠ .free

theorem bindL_out {kindOf : Str → Option NameKind} {x : Str} : ∀ {binds : List (Str × Value)} {m : Str → Option Value}, (∀ v, (x, v) ∉ binds) → bindL kindOf binds m x = m x
  | [], _, _ => rfl
  | (n, v) :: r, m, h => by
    unfold bindL
    rw [bindL_out fun w hw => h w (List.mem_cons_of_mem _ hw)]
    split
    · have : x ≠ n := by rintro rfl; exact h v List.mem_cons_self
      simp [this]
    · rfl
theorem bindC_out {kindOf : Str → Option NameKind} {x : Str} : ∀ {binds : List (Str × Value)} {m : Str → Option Value}, (∀ v, (x, v) ∉ binds) → bindC kindOf binds m x = m x
  | [], _, _ => rfl
  | (n, v) :: r, m, h => by
    unfold bindC
    rw [bindC_out fun w hw => h w (List.mem_cons_of_mem _ hw)]
    split
    · rfl
    · have : x ≠ n := by rintro rfl; exact h v List.mem_cons_self
      simp [this]
theorem bindL_get {kindOf : Str → Option NameKind} {x : Str} {v : Value} : ∀ {P : List Str} {vs : List Value} {i : Nat} {m : Str → Option Value}, P.Nodup → P[i]? = some x → vs[i]? = some v → kindOf x = some .local →
    bindL kindOf (P.zip vs) m x = some v
  | [], _, _, _, _, h, _, _ => by simp at h
  | _ :: _, [], _, _, _, _, h, _ => by simp at h
  | p :: P, w :: vs, 0, m, nd, h1, h2, hk => by
    simp at h1 h2; subst h1; subst h2
    show bindL kindOf ((p, w) :: P.zip vs) m p = _
    unfold bindL
    rw [bindL_out fun v hv => (List.nodup_cons.mp nd).1 (List.of_mem_zip hv).1, if_pos hk]
    simp
  | p :: P, w :: vs, i + 1, m, nd, h1, h2, hk => by
    show bindL kindOf ((p, w) :: P.zip vs) m x = _
    unfold bindL
    exact bindL_get (i := i) (List.nodup_cons.mp nd).2 (by simpa using h1) (by simpa using h2) hk
theorem bindC_get {kindOf : Str → Option NameKind} {x : Str} {v : Value} : ∀ {P : List Str} {vs : List Value} {i : Nat} {m : Str → Option Value}, P.Nodup → P[i]? = some x → vs[i]? = some v → kindOf x ≠ some .local →
    bindC kindOf (P.zip vs) m x = some v
  | [], _, _, _, _, h, _, _ => by simp at h
  | _ :: _, [], _, _, _, _, h, _ => by simp at h
  | p :: P, w :: vs, 0, m, nd, h1, h2, hk => by
    simp at h1 h2; subst h1; subst h2
    show bindC kindOf ((p, w) :: P.zip vs) m p = _
    unfold bindC
    rw [bindC_out fun v hv => (List.nodup_cons.mp nd).1 (List.of_mem_zip hv).1, if_neg hk]
    simp
  | p :: P, w :: vs, i + 1, m, nd, h1, h2, hk => by
    show bindC kindOf ((p, w) :: P.zip vs) m x = _
    unfold bindC
    exact bindC_get (i := i) (List.nodup_cons.mp nd).2 (by simpa using h1) (by simpa using h2) hk

/-- the names' values at the entry -/
def start (N : List Str) (vs : List V) : St := vs.map some ++ List.replicate (N.length - vs.length) none

/-- the context of a def's body, at its entry; an exception leaves the frame, then lies as CX says -/
def cxOf (CX : CXT) (P : Program) (w : World) (K : PySem.W.Frag) (mg : Str → Option Value) (base : Heap) (N : List Str) (qual : Str) (scope : Scope) (f : Addr) (cd : Value) (A : Around) (outer : List Env) (s : Shared) (H : Hp) (E : XK) : Cx where
  prog := P
  w := w
  K := K
  mg := mg
  base := base
  A := A.deeper (envOfC qual scope s.heap.objs.size f cd)
  N := N
  s₀ := s
  H₀ := H
  env := envOfC qual scope s.heap.objs.size f cd
  outer := outer
  stack := envOfC qual scope s.heap.objs.size f cd :: outer
  ex := []
  calm := true
  fn := fun _ => true
  pn := []
  xe := fun e s' => wpAny (model P w) (A.deeper (envOfC qual scope s.heap.objs.size f cd)) (leaving (envOfC qual scope s.heap.objs.size f cd) e) (fun _ s'' => CX outer H s E e s'') (fun e' s'' => CX outer H s E e' s'') s'

theorem cell_has {sc : Scope} {n : Nat} {x : Str} (h : sc.names.lookup x = some .cell) : ∃ c, (cellsFrom n sc.names []).lookup x = some c := by
  have q := PySem.W.cellsFrom_some sc.names n [] (.inl h)
  exact Option.isSome_iff_exists.mp q

theorem inv_start {CX : CXT} {P : Program} {w : World} {K : PySem.W.Frag} {mg : Str → Option Value} {base : Heap} {N ps : List Str} {qual : Str} {scope : Scope} {f : Addr} {cd : Value} {A : Around} {outer : List Env} {s s1 : Shared} {H : Hp} {E : XK} {us : List Value} {vs : List V}
    (S : FnScope N ps scope) (hd : A.handled = none) (e0 : Env0 P w K mg base A outer s H) (hl : vs.length = ps.length) (r : Vals vs us)
    (x : InCallC s s.heap.objs.size (bindL (envOfC qual scope s.heap.objs.size f cd).kindOf (ps.zip us) fun _ => none) (cellsFrom (s.heap.objs.size + 1) scope.names []) (bindC (envOfC qual scope s.heap.objs.size f cd).kindOf (ps.zip us) fun _ => none) s1) :
    Inv (cxOf CX P w K mg base N qual scope f cd A outer s H E) [] (start N vs) H s1 := by
  have hpl : ps.length ≤ N.length := by have := congrArg List.length S.pre; rw [List.length_take] at this; omega
  obtain ⟨h1, tk, rfl, hk⟩ := x.done
  have noA : ∀ b : Addr, b ∉ (cxOf CX P w K mg base N qual scope f cd A outer s H E).ex := fun b z => absurd (show b ∈ ([] : List Addr) from z) (by simp)
  refine ⟨⟨e0.mod, S.kind, rfl, rfl, Nat.le_refl _, fun y z c h1 h2 => ?_, fun y hy => ?_, fun y c _ h => ?_, fun _ => hd, Around.frames_deeper e0.frames, .inr ⟨rfl, rfl⟩, fun b z => absurd z (noA b), e0.bs, e0.bsz, fun b _ _ => noA b, fun b z => absurd z (noA b), e0.funs, e0.frf⟩,
    rfl, e0.bare, Un.kept hk, ⟨_, x.toInCall.ns, fun i y v h1 h2 h3 => ?_⟩, fun y c h => ⟨_, x.cell y c h⟩, e0.hok.fresh (Nat.le_refl _), fun y c h => ?_, fun p hp => absurd (show p ∈ ([] : List (Addr × Obj)) from hp) (by simp), e0.hok.kept hk, ?_⟩
  · exact name_of_addr x.apart (PySem.mem_of_lookup h1) (PySem.mem_of_lookup h2)
  · have hy : scope.names.lookup y = some .cell ∨ scope.names.lookup y = some .free := hy
    rcases hy with hy | hy
    · exact cell_has hy
    · exact absurd rfl (S.nofree _ (PySem.mem_of_lookup hy))
  · exact Nat.le_of_lt (x.above y c (PySem.mem_of_lookup h))
  · have hi : i < vs.length := by
      unfold start at h2
      by_cases hi : i < vs.length
      · exact hi
      · rw [List.getElem?_append_right (by simpa using hi)] at h2
        rw [List.getElem?_replicate] at h2
        split at h2 <;> cases h2
    have ha : vs[i]? = some v := by
      unfold start at h2
      rw [List.getElem?_append_left (by simpa using hi), List.getElem?_map] at h2
      cases e : vs[i]? with
      | none => rw [e] at h2; cases h2
      | some a => rw [e] at h2; cases h2; rfl
    obtain ⟨u, hu, rv⟩ := r.get ha
    have hp : ps[i]? = some y := by
      rw [← S.pre, List.getElem?_take_of_lt (by omega)]; exact h1
    have ndP : ps.Nodup := by rw [← S.pre]; exact S.nd.sublist (List.take_sublist _ _)
    refine ⟨u, rv, ?_⟩
    rcases S.par y (List.mem_of_getElem? hp) with k | k
    · exact .inl ⟨k, bindL_get ndP hp hu k⟩
    · obtain ⟨c, e⟩ := cell_has (n := s.heap.objs.size + 1) k
      refine .inr ⟨.inl k, c, e, ?_⟩
      have q := x.cell y c e
      rw [bindC_get ndP hp hu (by show scope.names.lookup y ≠ _; rw [k]; decide)] at q
      exact q
  · exact e0.hok.fresh (Nat.le_of_lt (x.above y c (PySem.mem_of_lookup h)))
  · unfold start
    show _ = N.length
    rw [List.length_append, List.length_map, List.length_replicate]
    omega

/-- THE RULE: a def (or a method) of the text, by its body. The body's reading t is chosen for each entry; it is run at the parameters' values -/
theorem fn_of {CX : CXT} {P : Program} {w : World} {K : PySem.W.Frag} {mg : Str → Option Value} {base : Heap} {k : Nat} {f : Addr} {name qual : Str} {params : Arguments} {body : List Stmt} {scope : Scope} {dV kV doc pm cdv ct oc : Value} {an od : Option Addr}
    {osl : Array (Option Value)} {N ps : List Str} {sp : Sp} (lk : K.lookup f = some ⟨oc, od, .func (PySem.W.fnOf name qual params body scope dV kV doc pm an cdv ct), osl⟩) (hcd : PySem.W.codeIn K cdv qual = true) (S : FnScope N ps scope)
    (len : ∀ vs H Q E, sp vs H Q E → vs.length = ps.length)
    (hbody : ∀ (A : Around) (outer : List Env) (s : Shared) (H : Hp) (vs : List V) (Q : VK) (E : XK), Room k (A.deeper (envOfC qual scope s.heap.objs.size f cdv)) → sp vs H Q E →
      ∃ t, PSs (cxOf CX P w K mg base N qual scope f cdv A outer s H E) body t ∧ t { nx := fun _ H' => Q .non H', rt := Q } (start N vs) H) :
    FnOk P w K mg base CX (k + 1) f (PySem.W.fnOf name qual params body scope dV kV doc pm an cdv ct) ps sp := by
  refine ⟨len, fun A outer s H args us vs Q E hr e0 hb r hsp => ?_⟩
  have hl := len _ _ _ _ hsp
  have KX : K.In s.heap := e0.mod.kin.keeps fun b o e => (e0.bs b o e).1
  have lim : s.heap.NoLimit := e0.mod.nolimit.keeps fun b o e => (e0.bs b o e).1
  have hkind : ∀ y ∈ ps.zip us, scope.names.lookup y.1 = some .local ∨ (scope.names.lookup y.1 = some .cell ∧ ((cellsFrom (s.heap.objs.size + 1) scope.names []).lookup y.1).isSome = true) := fun ⟨n, v⟩ hy => by
    rcases S.par n (List.of_mem_zip hy).1 with q | q
    · exact .inl q
    · exact .inr ⟨q, PySem.W.cellsFrom_some _ _ _ (.inl q)⟩
  refine codeAny_call_function hr.depth (KX _ _ lk) rfl S.co S.gen rfl (PySem.W.codeRec_of KX hcd) (hb _ _ _ _ ?_)
  refine wpAny_newFunctionEnv_cells S.kind hkind fun env he s1 x => ?_
  subst he
  refine ⟨lim.keeps x.toInCall.keep, codeAny_func ?_⟩
  obtain ⟨t, ht, hq⟩ := hbody A outer s H vs Q E (hr.deeper _) hsp
  have I : Inv (cxOf CX P w K mg base N qual scope f cdv A outer s H E) [] (start N vs) H s1 := inv_start S hr.hd e0 hl r x
  refine wpAny_mono (ht [] s1 (start N vs) H _ I hq) (fun fl s' hs => ?_) fun e s' hs => hs
  have fin : ∀ {σ' : St} {H' : Hp} {v : V} {u : Value}, Inv (cxOf CX P w K mg base N qual scope f cdv A outer s H E) [] σ' H' s' → RelV v u → Q v H' → CE outer P w H s Q u s' :=
    fun {σ' H' v u} J rv q => ⟨v, H', J.os, J.bare, J.base, J.hok, rv, q⟩
  cases fl with
  | ret u =>
    obtain ⟨v, σ', H', J, rv, q⟩ := hs
    exact fin J rv q
  | next =>
    obtain ⟨σ', H', J, q⟩ := hs
    exact fin (v := V.non) (u := Value.none) J rfl q
  | brk =>
    obtain ⟨_, _, _, q⟩ := hs
    exact False.elim q
  | cont =>
    obtain ⟨_, _, _, q⟩ := hs
    exact False.elim q
end L2

namespace L2
open PySem PySem.Spec PyProof.Rows
section
variable {X : Cx} {x : Str} {p pos : Pos} {e : Expr} {es : List Expr} {t : TA} {id T : String} {r : List V → Hp → VK → Prop}

def tCB (r : List V → Hp → VK → Prop) (t : TA) : TE := fun σ H Q => t σ H fun vs H1 => r vs H1 Q
/-- f(e, ..), f a built-in function -/
theorem pe_callB (hc : CallR X (.builtin id) r) (hg : Gl X x) (hm : X.mg x = none) (hv : bootBuiltins x = some (.builtin id)) (ha : PA X (e :: es) t) (hn : x ≠ "__name__" := by decide) (hdb : (x == ("__debug__" : Str)) = false := by decide)
    (he : starEach (e :: es) X.env = (false, eval e X.env) :: starEach es X.env := by rfl) (hpl : (backTo pos (starEach es X.env)).any (·.1) = false := by rfl) : PE X (.Call (.Name x p) (e :: es) [] pos) (tCB r t) := by
  intro pins s σ H Q I h
  refine wpAny_Call_Name_kw (ld_blt I hg hm hv ?_ hn hdb)
  exact PyProof.Rows.callWith_builtin1 (thn (ha pos pins s σ H _ I h) fun us s1 ⟨vs, H1, I1, r1, q1⟩ => hc pins s1 σ H1 vs us Q I1 r1 q1) he hpl
/-- T(e, ..), T a built-in type -/
theorem pe_callTy (hc : CallR X (.type T) r) (hg : Gl X x) (hm : X.mg x = none) (hv : bootBuiltins x = some (.type T)) (ha : PA X (e :: es) t) (hn : x ≠ "__name__" := by decide) (hdb : (x == ("__debug__" : Str)) = false := by decide)
    (he : starEach (e :: es) X.env = (false, eval e X.env) :: starEach es X.env := by rfl) (hpl : (backTo pos (starEach es X.env)).any (·.1) = false := by rfl) : PE X (.Call (.Name x p) (e :: es) [] pos) (tCB r t) := by
  intro pins s σ H Q I h
  refine wpAny_Call_Name_kw (ld_blt I hg hm hv ?_ hn hdb)
  exact PyProof.Rows.callWith_type1 (thn (ha pos pins s σ H _ I h) fun us s1 ⟨vs, H1, I1, r1, q1⟩ => hc pins s1 σ H1 vs us Q I1 r1 q1) he hpl
end
end L2

namespace HT
open PySem PyProof.Rows

/-- t < u of tuples of ints -/
def lexLt : List Int → List Int → Bool
  | [], [] => false
  | [], _ :: _ => true
  | _ :: _, [] => false
  | x :: xs, y :: ys => if x = y then lexLt xs ys else decide (x < y)
section
open PySem.SeqAt
open PySem.AutoSeq1 (wpAny_loadPart')
open PySem.MeetsSeq PySem.MeetsSeq2 PySem.MeetsSeq3

end

section
variable {prog : Program} {w : World} {A : Around} {E : Value → Shared → Prop} {s : Shared}

/-! ### t[a:b], not the whole -/
/-- a slice's bound as a place among n (d where it is left out) -/
def sIx (n d : Nat) : Option Int → Nat
  | none => d
  | some v => if v < 0 then (v + (n : Int)).toNat else min v.toNat n
end
end HT

namespace L2
open PySem PySem.Spec PyProof.Rows

/-! ### the parts of a slice -/
abbrev TO := St → Hp → (Option Int → Hp → Prop) → Prop
/-- a slice's part (left out, or an int) -/
def PO (X : Cx) (e : Option Expr) (t : TO) : Prop :=
  ∀ (pins : List (Addr × Obj)) (s : Shared) (σ : St) (H : Hp) (Q : Option Int → Hp → Prop), Inv X pins σ H s → t σ H Q →
    wpAny (model X.prog X.w) X.A (evalPart e X.env) (fun u s' => ∃ o H', Inv X pins σ H' s' ∧ IsPart u o ∧ Q o H') X.xe s
def tNoPart : TO := fun _ H Q => Q none H
def tPart (t : TE) : TO := fun σ H Q => t σ H fun x H1 => ∃ i, x = .int i ∧ Q (some i) H1

section
variable {X : Cx} {e : Expr} {te : TE} {lo hi : Option Expr} {tl th : TO} {pos p2 : Pos}

theorem po_none : PO X none tNoPart := by
  intro pins s σ H Q I h
  rw [evalPart_none]
  exact wpAny_pure ⟨none, H, I, .none, h⟩
theorem po_some (h : PE X e te) : PO X (some e) (tPart te) := by
  intro pins s σ H Q I hw
  rw [evalPart_some]
  refine thn (h pins s σ H _ I hw) fun u s1 ⟨x, H1, I1, r1, q1⟩ => ?_
  obtain ⟨i, rfl, q⟩ := q1
  obtain ⟨t, rfl⟩ := r1
  exact ⟨some i, H1, I1, .int i t, q⟩

/-- what a slice of a value is, by values: the slice object stands at sl -/
def SlR (X : Cx) (r : V → Option Int → Option Int → Hp → VK → Prop) : Prop :=
  ∀ (pins : List (Addr × Obj)) (s : Shared) (σ : St) (H : Hp) (x : V) (v vl vu : Value) (lo hi : Option Int) (sl : Addr) (Q : VK), Inv X pins σ H s → RelV x v → s.heap.IsSliceOf sl vl vu .none → IsPart vl lo → IsPart vu hi → r x lo hi H Q →
    ∃ T id, typeLookup (.type T) "__getitem__" = pure (some (.builtin id)) ∧ s.TypeIs v T ∧ wpAny (model X.prog X.w) X.A (getItem v (.ref sl)) (EP X pins σ Q) X.xe s
def tSl (r : V → Option Int → Option Int → Hp → VK → Prop) (te : TE) (tl th : TO) : TE := fun σ H Q => te σ H fun x H1 => tl σ H1 fun l H2 => th σ H2 fun u H3 => r x l u H3 Q
/-- a[lo:hi], any a -/
theorem pe_slice {r : V → Option Int → Option Int → Hp → VK → Prop} (hr : SlR X r) (he : PE X e te) (hl : PO X lo tl) (hu : PO X hi th) : PE X (.Subscript e (.Slice lo hi none p2) pos) (tSl r te tl th) := by
  intro pins s σ H Q I h
  refine Subscript_ (thn (he pins s σ H _ I h) fun v s1 ⟨x, H1, I1, r1, q1⟩ => ?_)
  refine wpAny_Slice (thn (hl pins s1 σ H1 _ I1 q1) fun vl s2 ⟨l, H2, I2, pl, q2⟩ => thn (hu pins s2 σ H2 _ I2 q2) fun vu s3 ⟨u, H3, I3, pu, q3⟩ => ?_)
  rw [evalPart_none]
  refine wpAny_pure ?_
  have I4 : Inv X pins σ H3 { s3 with heap := s3.heap.push { cls := .type "slice", data := .fields #[vl, vu, .none] } } := I3.kept (t' := s3.toks) fun b ob q => Heap.get?_push_of_some _ q
  obtain ⟨T, id, hT, ht, hg⟩ := hr pins { s3 with heap := s3.heap.push { cls := .type "slice", data := .fields #[vl, vu, .none] } } σ H3 x v vl vu l u s3.heap.objs.size Q I4 r1 (Heap.IsSliceOf.new ..) pl pu q3
  show wpAny (model X.prog X.w) X.A (subscriptTail e (.Slice lo hi none p2) v (.ref s3.heap.objs.size)) (EP X pins σ Q) X.xe { s3 with heap := s3.heap.push { cls := .type "slice", data := .fields #[vl, vu, .none] } }
  exact tail_any (ops := [.ref s3.heap.objs.size, v]) ht hT hg (by with_unfolding_all rfl)

/-- the items of xs[lo:hi] -/
def cutV (xs : List V) (lo hi : Option Int) : List V := (xs.drop (HT.sIx xs.length 0 lo)).take (HT.sIx xs.length xs.length hi - HT.sIx xs.length 0 lo)
theorem cutV_length (xs : List V) (lo hi : Option Int) : (cutV xs lo hi).length ≤ xs.length := by
  unfold cutV
  rw [List.length_take, List.length_drop]
  omega
/-- t[lo:hi], not the whole of it (the whole would be t itself) -/
def rSlT (K : PySem.W.Frag) : V → Option Int → Option Int → Hp → VK → Prop := fun x lo hi H Q => ∃ a xs, x = .ref a ∧ SqT K H a xs ∧
  ¬ (HT.sIx xs.length 0 lo = 0 ∧ HT.sIx xs.length xs.length hi = xs.length) ∧ ∀ p, H p = none → Q (.ref p) (upd H p (.tup (cutV xs lo hi)))
/-! ### t < u, t + u -/
def rLtT (K : PySem.W.Frag) : R2 := fun x y H Q => ∃ a b ns ms, x = .ref a ∧ y = .ref b ∧ SqT K H a (ns.map V.int) ∧ SqT K H b (ms.map V.int) ∧ Q (.bl (HT.lexLt ns ms)) H
/-- t + u, t not empty: u empty gives t itself -/
def rCatT (K : PySem.W.Frag) : R2 := fun x y H Q => ∃ a b xs ys, x = .ref a ∧ y = .ref b ∧ SqT K H a xs ∧ SqT K H b ys ∧ xs ≠ [] ∧ xs.length + ys.length ≤ sizeLine ∧
  (ys = [] → Q (.ref a) H) ∧ (ys ≠ [] → ∀ p, H p = none → Q (.ref p) (upd H p (.tup (xs ++ ys))))
end
end L2

namespace L2
open PySem PySem.Spec PyProof.Rows

/-! ### places -/
/-- the place that an index of any sign means -/
def ixN (n : Nat) (i : Int) : Option Nat := if 0 ≤ i then (if i < n then some i.toNat else none) else if -(n : Int) ≤ i then some (i + n).toNat else none
def atI {α : Type} (xs : List α) (i : Int) : Option α := (ixN xs.length i).bind fun j => xs[j]?
theorem ixN_seq {n : Nat} {i : Int} {j : Nat} (h : ixN n i = some j) : seqIndex? i n = some j ∧ j < n ∧ -(n : Int) ≤ i ∧ i < n := by
  unfold ixN at h
  by_cases h0 : 0 ≤ i
  · rw [if_pos h0] at h
    by_cases h1 : i < n
    · rw [if_pos h1] at h
      have e : i.toNat = j := Option.some.inj h
      exact ⟨by rw [seqIndex_of h0 h1, e], by omega, by omega, h1⟩
    · rw [if_neg h1] at h; cases h
  · rw [if_neg h0] at h
    by_cases h1 : -(n : Int) ≤ i
    · rw [if_pos h1] at h
      have e : (i + n).toNat = j := Option.some.inj h
      exact ⟨by rw [seqIndex_neg (by omega) h1, e], by omega, h1, by omega⟩
    · rw [if_neg h1] at h; cases h
theorem atI_get {α : Type} {xs : List α} {i : Int} {v : α} (h : atI xs i = some v) : ∃ j, seqIndex? i xs.length = some j ∧ xs[j]? = some v ∧ j < xs.length ∧ -(xs.length : Int) ≤ i ∧ i < xs.length := by
  unfold atI at h
  cases e : ixN xs.length i with
  | none => rw [e] at h; cases h
  | some j =>
    rw [e] at h
    obtain ⟨h1, h2, h3, h4⟩ := ixN_seq e
    exact ⟨j, h1, h, h2, h3, h4⟩
theorem atI_nat {α : Type} {xs : List α} {j : Nat} {v : α} (h : xs[j]? = some v) : atI xs (j : Int) = some v := by
  have hj : j < xs.length := (List.getElem?_eq_some_iff.mp h).1
  have e : ixN xs.length (j : Int) = some j := by
    unfold ixN
    rw [if_pos (by omega), if_pos (by omega)]; simp
  unfold atI; rw [e]; exact h
theorem atI_last {α : Type} (xs : List α) (v : α) : atI (xs ++ [v]) (-1) = some v := by
  have hl : (xs ++ [v]).length = xs.length + 1 := by simp
  have e : ixN (xs ++ [v]).length (-1) = some xs.length := by
    unfold ixN
    rw [hl, if_neg (by decide), if_pos (by omega)]
    congr 1
    omega
  unfold atI
  rw [e]
  show (xs ++ [v])[xs.length]? = some v
  simp

/-! ### what may be subscripted -/
/-- what stands as an index of a plain subscript -/
def PlainIx (b : Expr) : Prop := ∀ o i, subscripted b false o i = operate [o, i] (getItem o i)
/-- a subscript by values -/
def IxR (X : Cx) (r : R2) : Prop :=
  ∀ (value slice : Expr) (pins : List (Addr × Obj)) (s : Shared) (σ : St) (H : Hp) (x y : V) (v u : Value) (Q : VK), Inv X pins σ H s → RelV x v → RelV y u → r x y H Q →
    subscripted slice false v u = operate [v, u] (getItem v u) → wpAny (model X.prog X.w) X.A (subscriptTail value slice v u) (EP X pins σ Q) X.xe s
/-- a call of a builtin's method by values: the receiver, the arguments -/
def MtR (X : Cx) (id : String) (r : V → List V → Hp → VK → Prop) : Prop :=
  ∀ (pins : List (Addr × Obj)) (s : Shared) (σ : St) (H : Hp) (x : V) (xs : List V) (v : Value) (us : List Value) (Q : VK), Inv X pins σ H s → RelV x v → Vals xs us → r x xs H Q →
    wpAny (model X.prog X.w) X.A (call (.builtin id) (v :: us)) (EP X pins σ Q) X.xe s
section
variable {X : Cx} {a b : Expr} {ta tb : TE} {pos : Pos}
/-- a[b] -/
theorem pe_ix {r : R2} (hr : IxR X r) (ha : PE X a ta) (hb : PE X b tb) (hs : PlainIx b) : PE X (.Subscript a b pos) (tOp r ta tb) := by
  intro pins s σ H Q I h
  exact Subscript_ (binT ha hb I h fun v u s2 x y H2 I2 rx ry q => hr a b pins s2 σ H2 x y v u Q I2 rx ry q (hs _ _))

def rIxL (K : PySem.W.Frag) : R2 := fun x y H Q => ∃ p xs i v, x = .ref p ∧ y = .int i ∧ SqL K H p xs ∧ atI xs i = some v ∧ Q v H
def rIxT (K : PySem.W.Frag) : R2 := fun x y H Q => ∃ p xs i v, x = .ref p ∧ y = .int i ∧ SqT K H p xs ∧ atI xs i = some v ∧ Q v H
def rIxS : R2 := fun x y H Q => ∃ z i c, x = .str z ∧ y = .int i ∧ z.length ≤ sizeLine ∧ atI z.cps.toList i = some c ∧ Q (.str ⟨#[c]⟩) H
theorem ix_list : IxR X (rIxL X.K) := by
  intro value slice pins s σ H x y v u Q I rx ry h hs
  obtain ⟨p, xs, i, z, rfl, rfl, hq, he, q⟩ := h
  cases rx
  obtain ⟨t, rfl⟩ := ry
  obtain ⟨its, r, pl, hz⟩ := I.list hq
  obtain ⟨j, h1, h2, h3, h4, h5⟩ := atI_get he
  obtain ⟨w, ew, rw'⟩ := r.get h2
  have hl := r.length
  have hn := line63
  have fin : EP X pins σ Q w s := ⟨z, H, I, rw', q⟩
  by_cases h0 : 0 ≤ i
  · have hj : i.toNat = j := by
      rw [seqIndex_of h0 h5] at h1
      exact Option.some.inj h1
    exact item_listR pl.isList h0 (by omega) (by rw [hj]; simpa using ew) fin hs
  · have hj : (i + (its.toArray.size : Int)).toNat = j := by
      rw [seqIndex_neg (by omega) h4] at h1
      rw [List.size_toArray, ← hl]
      exact Option.some.inj h1
    exact subscriptTail_builtinR (x := w) pl.isList.typeIs slot_list_getitem.lookup
      (wpAny_getItem_list_neg (Q := fun r s' => r = w ∧ EP X pins σ Q r s') pl.isList (by omega) (by rw [List.size_toArray] <;> omega) (by omega) (by rw [hj]; simpa using ew) ⟨rfl, fin⟩) hs
theorem ix_tup : IxR X (rIxT X.K) := by
  intro value slice pins s σ H x y v u Q I rx ry h hs
  obtain ⟨p, xs, i, z, rfl, rfl, hq, he, q⟩ := h
  cases rx
  obtain ⟨t, rfl⟩ := ry
  obtain ⟨its, r, pl, hz⟩ := I.tuple hq
  obtain ⟨j, h1, h2, h3, h4, h5⟩ := atI_get he
  obtain ⟨w, ew, rw'⟩ := r.get h2
  have hl := r.length
  have hn := line63
  have fin : EP X pins σ Q w s := ⟨z, H, I, rw', q⟩
  exact subscriptTail_builtinR (x := w) pl.typeIs slot_tuple_getitem.lookup
    (getItem_tuple (j := j) (Q := fun r s' => r = w ∧ EP X pins σ Q r s') pl (by omega) (by omega) (by rw [List.size_toArray, ← hl]; exact h1) (by simpa using ew) ⟨rfl, fin⟩) hs
/-- list, tuple or str -/
def rIx (K : PySem.W.Frag) : R2 := fun x y H Q => rIxL K x y H Q ∨ rIxT K x y H Q ∨ rIxS x y H Q
/-! ### xs[i] = v, any sign -/
/-- the list's object behind a store -/
theorem mapSeq_set (its : List Value) (n j : Nat) (u : Value) : Obj.mapSeq (·.setIfInBounds j u) { cls := .type "list", data := .seq its.toArray n } = { cls := .type "list", data := .seq (its.set j u).toArray n } := by
  simp [Obj.mapSeq]
theorem Inv.lst {pins : List (Addr × Obj)} {σ : St} {H : Hp} {s : Shared} {p : Addr} {xs : List V} (I : Inv X pins σ H s) (h : H p = some (.lst xs)) :
    ∃ (its : List Value) (n : Nat), Vals xs its ∧ s.heap.get? p = some { cls := .type "list", data := .seq its.toArray n } ∧ xs.length ≤ sizeLine := by
  obtain ⟨z, its, n, r, e⟩ := I.hok p _ h
  exact ⟨its, n, r, e, z⟩
/-- the list at p is written by an update of its object -/
theorem Inv.lstUpd {pins : List (Addr × Obj)} {σ : St} {H : Hp} {s : Shared} {p : Addr} {xs ys : List V} {its its' : List Value} {n n' : Nat} {f : Obj → Obj} (I : Inv X pins σ H s) (h : H p = some (.lst xs))
    (ho : s.heap.get? p = some { cls := .type "list", data := .seq its.toArray n }) (hf : f { cls := .type "list", data := .seq its.toArray n } = { cls := .type "list", data := .seq its'.toArray n' }) (r : Vals ys its') (hz : ys.length ≤ sizeLine) (t : Nat) :
    Inv X pins σ (upd H p (.lst ys)) { s with heap := s.heap.update p f, toks := t } := by
  have e : (s.heap.update p f).get? p = some { cls := .type "list", data := .seq its'.toArray n' } := by
    rw [Heap.get?_update_self f ho (by rw [hf] <;> rfl), hf]
  refine I.write (x := p) (e := p) (by rw [h]; trivial) (.inl rfl) (fun b u hb q => (Heap.get?_update_other _ _ (Ne.symm hb)).trans q) ⟨_, e⟩ ?_
  exact ⟨hz, its', n', r, e⟩
def rSetL : V → V → V → Hp → (Hp → Prop) → Prop := fun o i v H Q => ∃ p xs k j, o = .ref p ∧ i = .int k ∧ H p = some (.lst xs) ∧ ixN xs.length k = some j ∧ Q (upd H p (.lst (xs.set j v)))
theorem set_list : PSet X rSetL := by
  intro pins s σ H o i v ov iv u Q I ro ri rv h
  obtain ⟨p, xs, k, j, rfl, rfl, hp, hj, q⟩ := h
  cases ro
  obtain ⟨t, rfl⟩ := ri
  obtain ⟨its, n, r, ho, hz⟩ := I.lst hp
  obtain ⟨h1, h2, h3, h4⟩ := ixN_seq hj
  have hl := r.length
  have hn := line63
  have I' : Inv X pins σ (upd H p (.lst (xs.set j v))) { s with heap := s.heap.update p (Obj.mapSeq (·.setIfInBounds j u)) } :=
    I.lstUpd hp ho (mapSeq_set its n j u) (r.set rv j) (by rw [List.length_set]; exact hz) s.toks
  by_cases h0 : 0 ≤ k
  · have hk : k.toNat = j := by
      rw [seqIndex_of h0 h4] at h1
      exact Option.some.inj h1
    exact PySem.W.ki_setAt ho h0 (by omega) (by rw [List.size_toArray, ← hl]; exact h4) (by rw [hk]; exact ⟨_, I', q⟩)
  · have hk : (k + (its.toArray.size : Int)).toNat = j := by
      rw [seqIndex_neg (by omega) h3] at h1
      rw [List.size_toArray, ← hl]
      exact Option.some.inj h1
    exact PySem.W.ki_setBack ho (by omega) (by rw [List.size_toArray, ← hl]; exact h3) (by omega) (by rw [hk]; exact ⟨_, I', q⟩)

/-! ### slices -/
theorem slice_bounds (lo hi : Option Int) (n : Nat) : (sliceBounds lo hi none n).1 = ((HT.sIx n 0 lo : Nat) : Int) ∧ (sliceBounds lo hi none n).2.1 = ((HT.sIx n n hi : Nat) : Int) ∧ (sliceBounds lo hi none n).2.2 = 1 := by
  refine ⟨?_, ?_, rfl⟩
  · cases lo with
    | none => simp [sliceBounds, HT.sIx]
    | some i =>
      simp only [sliceBounds, HT.sIx, Option.getD_none, show (1 : Int) > 0 by decide, if_true]
      by_cases h : i < 0
      · simp only [h, if_true] <;> omega
      · simp only [h, if_false] <;> omega
  · cases hi with
    | none => simp [sliceBounds, HT.sIx]
    | some i =>
      simp only [sliceBounds, HT.sIx, Option.getD_none, show (1 : Int) > 0 by decide, if_true]
      by_cases h : i < 0
      · simp only [h, if_true] <;> omega
      · simp only [h, if_false] <;> omega
theorem slicePick_cut (its : List Value) (lo hi : Option Int) : slicePick its.toArray lo hi none = ((its.drop (HT.sIx its.length 0 lo)).take (HT.sIx its.length its.length hi - HT.sIx its.length 0 lo)).toArray := by
  obtain ⟨h1, h2, h3⟩ := slice_bounds lo hi its.toArray.size
  unfold slicePick
  rw [h1, h2, h3]
  simp only [sliceRange_one, pick_run, List.size_toArray] <;> rfl
/-- xs[lo:hi] of a list: a new list -/
def rSlL (K : PySem.W.Frag) : V → Option Int → Option Int → Hp → VK → Prop := fun x lo hi H Q => ∃ a xs, x = .ref a ∧ SqL K H a xs ∧ ∀ p, H p = none → Q (.ref p) (upd H p (.lst (cutV xs lo hi)))
theorem sl_list : SlR X (rSlL X.K) := by
  intro pins s σ H x v vl vu lo hi sl Q I rx hs pl pu h
  obtain ⟨a, xs, rfl, hx, q⟩ := h
  cases rx
  obtain ⟨its, r, ht, hz⟩ := I.list hx
  have hlen := r.length
  refine ⟨"list", _, slot_list_getitem.lookup, ht.isList.typeIs, ?_⟩
  refine wpAny_getItem_list_slice ht.isList hs pl pu .none (by simp) ?_ (by rw [List.size_toArray] <;> omega)
  rw [slicePick_cut, ← hlen]
  refine ⟨.ref s.heap.objs.size, _, I.laid (t' := s.toks) (o := .lst (cutV xs lo hi)) (fun b ob q => Heap.get?_push_of_some _ q) (Nat.le_refl _) ?_, rfl, q _ (I.hok.fresh (Nat.le_refl _))⟩
  exact ⟨Nat.le_trans (cutV_length xs lo hi) hz, _, 0, (r.drop (HT.sIx xs.length 0 lo)).take (HT.sIx xs.length xs.length hi - HT.sIx xs.length 0 lo), Heap.get?_push_size _ rfl⟩

/-! ### in, not in: flat items -/
def flatV : V → Bool
  | .non => true
  | .bl _ => true
  | .int _ => true
  | .str _ => true
  | _ => false
/-- == of flat values -/
def eqV : V → V → Bool
  | .non, .non => true
  | .bl a, .bl b => a == b
  | .bl a, .int b => (if a then 1 else 0) == b
  | .int a, .bl b => a == (if b then 1 else 0)
  | .int a, .int b => a == b
  | .str a, .str b => a == b
  | _, _ => false
theorem eqAt_V {A : Around} {s : Shared} {y x : V} {u v : Value} (ry : RelV y u) (rx : RelV x v) (fy : flatV y = true) (fx : flatV x = true) : SeqAt.EqAt A s u v (eqV y x) := by
  cases y with
  | non =>
    cases ry
    cases x with
    | non => cases rx; exact SeqAt.EqAt.same _
    | bl b => cases rx; exact SeqAt.EqAt.none_bool b
    | int b => obtain ⟨t, rfl⟩ := rx; exact SeqAt.EqAt.none_int b t
    | str b => obtain ⟨t, rfl⟩ := rx; exact SeqAt.EqAt.none_str b t
    | _ => exact absurd (show false = true from fx) Bool.false_ne_true
  | bl a =>
    cases ry
    cases x with
    | non => cases rx; exact SeqAt.EqAt.bool_none a
    | bl b => cases rx; exact SeqAt.EqAt.bool_bool a b
    | int b => obtain ⟨t, rfl⟩ := rx; exact SeqAt.EqAt.bool_int a b t
    | str b => obtain ⟨t, rfl⟩ := rx; exact SeqAt.EqAt.bool_str a b t
    | _ => exact absurd (show false = true from fx) Bool.false_ne_true
  | int a =>
    obtain ⟨t', rfl⟩ := ry
    cases x with
    | non => cases rx; exact SeqAt.EqAt.int_none a t'
    | bl b => cases rx; exact SeqAt.EqAt.int_bool a t' b
    | int b => obtain ⟨t, rfl⟩ := rx; exact SeqAt.EqAt.int_int a t' b t
    | str b => obtain ⟨t, rfl⟩ := rx; exact SeqAt.EqAt.int_str a t' b t
    | _ => exact absurd (show false = true from fx) Bool.false_ne_true
  | str a =>
    obtain ⟨t', rfl⟩ := ry
    cases x with
    | non => cases rx; exact SeqAt.EqAt.str_none a t'
    | bl b => cases rx; exact SeqAt.EqAt.str_bool a t' b
    | int b => obtain ⟨t, rfl⟩ := rx; exact SeqAt.EqAt.str_int a t' b t
    | str b => obtain ⟨t, rfl⟩ := rx; exact SeqAt.EqAt.str_str a t' b t
    | _ => exact absurd (show false = true from fx) Bool.false_ne_true
  | _ => exact absurd (show false = true from fy) Bool.false_ne_true
/-- the items' answers, read off the values (a value's own answer does not lean on its token) -/
def eqU (x : V) (u : Value) : Bool := match u with
  | .none => eqV .non x
  | .bool b => eqV (.bl b) x
  | .int i _ => eqV (.int i) x
  | .str z _ => eqV (.str z) x
  | _ => false
theorem eqU_of {x y : V} {u : Value} (r : RelV y u) (f : flatV y = true) : eqU x u = eqV y x := by
  cases y with
  | non => cases r; rfl
  | bl b => cases r; rfl
  | int i => obtain ⟨t, rfl⟩ := r; rfl
  | str z => obtain ⟨t, rfl⟩ := r; rfl
  | _ => exact absurd (show false = true from f) Bool.false_ne_true
theorem any_eqU {x : V} : ∀ {xs : List V} {us : List Value}, Vals xs us → xs.all flatV = true → us.any (eqU x) = xs.any fun y => eqV y x
  | _, _, .nil, _ => rfl
  | y :: xs, u :: us, .cons r t, f => by
    rw [List.all_cons, Bool.and_eq_true] at f
    rw [List.any_cons, List.any_cons, eqU_of r f.1, any_eqU t f.2]
theorem mem_eqAt {A : Around} {s : Shared} {x : V} {v : Value} (rx : RelV x v) (fx : flatV x = true) : ∀ {xs : List V} {us : List Value}, Vals xs us → xs.all flatV = true → ∀ u ∈ us, SeqAt.EqAt A s u v (eqU x u)
  | _, _, .nil, _ => fun u hu => by cases hu
  | y :: xs, u :: us, .cons r t, f => fun u' hu => by
    rw [List.all_cons, Bool.and_eq_true] at f
    rcases List.mem_cons.mp hu with rfl | hu
    · rw [eqU_of r f.1]; exact eqAt_V r rx f.1 fx
    · exact mem_eqAt rx fx t f.2 u' hu
def inV (x : V) (xs : List V) : Bool := xs.any fun y => eqV y x
/-- x in a list or tuple of flat items -/
def rIn (K : PySem.W.Frag) (neg : Bool) : R2 := fun x y H Q => ∃ p xs, y = .ref p ∧ (SqL K H p xs ∨ SqT K H p xs) ∧ flatV x = true ∧ xs.all flatV = true ∧ Q (.bl (if neg then !inV x xs else inV x xs)) H
theorem op_notIn_seq : OpR X (compareOp .NotIn) (rIn X.K true) := by
  intro pins s σ H x y v u Q I rx ry h
  obtain ⟨p, xs, rfl, hq, fx, fs, q⟩ := h
  cases ry
  rcases hq with hq | hq
  · obtain ⟨its, r, pl, hz⟩ := I.list hq
    refine SeqAt.notIn_listAt (eqU x) pl.isList (fun w hw => mem_eqAt rx fx r fs w (by simpa using hw)) ⟨.bl _, H, I, rfl, ?_⟩
    rw [show its.toArray.any (eqU x) = its.any (eqU x) by simp, any_eqU r fs]
    exact q
  · obtain ⟨its, r, pl, hz⟩ := I.tuple hq
    refine SeqAt.notIn_tupleAt (eqU x) pl (fun w hw => mem_eqAt rx fx r fs w (by simpa using hw)) ⟨.bl _, H, I, rfl, ?_⟩
    rw [show its.toArray.any (eqU x) = its.any (eqU x) by simp, any_eqU r fs]
    exact q
/-! ### len, list(x), tuple(x) of any list or tuple that is read -/
theorem call_len_seq : CallR X (.builtin "len") (fun xs H Q => ∃ p ys, xs = [.ref p] ∧ (SqL X.K H p ys ∨ SqT X.K H p ys) ∧ Q (.int ys.length) H) := by
  intro pins s σ H xs us Q I r h
  obtain ⟨p, ys, rfl, hq, q⟩ := h
  obtain ⟨u, rfl, rx⟩ := vals1 r
  cases rx
  have hn := line63
  rcases hq with hq | hq
  · obtain ⟨its, r', pl, hz⟩ := I.list hq
    have hlen := r'.length
    exact Calls.call_len_list pl.isList (by simp only [List.size_toArray] <;> omega) ⟨.int ys.length, H, I.tok _, ⟨s.toks + 1, by rw [List.size_toArray, hlen]⟩, q⟩
  · obtain ⟨its, r', pl, hz⟩ := I.tuple hq
    have hlen := r'.length
    exact len_tuple pl (by simp only [List.size_toArray] <;> omega) ⟨.int ys.length, H, I.tok _, ⟨s.toks + 1, by rw [List.size_toArray, hlen]⟩, q⟩
theorem call_list_of : CallR X (.type "list") (fun xs H Q => ∃ p ys, xs = [.ref p] ∧ (SqL X.K H p ys ∨ SqT X.K H p ys) ∧ ∀ l, H l = none → Q (.ref l) (upd H l (.lst ys))) := by
  intro pins s σ H xs us Q I r h
  obtain ⟨p, ys, rfl, hq, q⟩ := h
  obtain ⟨u, rfl, rx⟩ := vals1 r
  cases rx
  have fin : ∀ (its : List Value), Vals ys its → ys.length ≤ sizeLine → ∀ (h' : Heap) (c' : Nat), (∀ b o', s.heap.get? b = some o' → h'.get? b = some o') →
      h'.get? s.heap.objs.size = some { cls := .type "list", dict := none, data := .seq its.toArray c', slots := #[] } → EP X pins σ Q (.ref s.heap.objs.size) { s with heap := h' } := fun its r' hz h' c' kp e =>
    ⟨.ref s.heap.objs.size, _, I.laid (t' := s.toks) kp (Nat.le_refl _) (show ObjOk X.prog X.w _ h' _ (.lst ys) from ⟨hz, its, c', r', e⟩), rfl, q _ (I.hok.fresh (Nat.le_refl _))⟩
  rcases hq with hq | hq
  · obtain ⟨its, r', pl, hz⟩ := I.list hq
    have hlen := r'.length
    obtain ⟨o, ho, hc, n, hd⟩ := pl.isList
    exact call_list_seq p (.inl rfl) ho hc hd (fun h' c' kp e => fin its r' hz h' c' kp e) (by simp only [List.size_toArray] <;> omega)
  · obtain ⟨its, r', pl, hz⟩ := I.tuple hq
    have hlen := r'.length
    obtain ⟨o, ho, hc, n, hd⟩ := pl
    exact call_list_seq p (.inr rfl) ho hc hd (fun h' c' kp e => fin its r' hz h' c' kp e) (by simp only [List.size_toArray] <;> omega)
/-! ### the call of a builtin's method: o.m(..) -/
/-- the value is of that builtin type -/
def tyV (K : PySem.W.Frag) (T : String) (x : V) (H : Hp) : Prop := match x with
  | .str _ => T = "str"
  | .int _ => T = "int"
  | .ref p => (T = "list" ∧ ∃ xs, SqL K H p xs) ∨ (T = "tuple" ∧ ∃ o, K.lookup p = some o ∧ o.cls = .type "tuple" ∧ o.dict = none) ∨
      (T = "dict" ∧ ((∃ kvs, H p = some (.dK kvs)) ∨ ∃ kvs, H p = some (.dT kvs))) ∨ (T = "set" ∧ ∃ S n, H p = some (.set S n))
  | _ => False
theorem tyV_is {pins : List (Addr × Obj)} {σ : St} {H : Hp} {s : Shared} {T : String} {x : V} {v : Value} (I : Inv X pins σ H s) (r : RelV x v) (ty : tyV X.K T x H) :
    s.TypeIs v T ∧ ∀ a, v = .ref a → ∃ ob, s.heap.get? a = some ob ∧ ob.dict = none := by
  cases x with
  | str z =>
    obtain ⟨t, rfl⟩ := r
    cases (show T = "str" from ty)
    exact ⟨typeIs_str s z t, fun _ e => nomatch e⟩
  | int i =>
    obtain ⟨t, rfl⟩ := r
    cases (show T = "int" from ty)
    exact ⟨typeIs_int s i t, fun _ e => nomatch e⟩
  | ref p =>
    cases r
    rcases ty with ⟨rfl, xs, hq⟩ | ⟨rfl, o, hk, hc, hd⟩ | ⟨rfl, hk⟩ | ⟨rfl, S, n, hk⟩
    · obtain ⟨its, _, pl, _⟩ := I.list hq
      refine ⟨pl.isList.typeIs, fun a e => ?_⟩
      cases e
      obtain ⟨o, n, e, c, hd, _⟩ := pl
      exact ⟨o, e, hd⟩
    · refine ⟨⟨o, I.kIn p o hk, hc⟩, fun a e => ?_⟩
      cases e
      exact ⟨o, I.kIn _ o hk, hd⟩
    · have z : ∃ o, s.heap.get? p = some o ∧ o.ExactDict := by
        rcases hk with ⟨kvs, hk⟩ | ⟨kvs, hk⟩
        · obtain ⟨_, _, _, _, o, _, _, e, ex, _⟩ := I.hok p _ hk
          exact ⟨o, e, ex⟩
        · obtain ⟨_, _, _, _, o, _, _, e, ex, _⟩ := I.hok p _ hk
          exact ⟨o, e, ex⟩
      obtain ⟨o, e, ex⟩ := z
      refine ⟨⟨o, e, ex.1⟩, fun a e2 => ?_⟩
      cases e2
      exact ⟨o, e, ex.2.1⟩
    · obtain ⟨o, _, _, _, e, ex, _⟩ := I.hok p _ hk
      refine ⟨⟨o, e, ex.1⟩, fun a e2 => ?_⟩
      cases e2
      exact ⟨o, e, ex.2.1⟩
  | _ => exact False.elim ty
def tBM0 (K : PySem.W.Frag) (T : String) (r : V → List V → Hp → VK → Prop) (to : TE) : TE := fun σ H Q => to σ H fun x H1 => tyV K T x H1 ∧ r x [] H1 Q
def tBM (K : PySem.W.Frag) (T : String) (r : V → List V → Hp → VK → Prop) (to : TE) (t : TA) : TE := fun σ H Q => to σ H fun x H1 => tyV K T x H1 ∧ t σ H1 fun xs H2 => r x xs H2 Q
variable {o e : Expr} {es : List Expr} {to : TE} {t : TA} {name : Str} {apos cpos : Pos} {T id : String} {r : V → List V → Hp → VK → Prop}
theorem pe_bm (pa : PlainAttrs T) (slot : Slot T name id) (hty : typeOf (.builtin id) = pure (.type "method_descriptor")) (hm : MtR X id r) (ho : PE X o to) (ha : PA X (e :: es) t)
    (hbase : attributeBase o name X.env (eval o X.env) = eval o X.env := by rfl)
    (hfew : ((backTo cpos (starEach (e :: es) X.env)).all (fun x => !x.1) && (backToKw cpos (keywordEach [] X.env)).all (fun x => x.1.isSome)
      && decide ((e :: es).length + ([] : List Keyword).length + (if ([] : List Keyword).isEmpty then 0 else 1) < 30)) = true := by rfl)
    (hline : (apos.endLine == cpos.line) = true := by rfl) (hs : starEach (e :: es) X.env = (false, eval e X.env) :: starEach es X.env := by rfl) (hplain : (backTo cpos (starEach es X.env)).any (·.1) = false := by rfl) :
    PE X (.Call (.Attribute o name apos) (e :: es) [] cpos) (tBM X.K T r to t) := by
  intro pins s σ H Q I h
  refine wpAny_Call_method_late hbase hfew hline rfl (thn (ho pins s σ H _ I h) fun v s1 ⟨x, H1, I1, r1, ty, q1⟩ => ?_)
  obtain ⟨h1, h2⟩ := tyV_is I1 r1 ty
  refine ⟨T, id, pa, slot, hty, h1, h2, ?_⟩
  have hA := ha cpos pins s1 σ H1 _ I1 q1
  rw [hs] at hA ⊢
  refine Calls.callWith_builtin (by show (false || (backTo cpos (starEach es X.env)).any (·.1)) = false; rw [hplain] <;> rfl) (Calls.evalArgs_plain ?_)
  exact thn hA fun us s2 ⟨vs, H2, I2, r2, q2⟩ => hm pins s2 σ H2 x vs v us Q I2 r1 r2 q2
/- xs.append(e), list.index on a module's tuple .. are MtR facts of 06m -/
end
end L2

namespace L2
open PySem PySem.Spec PyProof.Rows

def MtM (X : Cx) (id : String) (r : V → List V → Hp → VK → Prop) : Prop :=
  ∀ (pins : List (Addr × Obj)) (s : Shared) (σ : St) (H : Hp) (x : V) (xs : List V) (v : Value) (us : List Value) (Q : VK), Inv X pins σ H s → RelV x v → Vals xs us → r x xs H Q →
    wpAny (model X.prog X.w) X.A (call (.builtin id) (v :: us)) (EP X pins σ Q) X.xe s

/-! ### lists of values -/
theorem Vals.one : ∀ {x : V} {us : List Value}, Vals [x] us → ∃ u, us = [u] ∧ RelV x u
  | _, _, .cons r .nil => ⟨_, rfl, r⟩
section
variable {X : Cx} {pins : List (Addr × Obj)} {σ : St} {H : Hp} {s : Shared} {l b : Addr} {xs ys zs : List V}

/-! ### the two steps: a tracked list is rewritten, a new list is laid -/
theorem Inv.lset {its its' : List Value} {n : Nat} {f : Array Value → Array Value} {t' : Nat} (I : Inv X pins σ H s) (hH : H l = some (.lst xs))
    (e : s.heap.get? l = some { cls := .type "list", data := .seq its.toArray n }) (hf : f its.toArray = its'.toArray) (hv : Vals ys its') (hz : ys.length ≤ sizeLine) :
    Inv X pins σ (upd H l (.lst ys)) { s with heap := s.heap.update l (Obj.mapSeq f), toks := t' } := by
  have q := PySem.IsL.update e f
  rw [hf] at q
  refine I.write (x := l) (e := l) (by rw [hH]; exact trivial) (.inl rfl) (fun b' u hb hu => (Heap.get?_update_other s.heap (Obj.mapSeq f) (Ne.symm hb)).trans hu) ⟨_, q⟩ ?_
  exact ⟨hz, its', _, hv, q⟩
theorem Inv.lnew {its : List Value} {t' : Nat} (I : Inv X pins σ H s) (hv : Vals ys its) (hz : ys.length ≤ sizeLine) :
    Inv X pins σ (upd H s.heap.objs.size (.lst ys)) { s with heap := s.heap.push { cls := .type "list", data := .seq its.toArray }, toks := t' } :=
  I.laid (fun _ _ q => Heap.get?_push_of_some _ q) (Nat.le_refl _) ⟨hz, its, 0, hv, Heap.get?_push_size _ rfl⟩
theorem Inv.fresh (I : Inv X pins σ H s) : H s.heap.objs.size = none := I.hok.fresh (Nat.le_refl _)
theorem Inv.lstM (I : Inv X pins σ H s) (hH : H l = some (.lst xs)) : xs.length ≤ sizeLine ∧ ∃ (its : List Value) (n : Nat), Vals xs its ∧ xs.length = its.length ∧ s.heap.get? l = some { cls := .type "list", data := .seq its.toArray n } := by
  obtain ⟨z, its, n, r, e⟩ := I.hok l _ hH
  exact ⟨z, its, n, r, r.length, e⟩

end

section
variable {X : Cx}

/-! ### methods -/
def rAppend : V → List V → Hp → VK → Prop := fun x vs H Q => ∃ l xs y, x = .ref l ∧ vs = [y] ∧ H l = some (.lst xs) ∧ xs.length < sizeLine ∧ Q .non (upd H l (.lst (xs ++ [y])))
theorem mt_append : MtM X "list.append" rAppend := by
  intro pins s σ H x vs v us Q I rx rv h
  obtain ⟨l, xs, y, rfl, rfl, hH, hz, q⟩ := h
  cases rx
  obtain ⟨u, rfl, ru⟩ := rv.one
  obtain ⟨z, its, n, r, hl, e⟩ := I.lstM hH
  refine call_meets F.slot_list_append ⟨_, e, rfl⟩ F.entry_list_append (F.args_list_append_2 _ _) (PySem.list_append l its.toArray n u (by rw [List.size_toArray]; omega)) ⟨e, ?_⟩
  refine ⟨.non, _, I.lset (its' := its ++ [u]) hH e (by simp) (r.append (.cons ru .nil)) ?_, rfl, q⟩
  rw [List.length_append, List.length_singleton]
  omega

def rExtend : V → List V → Hp → VK → Prop := fun x vs H Q => ∃ l b xs zs, x = .ref l ∧ vs = [.ref b] ∧ H l = some (.lst xs) ∧ H b = some (.lst zs) ∧ xs.length + zs.length ≤ sizeLine ∧ Q .non (upd H l (.lst (xs ++ zs)))
def rPop : V → List V → Hp → VK → Prop := fun x vs H Q => ∃ l xs y, x = .ref l ∧ vs = [] ∧ H l = some (.lst xs) ∧ xs[xs.length - 1]? = some y ∧ Q y (upd H l (.lst xs.dropLast))
def rPopAt : V → List V → Hp → VK → Prop := fun x vs H Q => ∃ l xs i k y, x = .ref l ∧ vs = [.int i] ∧ H l = some (.lst xs) ∧ -(2 ^ 63) ≤ i ∧ i < 2 ^ 63 ∧ seqIndex? i xs.length = some k ∧ xs[k]? = some y ∧ Q y (upd H l (.lst (xs.eraseIdx k)))
def rReverse : V → List V → Hp → VK → Prop := fun x vs H Q => ∃ l xs, x = .ref l ∧ vs = [] ∧ H l = some (.lst xs) ∧ Q .non (upd H l (.lst xs.reverse))
def rClear : V → List V → Hp → VK → Prop := fun x vs H Q => ∃ l xs, x = .ref l ∧ vs = [] ∧ H l = some (.lst xs) ∧ Q .non (upd H l (.lst []))
/-! ### list + list, list += list, list * int -/
def rCat : R2 := fun x y H Q => ∃ l b xs zs, x = .ref l ∧ y = .ref b ∧ H l = some (.lst xs) ∧ H b = some (.lst zs) ∧ xs.length + zs.length ≤ sizeLine ∧ ∀ p, H p = none → Q (.ref p) (upd H p (.lst (xs ++ zs)))
theorem op_cat : OpR X (binaryOp .Add) rCat := by
  intro pins s σ H x y v u Q I rx ry h
  obtain ⟨l, b, xs, zs, rfl, rfl, hH, hB, hz, q⟩ := h
  cases rx
  cases ry
  obtain ⟨z, its, n, r, hl, e⟩ := I.lstM hH
  obtain ⟨z2, its2, n2, r2, hl2, e2⟩ := I.lstM hB
  refine PySem.P.add_list e e2 ?_ (by rw [List.size_toArray, List.size_toArray]; omega)
  have ea : its.toArray ++ its2.toArray = (its ++ its2).toArray := by simp
  rw [ea]
  exact ⟨.ref _, _, I.lnew (t' := s.toks) (r.append r2) (by rw [List.length_append]; omega), rfl, q _ I.fresh⟩
/-- a list times an int (a negative one is nothing) -/
def rRep : R2 := fun x y H Q => ∃ l k xs, x = .ref l ∧ y = .int k ∧ H l = some (.lst xs) ∧ -(2 ^ 63) ≤ k ∧ k < 2 ^ 63 ∧ xs.length * k.toNat ≤ sizeLine ∧
  ∀ p, H p = none → Q (.ref p) (upd H p (.lst (List.replicate k.toNat xs).flatten))
/-! ### del xs[i] -/
end

/-! ### xs[a:b] = ys -/
section
variable {prog : Program} {w : World} {A : Around} {E : Value → Shared → Prop} {s : Shared}
set_option maxRecDepth 100000 in
end

section
variable {X : Cx}
end
end L2

namespace Att
open PySem PySem.W PySem.Calls PyProof.Rows

/-! ### the script -/
theorem ints_of_wellAll {P : Params} {h : Heap} : ∀ (ns : List Int) (vs : List Value), WellAll P h vs (ns.map WData.int) → IntsAre vs ns := by
  intro ns
  induction ns with
  | nil =>
    intro vs w
    rw [List.map_nil] at w
    cases w
    exact .nil
  | cons n ns ih =>
    intro vs w
    rw [List.map_cons] at w
    cases w with
    | cons a b =>
      cases a
      exact .cons _ _ (ih _ b)

theorem script_of {l : OpenLaw} {n : Nat} (hn : l.most = some n) {P : Params} {h : Heap} {args : List WData} {vals : List Value}
    (hpre : l.row.toRowW.claim.pre args = true) (hwl : WellAll P h vals args) :
    ∃ a vs ns, vals = [Value.ref a] ∧ args = [WData.list (ns.map WData.int)] ∧ h.get? a = some { cls := .type "list", data := .seq vs.toArray } ∧ IntsAre vs ns ∧ ns.length ≤ n := by
  have hsh : WShape.hasAll [] args [.list .int] = true := (pre_splitW hpre).1
  have hc : l.pre.holds [] { args := args } = true := (pre_splitW hpre).2
  obtain ⟨d, r, rfl, h1, h2⟩ := hasAllW_cons hsh
  obtain rfl := hasAllW_nil h2
  obtain ⟨xs, rfl, h3⟩ := hasW_list h1
  obtain ⟨ns, rfl⟩ := items_int h3
  have hlen : ns.length ≤ n := by
    unfold OpenLaw.pre at hc
    have h4 : (WTm.not (.lt (.lit (.int (n : Int))) (.len (.arg 0)))).holds [] { args := [.list (ns.map .int)] } = true := by
      have h4 := (holds_andW hc).1
      rw [hn] at h4
      exact h4
    have h5 := condW_of h4 (w_not (w_lt w_lit (w_len_list (w_arg rfl))))
    rw [List.length_map] at h5
    refine Nat.le_of_not_lt fun q => ?_
    have q' : (n : Int) < ((ns.length : Nat) : Int) := by omega
    first
      | (rw [decide_eq_true q'] at h5; exact absurd h5 (by decide))
      | (simp at h5; omega)
  cases hwl with
  | cons w1 w2 =>
    cases w2
    cases w1 with
    | list ho hall => exact ⟨_, _, ns, rfl, rfl, ho, ints_of_wellAll ns _ hall, hlen⟩

theorem post_true (l : OpenLaw) (args : List WData) : l.row.toRowW.claim.post args (.bool true) args = true :=
  postW_of (r := l.row.toRowW) (X := (true == true))
    (show WShape.has [] (.bool true) .bool = true by first | rfl | decide | simp [WShape.has, WShape.arms, WShape.armsAll])
    (show (WTm.eq .res (.lit (.bool true))).value [] { args := args, res := some (.bool true), after := args } = some (.bool (true == true)) from w_eq_bool (w_res rfl) w_lit) rfl

/-! ### the attachment: holds_open's last premise (the goal 'hc' behind k_head) from a wpAny of the law's body -/
/-- the same from a codeAny of the CALL (for a layer whose function contracts speak of calls) -/
theorem attach_call {l : OpenLaw} {n : Nat} {q : Program} {loose : List Str} {XP : (Str → Option Value) → Heap → Prop} {YP : World → Heap → Prop} {d : DefRec}
    (hn : l.most = some n) (hdf : d.params.defaults = [])
    (call : ∀ (w : World) (s₀ s₁ : Shared) (mg mb : Str → Option Value) (fa : Addr) (o : Obj) (pm cd doc : Value) (a : Addr) (vs : List Value) (ns : List Int),
      Ground q loose [] XP w s₀ mg mb s₁.heap → YP w s₁.heap →
      s₁.heap.get? fa = some o → o.data = .func (docDef d.name d.params d.body d.scope pm cd doc) → s₁.heap.CodeRec cd d.name → mg d.name = some (.ref fa) →
      s₁.heap.get? a = some { cls := .type "list", data := .seq vs.toArray } → IntsAre vs ns → ns.length ≤ n → s₁.gens = #[] →
      codeAny (model l.prog w) callerA (.call (.ref fa) ⟨[.ref a], []⟩) (fun r s' => r = .ok (.ret (.bool true)) ∧ OldK s₁.heap s'.heap ∧ s'.os = s₁.os ∧ AllBare s'.gens) s₁) :
    WalkO q loose XP YP l.row.toRowW d [] (fun f vs => PySem.call f vs) := by
  intro w s₀ s₁ mg mb G Y fa o pm cd doc dV kV ho hd hcd hD hmg hg args vals as hpre hlay hrd hwl hlo
  obtain rfl : dV = .none := Dflts.none hD hdf
  obtain rfl : kV = .none := Dflts.noKw hD
  obtain ⟨a, vs, ns, rfl, rfl, hobj, hints, hlen⟩ := script_of hn hpre hwl
  refine enter_call (codeAny_mono (call w s₀ s₁ mg mb fa o pm cd doc a vs ns G Y ho (fd_plain hd) hcd hmg hobj hints hlen hg) fun r s' hq => ?_)
  obtain ⟨rfl, h2, h3, h4⟩ := hq
  exact ⟨.inl ⟨.bool true, .bool true, [], rfl, fun _ => rfl, .bool true, post_true l _, fun _ => ⟨List.Pairwise.nil, fun _ hm => (nomatch hm)⟩⟩, h2, h3, h4⟩

/-! ### rules over ANY heap (no ledger) from facts about the written part K: the library's own take a ledger (News) for what they write -/
section
variable {prog : Program} {w : World} {A : Around} {E : Value → Shared → Prop} {s : Shared} {K : Frag}

/-! the whole heap as the ledger: makes every rule that writes through a ledger a rule over any heap -/
def noObjs (h : Heap) : Heap := { h with objs := #[] }
def ledger (h : Heap) (L d : Addr) : List (Addr × Obj) := (List.range h.objs.size).filterMap fun a => if a = L ∨ a = d then none else (h.get? a).map fun o => (a, o)
end
end Att

namespace L2
open PySem PySem.Spec PyProof.Rows

theorem vals_ints : ∀ {vs : List Value} {ns : List Int}, IntsAre vs ns → Vals (ns.map V.int) vs
  | _, _, .nil => .nil
  | _, _, .cons n t h => .cons ⟨t, rfl⟩ (vals_ints h)

/-- nothing is tracked but the script, known to the object (or it is an object of the module) -/
def Only (H : Hp) : Prop := ∀ b, H b = none ∨ ∃ o xs, H b = some (.frz o (.lst xs))

/-- THE HEAD: the law's promise, at the heap behind the top. F, the promise of the law's def, may use that base is part of the heap (so K.In base, base.Ns mainGlobals mg stand in Mod) -/
theorem law_call {P : Program} {w : World} {K : PySem.W.Frag} {mg mb : Str → Option Value} {CX : CXT} {k : Nat} {fa a : Addr} {fd : FuncData} {x : Str} {sp : Sp} {s₁ : Shared} {vs : List Value} {ns : List Int}
    (KX : K.In s₁.heap) (hns : s₁.heap.Ns mainGlobals mg) (hb : s₁.heap.Ns builtinsNs mb) (hbb : ∀ x : Str, x ≠ "__name__" → mb x = bootBuiltins x) (hlim : s₁.heap.NoLimit) (hg : s₁.gens = #[])
    (ha : s₁.heap.get? a = some { cls := .type "list", data := .seq vs.toArray }) (hi : IntsAre vs ns) (hl : ns.length ≤ sizeLine) (hr : Room k callerA)
    (F : ∀ base : Heap, K.In base → base.Ns mainGlobals mg → FnOk P w K mg base CX k fa fd [x] sp) (hbind : ∀ (s : Shared) (u : Value), BindsTo s fd ⟨[u], []⟩ [(x, u)])
    (hsp : ∀ H : Hp, Only H → SqL K H a (ns.map V.int) → sp [.ref a] H (fun v _ => v = .bl true) fun _ _ _ => False)
    (hCX : ∀ H e s', CX [] H s₁ (fun _ _ _ => False) e s' → False) :
    codeAny (model P w) callerA (.call (.ref fa) ⟨[.ref a], []⟩) (fun r s' => r = .ok (.ret (.bool true)) ∧ OldK s₁.heap s'.heap ∧ s'.os = s₁.os ∧ AllBare s'.gens) s₁ := by
  have rv := vals_ints hi
  have lenV := hi.length
  -- from an abstract heap in which nothing but the script may be tracked
  have core : ∀ H : Hp, Only H → SqL K H a (ns.map V.int) → HOk P w H s₁.heap → (∀ b, H b ≠ none → b = a) → (H a ≠ none → K.lookup a = none) →
      codeAny (model P w) callerA (.call (.ref fa) ⟨[.ref a], []⟩) (fun r s' => r = .ok (.ret (.bool true)) ∧ OldK s₁.heap s'.heap ∧ s'.os = s₁.os ∧ AllBare s'.gens) s₁ := by
    intro H hO hS hok hA hK
    have base_of : ∀ {b : Addr} {o : Obj}, s₁.heap.get? b = some o → H b = none → (hidT s₁.heap H).get? b = some o := fun e n => hidT_get e n
    have noA : ∀ {b : Addr} {o : Obj} {es : Array DictEntry} {ep : Nat}, s₁.heap.get? b = some o → o.data = .dict es ep → H b = none := fun {b o es ep} e d => by
      cases q : H b with
      | none => rfl
      | some u =>
        have e' : b = a := hA b (by rw [q]; simp)
        subst e'
        rw [ha] at e; cases e
        have d' : Data.seq vs.toArray _ = Data.dict es ep := d
        cases d'
    have nsK : ∀ {b : Addr} {m : Str → Option Value}, s₁.heap.Ns b m → (hidT s₁.heap H).Ns b m := fun {b m} ⟨o, es, ep, e, d, r⟩ => ⟨o, es, ep, base_of e (noA e d), d, r⟩
    have hKb : K.In (hidT s₁.heap H) := fun b o e => base_of (KX b o e) (by
      cases q : H b with
      | none => rfl
      | some u =>
        have e' : b = a := hA b (by rw [q]; simp)
        subst e'
        rw [hK (by rw [q]; simp)] at e; cases e)
    have hM : Mod K mg (hidT s₁.heap H) := ⟨hKb, nsK hns, ⟨mb, nsK hb, hbb⟩, let ⟨mc, h1, h2⟩ := hlim; ⟨mc, nsK h1, h2⟩⟩
    have e0 : Env0 P w K mg (hidT s₁.heap H) callerA [] s₁ H := ⟨rfl, hM, fun b o e => of_hidT e, Nat.le_of_eq (hidT_size _ _), trivial, fun b hb => absurd (show b ∈ ([] : List Addr) from hb) (by simp), hok, .of_eq hg⟩
    refine codeAny_mono ((F _ hKb (nsK hns)).run callerA [] s₁ H ⟨[.ref a], []⟩ [.ref a] [.ref a] _ _ hr e0 (hbind s₁ (.ref a)) (.cons rfl .nil) (hsp H hO hS)) fun r s' h => ?_
    cases r with
    | error e => exact (hCX H e s' h).elim
    | ok fl =>
      cases fl with
      | next => exact False.elim h
      | brk => exact False.elim h
      | cont => exact False.elim h
      | ret u =>
        obtain ⟨v, H', os, bare, un, hok', r', q⟩ := h
        have q' : v = .bl true := q
        subst q'
        obtain rfl : u = Value.bool true := r'
        refine ⟨rfl, OldK.of_keep fun b o e => ?_, os, bare⟩
        cases q : H b with
        | none => exact un.keep b o e q (by intro z; exact absurd (show b ∈ ([] : List Addr) from z) (by simp)) (by simp)
        | some u =>
          rcases hO b with z | ⟨ob, xs, z⟩
          · rw [q] at z; cases z
          · have z2 := un.frzs b ob _ z
            obtain ⟨e1, _⟩ := hok b _ z
            obtain ⟨e2, _⟩ := hok' b _ z2
            rw [e] at e1; cases e1
            exact e2
  cases hk : K.lookup a with
  | some o =>
    -- the script is one of the module's own objects
    have e := KX a o hk
    rw [ha] at e
    cases e
    refine core (fun _ => none) (fun _ => .inl rfl) (.inr ⟨_, vs.toArray, _, hk, rfl, rfl, rfl, by rw [List.size_toArray, lenV]; exact hl, by simpa using rv⟩) (fun b u z => by have z' : (none : Option HO) = some u := z; cases z') (fun b z => absurd rfl z) fun z => absurd rfl z
  | none =>
    refine core (fun b => if b = a then some (.frz { cls := .type "list", data := .seq vs.toArray } (.lst (ns.map V.int))) else none) (fun b => ?_) (.inl (.inr ⟨{ cls := .type "list", data := .seq vs.toArray }, if_pos rfl⟩)) (fun b u z => ?_) (fun b z => ?_) fun _ => hk
    · by_cases hb : b = a
      · exact .inr ⟨_, _, if_pos hb⟩
      · exact .inl (if_neg hb)
    · by_cases hb : b = a
      · have z' := (if_pos hb).symm.trans z
        cases z'
        subst hb
        exact ⟨ha, by rw [List.length_map]; exact hl, vs, _, rv, ha⟩
      · have z' := (if_neg hb).symm.trans z
        cases z'
    · by_cases hb : b = a
      · exact hb
      · exact absurd (if_neg hb) z
end L2

namespace L2
open PySem PySem.Spec PyProof.Rows

abbrev KOf {K : PySem.W.Frag} {h : Heap} (_ : K.In h) : PySem.W.Frag := K

/-- the goal that k_head leaves (case hc), from the law's promise. F gives the function object fd (K's own) once, then the promise over every base -/
theorem walk_of {l : PySem.W.OpenLaw} {n k : Nat} {q : Program} {loose : List Str} {XP : (Str → Option Value) → Heap → Prop} {YP : World → Heap → Prop} {d : DefRec} {K : Params → PySem.W.Frag} {CX : World → CXT} {sp : World → Sp} {x : Str}
    (hn : l.most = some n) (hn2 : n ≤ sizeLine) (hdf : d.params.defaults = []) (hr : Room k callerA)
    (hY : ∀ (w : World) (h : Heap), YP w h → (K w.params).In h)
    (F : ∀ (w : World) (mg : Str → Option Value) (fa : Addr) (h : Heap), (K w.params).In h → h.Ns mainGlobals mg → mg d.name = some (.ref fa) →
      ∃ fd : FuncData, (∀ (s : Shared) (u : Value), BindsTo s fd ⟨[u], []⟩ [(x, u)]) ∧
        ∀ base : Heap, (K w.params).In base → base.Ns mainGlobals mg → FnOk l.prog w (K w.params) mg base (CX w) k fa fd [x] (sp w))
    (hsp : ∀ (w : World) (H : Hp) (a : Addr) (ns : List Int), ns.length ≤ n → Only H → SqL (K w.params) H a (ns.map V.int) → sp w [.ref a] H (fun v _ => v = .bl true) fun _ _ _ => False)
    (hCX : ∀ (w : World) (H : Hp) (s : Shared) (e : Value) (s' : Shared), CX w [] H s (fun _ _ _ => False) e s' → False) :
    PySem.W.WalkO q loose XP YP l.row.toRowW d [] (fun f vs => PySem.call f vs) := by
  refine Att.attach_call hn hdf fun w s₀ s₁ mg mb fa o pm cd doc a vs ns G Y ho hd hcd hmg hobj hints hlen hg => ?_
  have KX := hY w _ Y
  obtain ⟨fd, hb, hF⟩ := F w mg fa _ KX G.T.g hmg
  exact law_call KX G.T.g G.T.b G.T.builtins G.T.nolimit hg hobj hints (Nat.le_trans hlen hn2) hr hF hb (fun H hO hS => hsp w H a ns hlen hO hS) fun H e s' => hCX w H s₁ e s'
/-- the same where the promise hangs on the written part alone: (sp := My.sp_law), no hole under a binder -/
theorem walk_ofK {l : PySem.W.OpenLaw} {n k : Nat} {q : Program} {loose : List Str} {XP : (Str → Option Value) → Heap → Prop} {YP : World → Heap → Prop} {d : DefRec} {K : Params → PySem.W.Frag} {CX : CXT} {sp : PySem.W.Frag → Sp} {x : Str}
    (hn : l.most = some n) (hn2 : n ≤ sizeLine) (hdf : d.params.defaults = []) (hr : Room k callerA)
    (hY : ∀ (w : World) (h : Heap), YP w h → (K w.params).In h)
    (F : ∀ (w : World) (mg : Str → Option Value) (fa : Addr) (h : Heap), (K w.params).In h → h.Ns mainGlobals mg → mg d.name = some (.ref fa) →
      ∃ fd : FuncData, (∀ (s : Shared) (u : Value), BindsTo s fd ⟨[u], []⟩ [(x, u)]) ∧
        ∀ base : Heap, (K w.params).In base → base.Ns mainGlobals mg → FnOk l.prog w (K w.params) mg base CX k fa fd [x] (sp (K w.params)))
    (hsp : ∀ (K : PySem.W.Frag) (H : Hp) (a : Addr) (ns : List Int), ns.length ≤ n → Only H → SqL K H a (ns.map V.int) → sp K [.ref a] H (fun v _ => v = .bl true) fun _ _ _ => False)
    (hCX : ∀ (H : Hp) (s : Shared) (e : Value) (s' : Shared), CX [] H s (fun _ _ _ => False) e s' → False) :
    PySem.W.WalkO q loose XP YP l.row.toRowW d [] (fun f vs => PySem.call f vs) :=
  walk_of (K := K) (CX := fun _ => CX) (sp := fun w => sp (K w.params)) hn hn2 hdf hr hY F (fun w H a ns h1 h2 h3 => hsp (K w.params) H a ns h1 h2 h3) fun _ H s e s' => hCX H s e s'
end L2

/- THE LAST THEOREM (shape; LID, My.* are yours):
   My.Adr: a structure of the addresses that your layer names (classes, functions); My.Txt K t: a structure (Prop) of the equations over K;
   My.txt_mk : {K} {implicit addresses ..} (e1 : nsIn K mainGlobals "law" = some (some (.ref f))) (e2 : K.lookup f = some ⟨oc, od, .func (fnOf "law" "law" params body scope dV kV doc pm an cdv ct), sl⟩) (e3 : codeIn K cdv "law" = true) .. : ∃ t, My.Txt K t

set_option maxRecDepth 100000 in
set_option maxHeartbeats 0 in
theorem PySem.Challenge.cw_LID_holds : PySem.Challenge.rw_LID.Holds := by
  w_on; o_law; k_head; (case hw => w_witness2)
  k_fill
  refine L2.walk_of (l := PySem.Challenge.rw_LID) (n := 63) (k := 40) (x := "script") (CX := fun w => ..) (sp := fun _ => My.sp_law) rfl (by decide) rfl ⟨rfl, by decide, by decide⟩ (fun w h Y => PySem.W.kIn_of Y) ?F ?S ?C
  case F =>
    intro w mg fa h KX G hmg
    have T : ∃ t, My.Txt (L2.KOf KX) t := by
      dsimp only [L2.KOf]                          -- K must stand as «<heap const> w.params» for k_is
      refine' My.txt_mk ?e1 ?e2 ?e3 ..
      (case e1 => PySem.W.k_is)                    -- in the order: a name -> its address -> its object -> its parts
      (case e2 => PySem.W.k_is)
      ..
    obtain ⟨t, T⟩ := T
    have e0 := hmg.symm.trans (PySem.W.mg_of KX G T.law)
    cases e0                                       -- fa is the law's own address
    exact ⟨_, fun s u => .of_eq rfl, fun base kb nb => My.law_fn T kb nb⟩     -- if «.of_eq rfl» comes too early: refine' ⟨_, ?b, fun base kb nb => My.law_fn T kb nb⟩; exact fun s u => .of_eq rfl
  case S => exact fun w H a ns hl hO hS => ..
  case C => exact ..
(the tactic k_is has no namespace: write k_is) -/

/-! SHORT WORDS over the layer: a def of the text, its body, what a loop and a test want. -/
namespace L2
open PySem PySem.Spec PyProof.Rows

/-! ### the text by places -/
/-- the j-th statement of a class's body -/
def inClass (s : Stmt) (j : Nat) : Stmt := match s with
  | .ClassDef _ _ _ body _ _ _ _ _ _ _ => body.getD j (.Pass ⟨0, 0, 0, 0⟩)
  | _ => .Pass ⟨0, 0, 0, 0⟩
def defArgs (s : Stmt) : Arguments := match s with
  | .FunctionDef _ a _ _ _ _ _ _ _ _ => a
  | _ => { posonlyargs := [], args := [], vararg := none, kwonlyargs := [], kw_defaults := [], kwarg := none, defaults := [] }
def defBody (s : Stmt) : List Stmt := match s with
  | .FunctionDef _ _ b _ _ _ _ _ _ _ => b
  | _ => []
def defScope (s : Stmt) : Scope := match s with
  | .FunctionDef _ _ _ _ _ _ sc _ _ _ => sc
  | _ => { kind := .function, names := [], isGenerator := false, isCoroutine := false }

/-! ### no exception leaves a def -/
abbrev CX0 : CXT := fun _ _ _ _ _ _ => False
abbrev E0 : XK := fun _ _ _ => False
theorem pass0 {X : Cx} : Passes CX0 X E0 := fun _ _ _ _ _ _ _ h => h.elim

/-! ### a def (or method) of the text as it stands behind the top -/
structure Fun (K : PySem.W.Frag) (x qual : Str) (st : Stmt) (f : Addr) (fd : FuncData) : Prop where
  ex : ∃ (oc : Value) (od : Option Addr) (kV doc pm : Value) (an : Option Addr) (cdv ct : Value) (osl : Array (Option Value)),
    fd = PySem.W.fnOf x qual (defArgs st) (defBody st) (defScope st) .none kV doc pm an cdv ct ∧ K.lookup f = some ⟨oc, od, .func fd, osl⟩ ∧ PySem.W.codeIn K cdv qual = true
  kp : PySem.W.keepIn K (.ref f) = true
section
variable {P : Program} {w : World} {K : PySem.W.Frag} {mg : Str → Option Value} {base : Heap}
/-- THE RULE for a def: its body as a term of rules, and the reading of that term -/
theorem Fun.ok {x qual : Str} {st : Stmt} {f : Addr} {fd : FuncData} {N ps : List Str} {k : Nat} {sp : Sp} (F : Fun K x qual st f fd) (S : FnScope N ps (defScope st)) (len : ∀ vs H Q E, sp vs H Q E → vs.length = ps.length)
    (hbody : ∀ (cdv : Value) (A : Around) (outer : List Env) (s : Shared) (H : Hp) (vs : List V) (Q : VK) (E : XK), Room k (A.deeper (envOfC qual (defScope st) s.heap.objs.size f cdv)) → sp vs H Q E →
      ∃ t, PSs (cxOf CX0 P w K mg base N qual (defScope st) f cdv A outer s H E).nox (defBody st) t ∧ t { nx := fun _ H' => Q .non H', rt := Q } (start N vs) H) : FnOk P w K mg base CX0 (k + 1) f fd ps sp := by
  obtain ⟨oc, od, kV, doc, pm, an, cdv, ct, osl, rfl, lk, hcd⟩ := F.ex
  refine fn_of lk hcd S len fun A outer s H vs Q E hr hsp => ?_
  obtain ⟨t, h, q⟩ := hbody cdv A outer s H vs Q E hr hsp
  exact ⟨t, h.nox, q⟩
/-- how its arguments bind (no defaults): h is «fun _ _ _ _ _ _ us hl => match us, hl with | [_, _], _ => rfl», one _ a parameter -/
theorem Fun.binds {x qual : Str} {st : Stmt} {f : Addr} {fd : FuncData} {ps : List Str} (F : Fun K x qual st f fd)
    (h : ∀ (kV doc pm : Value) (an : Option Addr) (cdv ct : Value) (us : List Value), us.length = ps.length → bindArgs (PySem.W.fnOf x qual (defArgs st) (defBody st) (defScope st) .none kV doc pm an cdv ct) ⟨us, []⟩ = pure (ps.zip us)) : Binds K fd ps [] := by
  obtain ⟨oc, od, kV, doc, pm, an, cdv, ct, osl, rfl, lk, hcd⟩ := F.ex
  exact .all (h kV doc pm an cdv ct)
theorem fun_mk {x qual : Str} {st : Stmt} {f : Addr} {oc : Value} {od an : Option Addr} {osl : Array (Option Value)} {kV doc pm cdv ct : Value} (l : K.lookup f = some ⟨oc, od, .func (PySem.W.fnOf x qual (defArgs st) (defBody st) (defScope st) .none kV doc pm an cdv ct), osl⟩)
    (c : PySem.W.codeIn K cdv qual = true) (k : PySem.W.keepIn K (.ref f) = true) : Fun K x qual st f (PySem.W.fnOf x qual (defArgs st) (defBody st) (defScope st) .none kV doc pm an cdv ct) := ⟨⟨oc, od, kV, doc, pm, an, cdv, ct, osl, rfl, l, c⟩, k⟩
end
theorem small1000 {n : Nat} (h : n ≤ 1000) : n < sizeLine := Nat.lt_of_le_of_lt h (by decide)

/-! ### expressions in short: the name that stands in the i-th slot -/
section
variable {X : Cx}
theorem pv (i : Nat) {x : Str} {pos : Pos} (hN : X.N[i]? = some x := by rfl) (hv : Vis X.env.scope x := by first | exact Or.inl rfl | exact Or.inr (Or.inl rfl) | exact Or.inr (Or.inr rfl)) (hd : (x == ("__debug__" : Str)) = false := by decide)
    (hcd : (x == ("__classdict__" : Str)) = false := by decide) : PE X (.Name x pos) (tVar i) := pe_var hN hv hd hcd
end

/-! ### tests -/
theorem iteF {A B : Prop} (h : B) : if false = true then A else B := by
  rw [if_neg Bool.false_ne_true]
  exact h
theorem iteT {A B : Prop} (h : A) : if true = true then A else B := by
  rw [if_pos rfl]
  exact h
theorem ite2 {c A B : Prop} [Decidable c] (h1 : c → A) (h2 : ¬ c → B) : if c then A else B := by
  by_cases h : c
  · rw [if_pos h]
    exact h1 h
  · rw [if_neg h]
    exact h2 h
/-! ### heaps -/
/-- all that was tracked is as it was -/
def Same (H H' : Hp) : Prop := ∀ b o, H b = some o → H' b = some o
theorem Same.refl (H : Hp) : Same H H := fun _ _ h => h
theorem Same.trans {H H1 H2 : Hp} (a : Same H H1) (b : Same H1 H2) : Same H H2 := fun c o h => b c o (a c o h)
theorem Same.free {H H' : Hp} (e : Same H H') {l : Addr} (h : H' l = Option.none) : H l = Option.none := by
  cases q : H l with
  | none => rfl
  | some o =>
    rw [e l o q] at h
    cases h
theorem Same.seq {K : PySem.W.Frag} {H H' : Hp} {a : Addr} {xs : List V} (e : Same H H') (h : SqL K H a xs) : SqL K H' a xs := by
  rcases h with (h | ⟨o, h⟩) | h
  · exact .inl (.inl (e _ _ h))
  · exact .inl (.inr ⟨o, e _ _ h⟩)
  · exact .inr h

end L2
set_option maxHeartbeats 4000000
namespace SW
/-- the greatest common divisor, as an int -/
def gcdI (a b : Int) : Int := (Int.gcd a b : Int)
/-- the least numbers of a by b -/
def low (a b : Int) : Int × Int := (a / gcdI a b, b / gcdI a b)
structure Low (a b x y : Int) : Prop where
  x0 : 0 ≤ x
  y0 : 0 < y
  one : gcdI x y = 1
  eq : x * b = y * a
  lex : x ≤ a
  ley : y ≤ b
end SW
namespace SW
end SW
/-! MORE RULES over the hand layer (own work): numbers of any size, isinstance, == of data, places -/
namespace L2
open PySem PySem.Spec PyProof.Rows

/-! ### numbers that fit -/
def Fits (i : Int) : Prop := i.natAbs < 2 ^ 8192
theorem Fits.log {i : Int} (h : Fits i) : i.natAbs.log2 < 8192 := by
  by_cases h0 : i.natAbs = 0
  · rw [h0]; exact (by decide : Nat.log2 0 < 8192)
  · exact (Nat.log2_lt h0).mpr h
theorem Fits.bits {i : Int} (h : Fits i) : Builtin.Int.intBits i ≤ 2 ^ 20 := by
  have h1 := h.log
  have h2 : (8193 : Nat) ≤ 2 ^ 20 := by decide
  unfold Builtin.Int.intBits
  split
  · exact Nat.zero_le _
  · omega
theorem pow100 : (10 ^ 100 : Nat) ≤ 2 ^ 8192 := Nat.le_trans (by decide +kernel : (10 ^ 100 : Nat) ≤ 2 ^ 340) (Nat.pow_le_pow_right (by decide) (by decide))
theorem fits_of {i : Int} (h1 : -(10 ^ 100) < i) (h2 : i < 10 ^ 100) : Fits i := by
  have h3 : i.natAbs < 10 ^ 100 := by omega
  exact Nat.lt_of_lt_of_le h3 pow100
def CMulF (i j : Int) : Prop := CMul i j ∨ (Fits i ∧ Fits j)
def CDivF (_ j : Int) : Prop := 0 < j ∧ Fits j
theorem CMulF.ok {i j : Int} (h : CMulF i j) : IntMulOk i j := by
  rcases h with h | ⟨h1, h2⟩
  · exact h.ok
  · exact .of_bits h1.bits h2.bits
section
variable {X : Cx}
theorem op_mulF : OpR X (binaryOp .Mult) (rI CMulF fun i j => .int (i * j)) := opI fun _ _ _ _ _ _ _ hc q => mul_int q hc.ok
theorem op_fdivF : OpR X (binaryOp .FloorDiv) (rI CDivF fun i j => .int (i / j)) := opI fun i j _ _ _ _ _ hc q => by
  have h1 : (0 : Int) < j := hc.1
  have h2 : j.natAbs.log2 < 9000 := by have := hc.2.log; omega
  refine floordiv_int (by omega) ?_ (.inl (PyProof.noPylong_of_log2 h2))
  rw [Int.fdiv_eq_ediv_of_nonneg i (by omega)]
  exact q

/-! ### is True, is not False -/
/-! ### isinstance -/
theorem call_isT {n : String} : CallR X (.builtin "isinstance") (fun xs H Q => ∃ x t b, xs = [x, .ty n] ∧ TyOf X.K H x t ∧ PySem.W.kitOne X.K t (.type n) = some b ∧ Q (.bl b) H) := by
  intro pins s σ H xs us Q I r h
  obtain ⟨x, t, b, rfl, ty, e, q⟩ := h
  obtain ⟨u, w', rfl, rx, ry⟩ := vals2 r
  cases ry
  exact isinst_ok I rx ty e fun tk => ⟨.bl b, H, I.tok tk, rfl, q⟩
theorem pe_isinstT {e : Expr} {te : TE} {T : Str} {n : String} {p p2 pos : Pos} (hg : Gl X "isinstance") (hm : X.mg "isinstance" = none) (hgT : Gl X T) (hmT : X.mg T = none) (hvT : bootBuiltins T = some (.type n)) (he : PE X e te)
    (hn : T ≠ "__name__" := by decide) (hd : (T == ("__debug__" : Str)) = false := by decide)
    (s1 : starEach [e, .Name T p2] X.env = (false, eval e X.env) :: starEach [.Name T p2] X.env := by rfl) (hpl : (backTo pos (starEach [.Name T p2] X.env)).any (·.1) = false := by rfl) :
    PE X (.Call (.Name "isinstance" p) [e, .Name T p2] [] pos) (tCB (fun xs H Q => ∃ x t b, xs = [x, .ty n] ∧ TyOf X.K H x t ∧ PySem.W.kitOne X.K t (.type n) = some b ∧ Q (.bl b) H) (tCons te (tCons (tC (.ty n)) tNil))) :=
  pe_callB call_isT hg hm boot_isinstance (pa_cons he (pa_cons (pe_bltn hgT hmT hvT rfl hn hd) pa_nil) s1) (by decide) (by decide) s1 hpl
end
theorem kit_tt (K : PySem.W.Frag) {S T : String} {b : Bool} (h1 : (Value.type S == Value.type T) = false) (h2 : PySem.W.kitMeta T = true) (h3 : (PySem.fastBuiltinMro S).map (·.contains (Value.type T)) = some b) :
    PySem.W.kitOne K (.type S) (.type T) = some b := by
  unfold PySem.W.kitOne
  rw [if_neg (by rw [h1]; exact Bool.false_ne_true)]
  show (if PySem.W.kitMeta T = true then PySem.W.subIn K (.type S) (.type T) else none) = some b
  rw [if_pos h2]
  exact h3
theorem kit_same (K : PySem.W.Frag) (t : Value) : PySem.W.kitOne K t t = some true := by
  unfold PySem.W.kitOne
  rw [if_pos (beq_self_eq_true t)]
theorem kit_int_bool (K : PySem.W.Frag) : PySem.W.kitOne K (.type "int") (.type "bool") = some false := kit_tt K (by decide +kernel) (by decide +kernel) (by decide +kernel)
theorem kit_int_int (K : PySem.W.Frag) : PySem.W.kitOne K (.type "int") (.type "int") = some true := kit_same K _
theorem kit_list_list (K : PySem.W.Frag) : PySem.W.kitOne K (.type "list") (.type "list") = some true := kit_same K _

/-! ### places of a list or a tuple -/
def Sq (K : PySem.W.Frag) (H : Hp) (a : Addr) (xs : List V) : Prop := SqL K H a xs ∨ SqT K H a xs
def rAt (K : PySem.W.Frag) : R2 := fun x y H Q => ∃ p xs i v, x = .ref p ∧ y = .int i ∧ Sq K H p xs ∧ atI xs i = some v ∧ Q v H
section
variable {X : Cx}
theorem ix_any : IxR X (rAt X.K) := by
  intro value slice pins s σ H x y v u Q I rx ry h hs
  obtain ⟨p, xs, i, z, e1, e2, hq | hq, he, q⟩ := h
  · exact ix_list value slice pins s σ H x y v u Q I rx ry ⟨p, xs, i, z, e1, e2, hq, he, q⟩ hs
  · exact ix_tup value slice pins s σ H x y v u Q I rx ry ⟨p, xs, i, z, e1, e2, hq, he, q⟩ hs
end
theorem atI_of {α : Type} {xs : List α} {i : Int} {v : α} (h0 : 0 ≤ i) (h : xs[i.toNat]? = some v) : atI xs i = some v := by
  obtain ⟨n, rfl⟩ := Int.eq_ofNat_of_zero_le h0
  exact atI_nat (by simpa using h)
theorem Same.tup {K : PySem.W.Frag} {H H' : Hp} {a : Addr} {xs : List V} (e : Same H H') (h : SqT K H a xs) : SqT K H' a xs := by
  rcases h with (h | ⟨o, h⟩) | h
  · exact .inl (.inl (e _ _ h))
  · exact .inl (.inr ⟨o, e _ _ h⟩)
  · exact .inr h
theorem Same.sq {K : PySem.W.Frag} {H H' : Hp} {a : Addr} {xs : List V} (e : Same H H') (h : Sq K H a xs) : Sq K H' a xs := h.elim (fun h => .inl (e.seq h)) fun h => .inr (e.tup h)
/-- a new object: all else stays -/
theorem same_new {H : Hp} {p : Addr} (h : H p = none) (o : HO) : Same H (upd H p o) := fun b u e => by
  rw [upd_ne (ne_of_none e h)]; exact e

/-! ### == of data -/
mutual
def Rep (K : PySem.W.Frag) (H : Hp) : PyData → V → Prop
  | .none, v => v = .non
  | .bool b, v => v = .bl b
  | .int i, v => v = .int i
  | .str x, v => v = .str x
  | .list ds, v => ∃ p xs, v = .ref p ∧ SqL K H p xs ∧ RepAll K H ds xs
  | .tuple ds, v => ∃ p xs, v = .ref p ∧ SqT K H p xs ∧ RepAll K H ds xs
  | .dict _, _ => False
def RepAll (K : PySem.W.Frag) (H : Hp) : List PyData → List V → Prop
  | [], xs => xs = []
  | d :: ds, xs => ∃ x r, xs = x :: r ∧ Rep K H d x ∧ RepAll K H ds r
end
section
variable {X : Cx} {pins : List (Addr × Obj)} {σ : St} {H : Hp} {s : Shared}
mutual
theorem rep_reads (I : Inv X pins σ H s) : ∀ (d : PyData) (x : V) (u : Value), Rep X.K H d x → RelV x u → ∃ as, Reads s.heap u d as
  | .none, x, u, h, r => by
    rw [Rep] at h; subst h; cases r; exact ⟨_, .none⟩
  | .bool b, x, u, h, r => by
    rw [Rep] at h; subst h; cases r; exact ⟨_, .bool b⟩
  | .int i, x, u, h, r => by
    rw [Rep] at h; subst h; obtain ⟨t, rfl⟩ := r; exact ⟨_, .int i t⟩
  | .str i, x, u, h, r => by
    rw [Rep] at h; subst h; obtain ⟨t, rfl⟩ := r; exact ⟨_, .str i t⟩
  | .list ds, x, u, h, r => by
    rw [Rep] at h
    obtain ⟨p, xs, rfl, hq, ha⟩ := h
    cases r
    obtain ⟨its, rv, ⟨o, n, e, c, _, dd⟩, _⟩ := I.list hq
    obtain ⟨as, ra⟩ := repAll_reads I ds xs its ha rv
    exact ⟨_, .list e c dd (by simpa using ra)⟩
  | .tuple ds, x, u, h, r => by
    rw [Rep] at h
    obtain ⟨p, xs, rfl, hq, ha⟩ := h
    cases r
    obtain ⟨its, rv, ⟨o, e, c, n, dd⟩, _⟩ := I.tuple hq
    obtain ⟨as, ra⟩ := repAll_reads I ds xs its ha rv
    exact ⟨_, .tuple e c dd (by simpa using ra)⟩
  | .dict kvs, x, u, h, r => by
    rw [Rep] at h; exact h.elim
theorem repAll_reads (I : Inv X pins σ H s) : ∀ (ds : List PyData) (xs : List V) (us : List Value), RepAll X.K H ds xs → Vals xs us → ∃ as, ReadsAll s.heap us ds as
  | [], xs, us, h, r => by
    rw [RepAll] at h; subst h; cases r; exact ⟨_, .nil⟩
  | d :: ds, xs, us, h, r => by
    rw [RepAll] at h
    obtain ⟨x, t, rfl, h1, h2⟩ := h
    cases r with
    | cons r1 r2 =>
      obtain ⟨as, ra⟩ := rep_reads I d x _ h1 r1
      obtain ⟨bs, rb⟩ := repAll_reads I ds t _ h2 r2
      exact ⟨_, .cons ra rb⟩
end
/-- == of two values by their data -/
def rEqD (K : PySem.W.Frag) : R2 := fun x y H Q => ∃ d e, Rep K H d x ∧ Rep K H e y ∧ d.canLay0 = true ∧ e.canLay0 = true ∧ d.depth ≤ 64 ∧ Q (.bl (PyData.eqv d e)) H
def rNeD (K : PySem.W.Frag) : R2 := fun x y H Q => ∃ d e, Rep K H d x ∧ Rep K H e y ∧ d.canLay0 = true ∧ e.canLay0 = true ∧ d.depth ≤ 64 ∧ Q (.bl (!PyData.eqv d e)) H
theorem op_neD (hu : X.A.units + 64 < cLine) : OpR X (compareOp .NotEq) (rNeD X.K) := by
  intro pins s σ H x y v u Q I rx ry h
  obtain ⟨d, e, h1, h2, c1, c2, dp, q⟩ := h
  obtain ⟨as, ra⟩ := rep_reads I d x v h1 rx
  obtain ⟨bs, rb⟩ := rep_reads I e y u h2 ry
  exact SeqAt.compareNe_reads ra rb c1 c2 (by omega) (fin_bl I q rfl)
end
end L2

/-! ### where ways meet -/
namespace L2
open PySem PySem.Spec PyProof.Rows
section
variable {X : Cx} {st : Stmt} {e : Expr}
def tMeet (t : TS) : TS := fun D σ H => ∃ M : St → Hp → Prop, t { D with nx := M } σ H ∧ ∀ σ' H', M σ' H' → D.nx σ' H'
theorem ps_meet {t : TS} (h : PS X st t) : PS X st (tMeet t) := by
  intro pins s σ H D I hw
  obtain ⟨M, hm, k⟩ := hw
  refine thn (h pins s σ H { D with nx := M } I hm) fun f s1 q => ?_
  cases f with
  | next => obtain ⟨σ', H', I', q⟩ := q; exact ⟨σ', H', I', k σ' H' q⟩
  | ret v => exact q
  | brk => exact q
  | cont => exact q
def tMeetE (t : TE) : TE := fun σ H Q => ∃ M : VK, t σ H M ∧ ∀ v H', M v H' → Q v H'
def tMeetT (t : TT) : TT := fun σ H Q => ∃ M : Bool → Hp → Prop, t σ H M ∧ ∀ b H', M b H' → Q b H'
end
end L2
/-! MORE RULES (own work): chains of three, count -/
namespace L2
open PySem PySem.Spec PyProof.Rows
section
variable {X : Cx} {a b c d : Expr} {ta tb tc td : TE} {pos : Pos}
/-- a op1 b op2 c op3 d -/
def tChain3 (r r' r'' : R2) (ta tb tc td : TE) : TE := fun σ H Q => ta σ H fun x H1 => tb σ H1 fun y H2 => r x y H2 fun z H3 => ∃ k, z = .bl k ∧
  (if k = true then tc σ H3 fun u H4 => r' y u H4 fun z2 H5 => ∃ k2, z2 = .bl k2 ∧ (if k2 = true then td σ H5 fun v H6 => r'' u v H6 Q else Q (.bl false) H5) else Q (.bl false) H3)
/-- xs.count(y), flat items -/
def rCount (K : PySem.W.Frag) : V → List V → Hp → VK → Prop := fun x vs H Q => ∃ l xs y, x = .ref l ∧ vs = [y] ∧ SqL K H l xs ∧ flatV y = true ∧ xs.all flatV = true ∧ Q (.int (xs.countP fun z => eqV z y : Nat)) H
end
end L2
namespace L2
open PySem PySem.Spec PyProof.Rows
/-! a tuple or list of written whole numbers, at once -/
inductive Ints : List Expr → List Int → Prop where
  | nil : Ints [] []
  | cons {i : Int} {j pos} {es : List Expr} {is : List Int} : Ints es is → Ints (.Constant (.int i) j pos :: es) (i :: is)
def tInts (is : List Int) : TA := fun _ H Q => Q (is.map V.int) H
theorem pa_ints {X : Cx} {es : List Expr} {is : List Int} (h : Ints es is) : PA X es (tInts is) := by
  induction h with
  | nil => exact pa_nil
  | cons _ ih => exact pa_cons pe_int ih rfl
end L2
namespace L2
open PySem PySem.Spec PyProof.Rows
theorem ps_setInts {X : Cx} {i : Nat} {x : Str} {es : List Expr} {is : List Int} {x1} {p2 pos pos' : Pos} (hN : X.N.Nodup) (hi : X.N[i]? = some x) (hx : Loc X.env.scope x) (h : Ints es is) (hf : X.fn x = true ∨ X.env.scope.names.lookup x = some .local) :
    PS X (.Assign [.Name x pos'] (.Tuple es x1 p2) pos) (tAsg (tTup (tInts is)) (gName i)) := ps_set hN hi hx (pe_tup (pa_ints h)) rfl hf
end L2
namespace L2
open PySem PySem.Spec PyProof.Rows
/-! a new tuple or list, the heap behind it as a letter -/
structure New (H H' : Hp) (p : Addr) (o : HO) : Prop where
  same : Same H H'
  gone : H p = none
  at_ : H' p = some o
  back : ∀ q, q ≠ p → H' q = H q
theorem New.of {H : Hp} {p : Addr} {o : HO} (h : H p = none) : New H (upd H p o) p o := ⟨same_new h o, h, upd_same, fun _ n => upd_ne n⟩
section
variable {X : Cx} {es : List Expr} {t : TA} {pos : Pos}
def tTupA (t : TA) : TE := fun σ H Q => t σ H fun xs H1 => xs.length ≤ sizeLine ∧ ∀ p H', New H1 H' p (.tup xs) → Q (.ref p) H'
def tLstA (t : TA) : TE := fun σ H Q => t σ H fun xs H1 => xs.length ≤ sizeLine ∧ ∀ p H', New H1 H' p (.lst xs) → Q (.ref p) H'
theorem pe_tupA {x1} (h : PA X es t) : PE X (.Tuple es x1 pos) (tTupA t) := by
  intro pins s σ H Q I hq
  refine wpAny_Tuple_spliced (thn (h pos pins s σ H _ I hq) fun us s1 ⟨xs, H1, I1, r, z, q⟩ => ⟨by rw [← r.length]; exact z, ?_⟩)
  have hf : H1 s1.heap.objs.size = none := I1.hok.fresh (Nat.le_refl _)
  refine ⟨.ref s1.heap.objs.size, upd H1 s1.heap.objs.size (.tup xs), I1.laid (t' := s1.toks) (fun b u e => Heap.get?_push_of_some _ e) (Nat.le_refl _) ?_, rfl, q _ _ (.of hf)⟩
  exact ⟨z, us, r, ⟨_, Heap.get?_push_size _ rfl, rfl, _, rfl⟩⟩
theorem pe_lstA (h : PA X es t) : PE X (.List es pos) (tLstA t) := by
  intro pins s σ H Q I hq
  refine wpAny_List_spliced (thn (h pos pins s σ H _ I hq) fun us s1 ⟨xs, H1, I1, r, z, q⟩ => ⟨by rw [← r.length]; exact z, ?_⟩)
  have hf : H1 s1.heap.objs.size = none := I1.hok.fresh (Nat.le_refl _)
  refine ⟨.ref s1.heap.objs.size, upd H1 s1.heap.objs.size (.lst xs), I1.laid (t' := s1.toks) (fun b u e => Heap.get?_push_of_some _ e) (Nat.le_refl _) ?_, rfl, q _ _ (.of hf)⟩
  exact ⟨z, us, 0, r, Heap.get?_push_size _ rfl⟩
end
end L2
/-! AN ERROR'S FLIGHT with its own dict kept in view (own work) -/
namespace L2
open PySem PySem.Spec PyProof.Rows

/-- the error at e: its class, its dict, where it flies (fl; none: nowhere yet) -/
def ExcAt (h base : Heap) (e : Addr) (cls : Value) (dd : Option Addr) (fl : Option Value) : Prop :=
  ∃ oe vs, h.get? e = some oe ∧ oe.cls = cls ∧ oe.dict = dd ∧ oe.data = .fields vs ∧ 1 < vs.size ∧
    match fl with
    | none => vs[1]? = some .none
    | some f => ∃ T oT ts, vs[1]? = some (.ref T) ∧ base.get? T = none ∧ T ≠ e ∧ h.get? T = some oT ∧ oT.data = .fields ts ∧ ts[3]? = some f
/-- all that is no record stays, up to slots; base and the frames stand -/
structure Go (base : Heap) (l : List Env) (h h' : Heap) : Prop where
  st : base.StaysIn h'
  fr : h'.FunFrames base l
  up : h.UpToSlots h'
section
variable {M : Model} {A : Around} {E : Value → Shared → Prop} {s : Shared} {base : Heap} {env : Env} {outer l : List Env} {L e : Addr} {cls : Value} {dd : Option Addr} {Q : Unit → Shared → Prop}
end
end L2
/-! EXCEPTIONS over the hand layer (own work): raise of an own error class, its way through the frames, try with except .. as -/
namespace L2
open PySem PySem.Spec PyProof.Rows

/-- an error flies over the frames outer; B is the heap without the frames, as it stood when the error was raised -/
structure Fly (P : Program) (w : World) (outer : List Env) (H H' : Hp) (h h' : Heap) (e : Addr) (cls : Value) (dd : Option Addr) (B : Heap) : Prop where
  st : B.StaysIn h'
  en : B.get? e = none
  fr : h'.FunFrames B outer
  ex : ExcAt h' B e cls dd (some .none)
  hok : HOk P w H' B
  keep : ∀ b o, h.get? b = some o → H b = none → b ∉ frs outer → B.get? b = some o
  slot : ∀ b o, h.get? b = some o → H b = none → b ∈ frs outer → (∀ vs, o.data ≠ .fields vs) → ∃ sl, h'.get? b = some { o with slots := sl }
  free : ∀ b o, h.get? b = some o → H b = none → H' b = none
  there : ∀ b o, h.get? b = some o → b ∉ frs outer → ∃ o', B.get? b = some o'
  tups : ∀ b xs, H b = some (.tup xs) → H' b = some (.tup xs)
  frzs : ∀ b o u, H b = some (.frz o u) → H' b = some (.frz o u)
  tbls : ∀ b ps, H b = some (.tbl ps) → ∃ more, H' b = some (.tbl (ps ++ more))
/-- how an error lies behind a call -/
def CX1 (P : Program) (w : World) : CXT := fun outer H s E ev s' => ∃ (e : Addr) (cls : Value) (dd : Option Addr) (B : Heap) (H' : Hp), ev = .ref e ∧ s'.os = s.os ∧ AllBare s'.gens ∧ Fly P w outer H H' s.heap s'.heap e cls dd B ∧ E cls dd H'

section
variable {X : Cx} {pins : List (Addr × Obj)} {σ : St} {H : Hp} {s : Shared}
/-- the heap without the frames that run -/
def noFr (X : Cx) (h : Heap) : Heap := PySem.W.hideAll h (frs X.stack)
end
end L2

namespace L2
open PySem PySem.Spec PyProof.Rows
section
variable {X : Cx} {CX : CXT} {k : Nat} {f C : Addr} {fd : FuncData} {ps : List Str} {sp : Sp} {dvs : List V} {ds : List Value} {E : XK} {x c m : Str} {p np cpos pos apos : Pos} {e : Expr} {es : List Expr} {te : TE} {t : TA}
/-! ### C.m(e, ..), m a plain def of the class at C -/
structure ClsFn (K : PySem.W.Frag) (C : Addr) (m : Str) (f : Addr) : Prop where
  ga : PySem.W.specialIn K (.ref C) "__getattribute__" = some (some (.builtin "type.__getattribute__"))
  rd : PySem.W.readsIn K C (.type "type") = true
  fn : PySem.W.findCls K (.ref C) (.type "type") m = some (.val (.ref f))
  kp : PySem.W.keepIn K (.ref f) = true
/-! ### f-strings of texts and ints -/
/-! ### raise C(e, ..), C an own error class without an __init__ of its own -/
/-- the wish of a def's body -/
def XeIs (X : Cx) (E : XK) : Prop := X.xe = fun e s' => wpAny (model X.prog X.w) X.A (leaving X.env e) (fun _ s2 => CX1 X.prog X.w X.outer X.H₀ X.s₀ E e s2) (fun e' s2 => CX1 X.prog X.w X.outer X.H₀ X.s₀ E e' s2) s'
/-- a def's own frame -/
structure DefX (X : Cx) : Prop where
  st : X.stack = X.env :: X.outer
  fr : X.env.frame = some X.env.locals
  ex : X.ex = []
  calm : X.calm = true
def tRaise (C : Addr) (E : XK) (t : TA) : TS := fun _ σ H => t σ H fun vs H1 => vs.length ≤ 1000 ∧ E (.ref C) none H1
end
end L2
/-! try with except .. as (own work) -/
namespace L2
open PySem PySem.Spec PyProof.Rows

/-- the error that was caught, as a thing -/
def excO (e : Addr) (cls : Value) (dd : Option Addr) : HO := .ext fun h => ∃ o vs, h.get? e = some o ∧ o.cls = cls ∧ o.dict = dd ∧ o.data = .fields vs
/-- the context of a handler's suite -/
abbrev Cx.held (X : Cx) (e : Addr) : Cx := { X with A := X.A.mark (some (.ref e)), calm := false, xe := fun _ _ => False }
/-- an error of the class at C is caught by the name of the class at D -/
structure Catches (K : PySem.W.Frag) (C D : Addr) (b : Bool) : Prop where
  one : PySem.W.exmOne K (.ref C) (.ref D) = some b
end L2
/-! an attribute of an own error's object (own work) -/
namespace L2
open PySem PySem.Spec PySem.Calls PyProof.Rows
section
variable {prog : Program} {w : World} {A : Around} {E : Value → Shared → Prop} {s : Shared} {K : PySem.W.Frag} {x D : Addr} {ox : Obj} {odo : Option Obj} {name : Str}
end
end L2
/-! isinstance of an error that was caught (own work) -/
namespace L2
open PySem PySem.Spec PyProof.Rows
/-- what of the text an own error class must have -/
structure ExcT (K : PySem.W.Frag) (C : Addr) : Prop where
  ga : PySem.W.findIn K (.ref C) "__getattribute__" = some (some (.builtin "BaseException.__getattribute__"))
  gt : PySem.W.findIn K (.ref C) "__getattr__" = some none
  be : PySem.W.mroIn K C (.type "BaseException") = some true
  hd : PySem.W.hasDictIn K C = true
  ha : PySem.W.findIn K (.ref C) "__class__" = some (some (.builtin "object.__class__"))
  hn : PySem.W.specialIn K (.builtin "object.__class__") "__get__" = some (some (.builtin "getset_descriptor.__get__"))
  tk : PySem.W.takesIn K (.builtin "object.__class__") = some true
  ob : PySem.W.mroIn K C (.type "object") = some true
section
variable {X : Cx}
/-- isinstance(e, c): e a caught error without a dict -/
def rIsE (K : PySem.W.Frag) (c : V) (cv : Value) : List V → Hp → VK → Prop := fun xs H Q => ∃ e C b, xs = [.ref e, c] ∧ H e = some (excO e (.ref C) none) ∧ ExcT K C ∧ PySem.W.kitOne K (.ref C) cv = some b ∧ Q (.bl b) H
end
end L2
/-! try: a call; except D as n: suite (own work) -/
namespace L2
open PySem PySem.Spec PyProof.Rows

/-- what a handler's suite is to reach: it returns -/
def retOnly (D : Ends) : Ends := { nx := fun _ _ => False, rt := D.rt }
/-- what is wanted of an error that comes to: except D as n (slot i) -/
def CatchE (K : PySem.W.Frag) (D : Addr) (i : Nat) (th : TS) (Dn : Ends) (σ : St) : XK := fun cls dd H' => ∃ C, cls = .ref C ∧ Catches K C D true ∧ ∀ e, H' e = none → th (retOnly Dn) (σ.set i (some (.ref e))) (upd H' e (excO e cls dd))

section
variable {X : Cx} {pins : List (Addr × Obj)} {σ : St} {H : Hp} {s : Shared}
end
end L2

namespace L2
open PySem PySem.Spec PyProof.Rows
section
variable {X : Cx} {CX : CXT} {k : Nat} {f C D : Addr} {fd : FuncData} {ps : List Str} {sp : Sp} {x d n : Str} {i : Nat} {p np cpos epos hpos pos : Pos} {e : Expr} {es : List Expr} {t : TA} {b₀ : Stmt} {suite : List Stmt} {th : TS}
def tTryMake (K : PySem.W.Frag) (C D : Addr) (i : Nat) (sp : Sp) (t : TA) (th : TS) : TS := fun Dn σ H => t σ H fun vs H1 => ∀ a da, H1 a = none → H1 da = none → da ≠ a →
  sp (.ref a :: vs) (upd (upd H1 da (.own a)) a (.ins C da [])) (fun v H2 => v = .non ∧ Dn.nx σ H2) (CatchE K D i th Dn σ)
def tTryCall (K : PySem.W.Frag) (D : Addr) (i : Nat) (sp : Sp) (t : TA) (th : TS) : TS := fun Dn σ H => t σ H fun vs H1 => sp vs H1 (fun _ H2 => Dn.nx σ H2) (CatchE K D i th Dn σ)
end
end L2
/-! COMPREHENSIONS over the hand layer (own work) -/
namespace L2
open PySem PySem.Spec PyProof.Rows

/-! ### names of a comprehension's block -/
def relK (env : Env) (n : Str) (k : NameKind) : NameKind := if (k == .free && env.scope.kind == .function && env.kindOf n == some .cell) then .cell else k
theorem look_rel (env : Env) (x : Str) : ∀ names : List (Str × NameKind),
    (names.map fun (n, k) => if (k == NameKind.free && env.scope.kind == .function && env.kindOf n == some .cell) then (n, NameKind.cell) else (n, k)).lookup x = (names.lookup x).map (relK env x)
  | [] => rfl
  | (n, k) :: r => by
    have ih := look_rel env x r
    rw [List.map_cons]
    have e : (if (k == NameKind.free && env.scope.kind == .function && env.kindOf n == some .cell) = true then (n, NameKind.cell) else (n, k)) = (n, relK env n k) := by
      unfold relK; split <;> rfl
    show List.lookup x ((if (k == NameKind.free && env.scope.kind == .function && env.kindOf n == some .cell) = true then (n, NameKind.cell) else (n, k)) :: _) = _
    rw [e, List.lookup_cons, List.lookup_cons]
    cases hx : x == n with
    | true => obtain rfl : x = n := eq_of_beq hx; rfl
    | false => exact ih
theorem rel_look {sc : Scope} {env : Env} {x : Str} {k : NameKind} (h : (relabel sc env).names.lookup x = some k) : ∃ k0, sc.names.lookup x = some k0 ∧ relK env x k0 = k := by
  have e : (relabel sc env).names.lookup x = (sc.names.lookup x).map (relK env x) := look_rel env x sc.names
  rw [e] at h
  cases q : sc.names.lookup x with
  | none => rw [q] at h; cases h
  | some k0 => rw [q] at h; exact ⟨k0, rfl, Option.some.inj h⟩

/-- what the closure gives -/
def closL (cells : List (Str × Addr)) : List (Str × NameKind) → List (Str × Addr) → List (Str × Addr)
  | [], acc => acc
  | (n, k) :: r, acc => if k == .free then closL cells r ((n, (cells.lookup n).getD 0) :: acc) else closL cells r acc
theorem clos_run {env : Env} (f : Str × NameKind → List (Str × Addr) → Sem (ForInStep (List (Str × Addr))))
    (hf : ∀ n k c, f (n, k) c = if k == .free then (do let a ← cellOf env n; pure (.yield ((n, a) :: c))) else pure (.yield c)) :
    ∀ (names : List (Str × NameKind)) (acc : List (Str × Addr)), (∀ y ∈ names, y.2 = .free → ∃ c, env.cells.lookup y.1 = some c) → forIn names acc f = pure (closL env.cells names acc)
  | [], _, _ => rfl
  | (n, k) :: r, acc, h => by
    have ih := fun a => clos_run f hf r a fun y hy => h y (List.mem_cons_of_mem _ hy)
    rw [List.forIn_cons, hf]
    unfold closL
    by_cases hk : (k == NameKind.free) = true
    · obtain ⟨c, e⟩ := h (n, k) List.mem_cons_self (eq_of_beq hk)
      have e' : env.cells.lookup n = some c := e
      have ec : cellOf env n = pure c := by unfold cellOf; rw [e']
      rw [if_pos hk, if_pos hk, ec, e']
      exact ih _
    · rw [if_neg hk, if_neg hk]
      exact ih _
theorem clos_is {sc : Scope} {env : Env} (h : ∀ y ∈ sc.names, y.2 = .free → ∃ c, env.cells.lookup y.1 = some c) : closureFor sc env = pure (closL env.cells sc.names []) := by
  have q := clos_run (env := env) (fun (y : Str × NameKind) c => if y.2 == .free then (do let a ← cellOf env y.1; pure (.yield ((y.1, a) :: c))) else pure (.yield c)) (fun _ _ _ => rfl) sc.names [] h
  have e : closureFor sc env = (forIn sc.names ([] : List (Str × Addr)) (fun (y : Str × NameKind) c => if y.2 == .free then (do let a ← cellOf env y.1; pure (.yield ((y.1, a) :: c))) else pure (.yield c)) >>= fun cs => pure cs) := rfl
  rw [e, q]
  rfl
theorem clos_look {cells : List (Str × Addr)} {x : Str} : ∀ (names : List (Str × NameKind)) (acc : List (Str × Addr)),
    (closL cells names acc).lookup x = some ((cells.lookup x).getD 0) ∨ ((closL cells names acc).lookup x = acc.lookup x ∧ (x, NameKind.free) ∉ names)
  | [], acc => .inr ⟨rfl, by simp⟩
  | (n, k) :: r, acc => by
    unfold closL
    split
    · rename_i hk
      rcases clos_look (cells := cells) (x := x) r ((n, (cells.lookup n).getD 0) :: acc) with q | ⟨q, q2⟩
      · exact .inl q
      · rw [List.lookup_cons] at q
        cases hx : x == n with
        | true => obtain rfl : x = n := eq_of_beq hx; rw [hx] at q; exact .inl q
        | false =>
          rw [hx] at q
          refine .inr ⟨q, fun z => ?_⟩
          rcases List.mem_cons.mp z with z | z
          · cases z; simp at hx
          · exact q2 z
    · rename_i hk
      rcases clos_look (cells := cells) (x := x) r acc with q | ⟨q, q2⟩
      · exact .inl q
      · refine .inr ⟨q, fun z => ?_⟩
        rcases List.mem_cons.mp z with z | z
        · cases z; simp at hk
        · exact q2 z
/-- the cells: new ones, or the closure's -/
theorem cf_look {x : Str} : ∀ (names : List (Str × NameKind)) (n : Nat) (acc : List (Str × Addr)),
    (∃ c : Nat, n ≤ c ∧ c < n + names.length ∧ (cellsFrom n names acc).lookup x = some c ∧ (x, NameKind.cell) ∈ names) ∨ ((cellsFrom n names acc).lookup x = acc.lookup x ∧ (x, NameKind.cell) ∉ names)
  | [], n, acc => .inr ⟨rfl, by simp⟩
  | (m, k) :: r, n, acc => by
    unfold cellsFrom
    split
    · rename_i hk
      rcases cf_look (x := x) r (n + 1) ((m, n) :: acc) with ⟨c, h1, h2, h3, h4⟩ | ⟨q, q2⟩
      · exact .inl ⟨c, by omega, by rw [List.length_cons]; omega, h3, List.mem_cons_of_mem _ h4⟩
      · rw [List.lookup_cons] at q
        cases hx : x == m with
        | true =>
          obtain rfl : x = m := eq_of_beq hx
          rw [hx] at q
          exact .inl ⟨n, Nat.le_refl _, by rw [List.length_cons]; omega, q, by rw [eq_of_beq hk]; exact List.mem_cons_self⟩
        | false =>
          rw [hx] at q
          refine .inr ⟨q, fun z => ?_⟩
          rcases List.mem_cons.mp z with z | z
          · cases z; simp at hx
          · exact q2 z
    · rename_i hk
      rcases cf_look (x := x) r n acc with ⟨c, h1, h2, h3, h4⟩ | ⟨q, q2⟩
      · exact .inl ⟨c, h1, by rw [List.length_cons]; omega, h3, List.mem_cons_of_mem _ h4⟩
      · refine .inr ⟨q, fun z => ?_⟩
        rcases List.mem_cons.mp z with z | z
        · cases z; simp at hk
        · exact q2 z
theorem cf_inj : ∀ (names : List (Str × NameKind)) (n : Nat) (acc : List (Str × Addr)), (∀ (x : Str) (c : Nat), acc.lookup x = some c → c < n) → ∀ (x y : Str) (c : Nat), n ≤ c → (cellsFrom n names acc).lookup x = some c → (cellsFrom n names acc).lookup y = some c → x = y
  | [], n, acc, h, x, y, c, hc, e1, e2 => absurd (h x c e1) (by omega)
  | (m, k) :: r, n, acc, h, x, y, c, hc, e1, e2 => by
    unfold cellsFrom at e1 e2
    split at e1
    · rename_i hk
      rw [if_pos hk] at e2
      by_cases hcn : n + 1 ≤ c
      · refine cf_inj r (n + 1) ((m, n) :: acc) (fun z c' q => ?_) x y c hcn e1 e2
        rw [List.lookup_cons] at q
        cases hz : z == m with
        | true => rw [hz] at q; cases q; exact Nat.lt_succ_self _
        | false => rw [hz] at q; have := h z c' q; omega
      · have ecn : c = n := by omega
        subst ecn
        have one : ∀ z, (cellsFrom (c + 1) r ((m, c) :: acc)).lookup z = some c → z = m := fun z q => by
          rcases cf_look (x := z) r (c + 1) ((m, c) :: acc) with ⟨c', h1, _, h3, _⟩ | ⟨q', _⟩
          · rw [h3] at q; cases q; omega
          · rw [q', List.lookup_cons] at q
            cases hz : z == m with
            | true => exact eq_of_beq hz
            | false => rw [hz] at q; have := h z c q; omega
        rw [one x e1, one y e2]
    · rename_i hk
      rw [if_neg hk] at e2
      exact cf_inj r n acc h x y c hc e1 e2
theorem pc_cell : ∀ (names : List (Str × NameKind)) (h : Heap) (acc : List (Str × Addr)) (x : Str) (c : Nat), h.objs.size ≤ c → (∀ (y : Str) (c' : Nat), acc.lookup y = some c' → c' < h.objs.size) → (cellsFrom h.objs.size names acc).lookup x = some c → (pushCells h names).IsCell c none
  | [], h, acc, x, c, hc, ha, e => absurd (ha x c e) (by omega)
  | (m, k) :: r, h, acc, x, c, hc, ha, e => by
    unfold cellsFrom at e
    unfold pushCells
    split
    · rename_i hk
      rw [if_pos hk] at e
      have hsz : (h.push { cls := .type "cell", data := .cell none }).objs.size = h.objs.size + 1 := Heap.size_push ..
      rw [← hsz] at e
      by_cases hcn : h.objs.size + 1 ≤ c
      · refine pc_cell r _ _ x c (by rw [hsz]; exact hcn) (fun y c' q => ?_) e
        rw [List.lookup_cons] at q
        cases hy : y == m with
        | true => rw [hy] at q; cases q; rw [hsz]; exact Nat.lt_succ_self _
        | false => rw [hy] at q; have := ha y c' q; rw [hsz]; omega
      · have ecn : c = h.objs.size := by omega
        refine ⟨{ cls := .type "cell", data := .cell none }, ?_, rfl⟩
        rw [ecn]
        exact pushCells_keeps r _ _ _ (Heap.get?_push_size _ rfl)
    · rename_i hk
      rw [if_neg hk] at e
      exact pc_cell r h acc x c hc ha e
end L2
/-! COMPREHENSIONS: the block (own work) -/
namespace L2
open PySem PySem.Spec PyProof.Rows

/-- what a block is entered with: its closure, its names' dict, the state and the heap ahead of it, the iterator's objects, what is wanted of an error -/
structure BP where
  cl : List (Str × Addr)
  C : Addr
  s : Shared
  H : Hp
  ex : List Addr
  xe : Value → Shared → Prop
def blkEnv (sc : Scope) (cl : List (Str × Addr)) (C : Addr) (env : Env) : Env :=
  { scope := relabel sc env, locals := C, globals := env.globals, cells := cellsFrom (C + 1) sc.names cl, qual := env.qual, func := none, code := env.code, frame := env.frame, builtins := env.builtins }
def blk (X : Cx) (sc : Scope) (b : BP) : Cx :=
  { X with s₀ := b.s, H₀ := b.H, env := blkEnv sc b.cl b.C X.env, outer := X.stack, ex := b.ex, fn := fun x => sc.names.lookup x == some .cell, pn := [], xe := b.xe }

/-- the block's names against the frame's -/
structure BlkOk (N : List Str) (outer sc : Scope) (own : List Nat) : Prop where
  kind : sc.kind = .function
  nd : (sc.names.map (·.1)).Nodup
  free : ∀ y ∈ sc.names, y.2 = .free → outer.names.lookup y.1 = some .cell ∨ outer.names.lookup y.1 = some .free
  own : ∀ y ∈ sc.names, (y.2 = .local ∨ y.2 = .cell) → ∀ i, N[i]? = some y.1 → i ∈ own

theorem look_mem {l : List (Str × NameKind)} (nd : (l.map (·.1)).Nodup) {x : Str} {k : NameKind} (h : (x, k) ∈ l) : l.lookup x = some k := by
  induction l with
  | nil => cases h
  | cons y r ih =>
    obtain ⟨n, k'⟩ := y
    rw [List.map_cons, List.nodup_cons] at nd
    rw [List.lookup_cons]
    rcases List.mem_cons.mp h with e | h
    · cases e; simp
    · have : (x == n) = false := by
        rw [beq_eq_false_iff_ne]
        intro e
        exact nd.1 (List.mem_map.mpr ⟨_, h, e⟩)
      rw [this]
      exact ih nd.2 h
/-- own slots are empty -/
def wipe (own : List Nat) (σ : St) : St := own.foldl (fun σ i => σ.set i none) σ
theorem wipe_len (own : List Nat) : ∀ σ : St, (wipe own σ).length = σ.length := by
  induction own with
  | nil => intro σ; rfl
  | cons i r ih => intro σ; show (wipe r (σ.set i none)).length = _; rw [ih]; simp
theorem wipe_get (own : List Nat) : ∀ (σ : St) (i : Nat) (v : V), (wipe own σ)[i]? = some (some v) → σ[i]? = some (some v) ∧ i ∉ own := by
  induction own with
  | nil => intro σ i v h; exact ⟨h, by simp⟩
  | cons j r ih =>
    intro σ i v h
    obtain ⟨h1, h2⟩ := ih (σ.set j none) i v h
    by_cases hj : j = i
    · subst hj
      rw [List.getElem?_set] at h1
      split at h1
      · split at h1 <;> cases h1
      · rename_i z; exact absurd rfl z
    · rw [List.getElem?_set_ne hj] at h1
      exact ⟨h1, by simp [h2, Ne.symm hj]⟩
/-- only own slots are changed -/
def Back (σ σ' : St) : Prop := σ'.length = σ.length ∧ ∀ (i : Nat) v, σ[i]? = some (some v) → σ'[i]? = some (some v)

section
variable {X : Cx} {pins : List (Addr × Obj)} {σ : St} {H : Hp} {s : Shared} {sc : Scope} {own : List Nat} {fp : List Addr} {xe : Value → Shared → Prop}
theorem relK_vis {env : Env} {x : Str} {k k0 : NameKind} (e : relK env x k0 = k) (hk : k = .local ∨ k = .cell ∨ k = .free) : k0 = k ∨ (k0 = .free ∧ k = .cell) := by
  unfold relK at e
  split at e
  · rename_i hc
    rw [Bool.and_eq_true, Bool.and_eq_true] at hc
    exact .inr ⟨eq_of_beq hc.1.1, e.symm⟩
  · exact .inl e
/-- at a block's entry: the accumulator at D, the names' dict at C, the cells behind it -/
theorem blk_start (I : Inv X pins σ H s) (B : BlkOk X.N X.env.scope sc own) (hf : ∀ b ∈ fp, FpOk X pins H b) (hfo : ∀ b ∈ fp, b < s.heap.objs.size) :
    Inv (blk X sc ⟨closL X.env.cells sc.names [], s.heap.objs.size + 1, s, H, fp, xe⟩) [(s.heap.objs.size, { cls := .type "list", data := .seq ([] : List Value).toArray })] (wipe own σ) H
      { s with heap := pushCells ((s.heap.push { cls := .type "list", data := .seq ([] : List Value).toArray }).push { cls := .type "dict", data := .dict #[] }) sc.names } := by
  generalize hh2 : s.heap.push { cls := .type "list", data := .seq ([] : List Value).toArray } = h2
  have sz2 : h2.objs.size = s.heap.objs.size + 1 := by rw [← hh2, Heap.size_push]
  generalize hh3 : h2.push { cls := .type "dict", data := .dict #[] } = h3
  have sz3 : h3.objs.size = s.heap.objs.size + 2 := by rw [← hh3, Heap.size_push, sz2]
  have k3 : ∀ b o, h3.get? b = some o → (pushCells h3 sc.names).get? b = some o := pushCells_keeps sc.names h3
  have k2 : ∀ b o, h2.get? b = some o → (pushCells h3 sc.names).get? b = some o := fun b o e => k3 b o (by rw [← hh3]; exact Heap.get?_push_of_some _ e)
  have k1 : ∀ b o, s.heap.get? b = some o → (pushCells h3 sc.names).get? b = some o := fun b o e => k2 b o (by rw [← hh2]; exact Heap.get?_push_of_some _ e)
  have free_has : ∀ x, (x, NameKind.free) ∈ sc.names → ∃ c, X.env.cells.lookup x = some c := fun x hx => I.ok.has x (B.free (x, .free) hx rfl)
  have clL : ∀ x c, (closL X.env.cells sc.names []).lookup x = some c → (x, NameKind.free) ∈ sc.names → X.env.cells.lookup x = some c := fun x c e hx => by
    obtain ⟨c', e'⟩ := free_has x hx
    rcases clos_look (cells := X.env.cells) (x := x) sc.names [] with q | ⟨q, q2⟩
    · rw [q, e'] at e; rw [e']; exact e
    · exact absurd hx q2
  have clM : ∀ x c, (closL X.env.cells sc.names []).lookup x = some c → (x, NameKind.free) ∈ sc.names ∨ (closL X.env.cells sc.names []).lookup x = none := fun x c e => by
    by_cases hx : (x, NameKind.free) ∈ sc.names
    · exact .inl hx
    · refine .inr ?_
      have : ∀ (names : List (Str × NameKind)) (acc : List (Str × Addr)), (x, NameKind.free) ∉ names → (closL X.env.cells names acc).lookup x = acc.lookup x := by
        intro names
        induction names with
        | nil => intro acc _; rfl
        | cons y r ih =>
          obtain ⟨n, k⟩ := y
          intro acc hn
          unfold closL
          split
          · rename_i hk
            rw [ih _ fun z => hn (List.mem_cons_of_mem _ z), List.lookup_cons]
            have : (x == n) = false := by
              rw [beq_eq_false_iff_ne]
              rintro rfl
              exact hn (by rw [eq_of_beq hk]; exact List.mem_cons_self)
            rw [this]
          · exact ih _ fun z => hn (List.mem_cons_of_mem _ z)
      exact this sc.names [] hx
  have clX : ∀ x c, (closL X.env.cells sc.names []).lookup x = some c → X.env.cells.lookup x = some c ∧ (x, NameKind.free) ∈ sc.names := fun x c e => by
    rcases clM x c e with hx | hx
    · exact ⟨clL x c e hx, hx⟩
    · rw [hx] at e; cases e
  have clLt : ∀ (x : Str) (c : Nat), (closL X.env.cells sc.names []).lookup x = some c → c < s.heap.objs.size := fun x c e => by
    obtain ⟨v, q⟩ := I.cell x c (clX x c e).1
    exact q.lt
  have cells : ∀ (x : Str) (c : Nat), (cellsFrom (s.heap.objs.size + 1 + 1) sc.names (closL X.env.cells sc.names [])).lookup x = some c →
      (s.heap.objs.size + 2 ≤ c ∧ (x, NameKind.cell) ∈ sc.names ∧ (pushCells h3 sc.names).IsCell c none) ∨ (X.env.cells.lookup x = some c ∧ (x, NameKind.free) ∈ sc.names) := fun x c e => by
    rcases cf_look (x := x) sc.names (s.heap.objs.size + 1 + 1) (closL X.env.cells sc.names []) with ⟨c', h1, _, h3', h4⟩ | ⟨q, _⟩
    · rw [h3'] at e; cases e
      refine .inl ⟨h1, h4, ?_⟩
      refine pc_cell sc.names h3 (closL X.env.cells sc.names []) x c (by rw [sz3]; exact h1) (fun y d q => ?_) (by rw [sz3]; exact h3')
      have := clLt y d q
      rw [sz3]; omega
    · rw [q] at e
      exact .inr (clX x c e)
  have hfrs : ∀ b ∈ frs X.stack, b < s.heap.objs.size := fun b hb => by
    obtain ⟨_, o, ho, _⟩ := I.stack.mem hb
    exact Heap.lt_size ho
  have newNs : (pushCells h3 sc.names).Ns (s.heap.objs.size + 1) fun _ => none := by
    have := (Heap.Ns.new h2 (.type "dict")).keeps (h' := pushCells h3 sc.names) (by rw [hh3]; exact k3)
    rw [sz2] at this
    exact this
  refine ⟨⟨I.ok.mod, B.kind, I.ok.glob, I.ok.blt, Nat.le_succ _, fun x y c e1 e2 => ?_, fun x hx => ?_, fun x c hx e => ?_, I.ok.hd, I.ok.frames, .inl rfl, fun b hb => ⟨?_, fun x c e => ?_⟩, fun b o e => I.bs b o e, Nat.le_trans I.ok.bsz I.sz, fun b o e hb => ?_, fun b hb hb' => ?_, I.stack, I.stkFree⟩,
    rfl, I.bare, Un.kept k1, ⟨_, newNs, fun i x v h1 h2' h3' => ?_⟩, fun x c e => ?_, I.hok.fresh (Nat.le_succ _), fun x c e => ?_, fun p hp => ?_, I.hok.kept k1, ?_⟩
  · -- inj
    rcases cells x c e1 with ⟨a1, a2, _⟩ | ⟨a1, _⟩ <;> rcases cells y c e2 with ⟨b1, b2, _⟩ | ⟨b1, _⟩
    · exact cf_inj sc.names _ _ (fun z d q => by have := clLt z d q; omega) x y c a1 e1 e2
    · obtain ⟨v, q⟩ := I.cell y c b1
      exact absurd q.lt (Nat.not_lt.mpr (Nat.le_trans (Nat.le_add_right _ 2) (by assumption)))
    · obtain ⟨v, q⟩ := I.cell x c a1
      exact absurd q.lt (Nat.not_lt.mpr (Nat.le_trans (Nat.le_add_right _ 2) (by assumption)))
    · exact I.ok.inj x y c a1 b1
  · -- has
    have hx : (relabel sc X.env).names.lookup x = some .cell ∨ (relabel sc X.env).names.lookup x = some .free := hx
    have : (x, NameKind.cell) ∈ sc.names ∨ (x, NameKind.free) ∈ sc.names := by
      rcases hx with hx | hx
      · obtain ⟨k0, q1, q2⟩ := rel_look hx
        rcases relK_vis q2 (.inr (.inl rfl)) with rfl | ⟨rfl, _⟩
        · exact .inl (PySem.mem_of_lookup q1)
        · exact .inr (PySem.mem_of_lookup q1)
      · obtain ⟨k0, q1, q2⟩ := rel_look hx
        rcases relK_vis q2 (.inr (.inr rfl)) with rfl | ⟨_, z⟩
        · exact .inr (PySem.mem_of_lookup q1)
        · cases z
    show ∃ c, (cellsFrom (s.heap.objs.size + 1 + 1) sc.names (closL X.env.cells sc.names [])).lookup x = some c
    rcases cf_look (x := x) sc.names (s.heap.objs.size + 1 + 1) (closL X.env.cells sc.names []) with ⟨c', _, _, h3', _⟩ | ⟨q, qn⟩
    · exact ⟨c', h3'⟩
    · rcases this with z | z
      · exact absurd z qn
      · rw [q]
        rcases clos_look (cells := X.env.cells) (x := x) sc.names [] with q' | ⟨_, q2⟩
        · exact ⟨_, q'⟩
        · exact absurd z q2
  · -- cab
    rcases cells x c e with ⟨a1, _⟩ | ⟨_, a2⟩
    · show s.heap.objs.size ≤ c; omega
    · have hx' : sc.names.lookup x = some .cell := eq_of_beq hx
      rw [look_mem B.nd a2] at hx'
      cases hx'
  · exact Nat.ne_of_lt (Nat.lt_succ_of_lt (hfo b hb))
  · have := hfo b hb
    rcases cells x c e with ⟨a1, _⟩ | ⟨a1, _⟩
    · exact fun z => absurd this (Nat.not_lt.mpr (by rw [← z]; exact Nat.le_trans (Nat.le_add_right _ 2) a1))
    · exact (hf b hb).2.2.2.2.1 x c a1
  · -- noex
    rcases (hf b hb).2.2.2.1 with z | z
    · exact I.ok.noex b o e z
    · exact absurd (Heap.lt_size e) (Nat.not_lt.mpr (Nat.le_trans I.ok.bsz z))
  · rcases List.mem_cons.mp (I.stkSub b hb') with z | z
    · exact (hf b hb).2.1 z
    · exact (hf b hb).2.2.1 z
  · -- loc
    obtain ⟨h2a, h2b⟩ := wipe_get own σ i v h2'
    have h3c : (relabel sc X.env).names.lookup x = some .local ∨ (relabel sc X.env).names.lookup x = some .cell ∨ (relabel sc X.env).names.lookup x = some .free := h3'
    have notown : ∀ k, sc.names.lookup x = some k → k ≠ .local ∧ k ≠ .cell := fun k q => ⟨fun z => h2b (B.own (x, k) (PySem.mem_of_lookup q) (.inl z) i h1), fun z => h2b (B.own (x, k) (PySem.mem_of_lookup q) (.inr z) i h1)⟩
    have fr : (x, NameKind.free) ∈ sc.names := by
      rcases h3c with z | z | z
      · obtain ⟨k0, q1, q2⟩ := rel_look z
        rcases relK_vis q2 (.inl rfl) with rfl | ⟨_, z⟩
        · exact absurd rfl (notown _ q1).1
        · cases z
      · obtain ⟨k0, q1, q2⟩ := rel_look z
        rcases relK_vis q2 (.inr (.inl rfl)) with rfl | ⟨rfl, _⟩
        · exact absurd rfl (notown _ q1).2
        · exact PySem.mem_of_lookup q1
      · obtain ⟨k0, q1, q2⟩ := rel_look z
        rcases relK_vis q2 (.inr (.inr rfl)) with rfl | ⟨_, z⟩
        · exact PySem.mem_of_lookup q1
        · cases z
    obtain ⟨m, hn, hl⟩ := I.loc
    have hv : Vis X.env.scope x := by
      rcases B.free _ fr rfl with z | z
      · exact .inr (.inl z)
      · exact .inr (.inr z)
    obtain ⟨u, r, l⟩ := hl i x v h1 h2a hv
    refine ⟨u, r, ?_⟩
    have kk : (blkEnv sc (closL X.env.cells sc.names []) (s.heap.objs.size + 1) X.env).kindOf x = some .cell ∨ (blkEnv sc (closL X.env.cells sc.names []) (s.heap.objs.size + 1) X.env).kindOf x = some .free := by
      rcases h3c with z | z | z
      · obtain ⟨k0, q1, q2⟩ := rel_look z
        rw [look_mem B.nd fr] at q1
        cases q1
        rcases relK_vis q2 (.inl rfl) with z | ⟨_, z⟩ <;> cases z
      · exact .inl z
      · exact .inr z
    rcases l with ⟨l1, _⟩ | ⟨_, c, ec, z⟩
    · have l1 : X.env.scope.names.lookup x = some .local := l1
      rcases B.free _ fr rfl with z | z <;> (rw [l1] at z; cases z)
    · refine .inr ⟨kk, c, ?_, z.keeps k1⟩
      show (cellsFrom (s.heap.objs.size + 1 + 1) sc.names (closL X.env.cells sc.names [])).lookup x = some c
      rcases cf_look (x := x) sc.names (s.heap.objs.size + 1 + 1) (closL X.env.cells sc.names []) with ⟨c', _, _, _, h4⟩ | ⟨q, _⟩
      · have := look_mem B.nd h4
        rw [look_mem B.nd fr] at this
        cases this
      · rw [q]
        rcases clos_look (cells := X.env.cells) (x := x) sc.names [] with q' | ⟨_, q2⟩
        · rw [q', ec]; rfl
        · exact absurd fr q2
  · -- cell
    rcases cells x c e with ⟨_, _, a3⟩ | ⟨a1, _⟩
    · exact ⟨_, a3⟩
    · obtain ⟨v, q⟩ := I.cell x c a1
      exact ⟨v, q.keeps k1⟩
  · -- freeC
    rcases cells x c e with ⟨a1, _⟩ | ⟨a1, _⟩
    · exact I.hok.fresh (by show s.heap.objs.size ≤ c; omega)
    · exact I.freeC x c a1
  · -- pins
    have hp' : p ∈ ([(s.heap.objs.size, { cls := .type "list", data := .seq ([] : List Value).toArray })] : List (Addr × Obj)) := hp
    obtain rfl : p = (s.heap.objs.size, { cls := .type "list", data := .seq ([] : List Value).toArray }) := by simpa using hp'
    refine ⟨k2 _ _ (by rw [← hh2]; exact Heap.get?_push_size _ rfl), I.hok.fresh (Nat.le_refl _), Nat.ne_of_lt (Nat.lt_succ_self _), fun z => Nat.lt_irrefl _ (hfrs _ z), fun v z => ?_⟩
    have z' : Data.seq ([] : List Value).toArray 0 = Data.cell v := z
    cases z'
  · rw [wipe_len]; exact I.len
end
end L2
/-! COMPREHENSIONS: the rules (own work) -/
namespace L2
open PySem PySem.Spec PyProof.Rows

def testsOf (ifs : List Expr) (env : Env) : Sem Bool :=
  forIn ifs true fun c r => if r = true then (do let ok ← isTrue c env (eval c env); pure (ForInStep.yield ok)) else pure (ForInStep.yield r)
def PTs (X : Cx) (ifs : List Expr) (t : TT) : Prop :=
  ∀ (pins : List (Addr × Obj)) (s : Shared) (σ : St) (H : Hp) (Q : Bool → Hp → Prop), Inv X pins σ H s → t σ H Q → wpAny (model X.prog X.w) X.A (testsOf ifs X.env) (TP X pins σ Q) X.xe s
def tYes : TT := fun _ H Q => Q true H
theorem pts_nil {X : Cx} : PTs X [] tYes := fun _ _ _ H _ I h => wpAny_tests_nil ⟨H, I, h⟩
theorem pts_one {X : Cx} {c : Expr} {t : TT} (hc : PT X c t) : PTs X [c] t := fun pins s σ H Q I h => wpAny_tests_one (hc pins s σ H Q I h)

section
variable {prog : Program} {w : World} {A : Around} {E : Value → Shared → Prop} {R : Result → Shared → Prop} {s : Shared}
theorem newEnv_run {M : Model} {sc : Scope} {g : Addr} {cl : List (Str × Addr)} {qual : Str} {env : Env} {bl : Addr} {Q : Env → Shared → Prop}
    (h : Q { scope := sc, locals := s.heap.objs.size, globals := g, cells := cellsFrom (s.heap.objs.size + 1) sc.names cl, qual := qual, func := none, code := env.code, frame := env.frame, builtins := env.builtins }
      { s with heap := pushCells (s.heap.push { cls := .type "dict", data := .dict #[] }) sc.names }) : wpAny M A (newFunctionEnv sc g cl [] qual none .none (some env) bl) Q E s := by
  simp only [newFunctionEnv, Option.isSome_some, if_true]
  refine wpAny_bind (wpAny_alloc ?_)
  refine wpAny_bind (wpAny_layCells _ (fun name kind cells => by cases hkc : kind == NameKind.cell <;> simp [hkc]) _ _ _ _ ?_)
  rw [show ({ s with heap := s.heap.push { cls := .type "dict", data := .dict #[] } } : Shared).heap.objs.size = s.heap.objs.size + 1 from Heap.size_push ..]
  exact wpAny_bind (wpAny_pure (wpAny_pure h))
theorem comp_loop {elt tg iter : Expr} {ifs : List Expr} {sc : Scope} {pos : Pos} {it acc : Value} {env : Env} (J : Nat → Shared → Prop)
    (turn : ∀ n s, J n s → wpAny (model prog w) A (pyNext it) (fun r s1 => match r with
      | none => R (.ok .next) s1
      | some v => wpAny (model prog w) A (letOwnedTupleGo tg it v) (fun _ s2 => wpAny (model prog w) A (assign tg env v) (fun _ s3 => wpAny (model prog w) A (testsOf ifs env) (fun ok s4 =>
          if ok = true then wpAny (model prog w) A (eval elt env) (fun x s5 => wpAny (model prog w) A (call (.builtin "list.append") [acc, x]) (fun _ s6 => ∃ m, m < n ∧ J m s6) (notedBy (model prog w) A env fun e s' => R (.error e) s') s5) (notedBy (model prog w) A env fun e s' => R (.error e) s') s4
          else ∃ m, m < n ∧ J m s4) (notedBy (model prog w) A env fun e s' => R (.error e) s') s3) (notedBy (model prog w) A env fun e s' => R (.error e) s') s2) (notedBy (model prog w) A env fun e s' => R (.error e) s') s1) (notedBy (model prog w) A env fun e s' => R (.error e) s') s)
    (n : Nat) (h : J n s) : codeAny (model prog w) A (.compLoop (.ListComp elt [⟨tg, iter, ifs, 0⟩] sc pos) 0 it acc env) R s := by
  refine codeAny_loop rfl J (fun n s hJ => ?_) n h
  show wpAny _ A ((compTurn (.ListComp elt [⟨tg, iter, ifs, 0⟩] sc pos) 0 it acc env).onRaise fun x => (do noteFrame x env; theTreesLotGoes x)) _ _ s
  refine wpAny_noted ?_
  rw [compTurn_list]
  refine wpAny_bind (wpAny_standAt (wpAny_bind (thn (turn n s hJ) fun r s1 h1 => ?_)))
  cases r with
  | none => exact wpAny_pure h1
  | some v =>
    refine wpAny_bind (thn h1 fun _ s2 h2 => wpAny_bind (thn h2 fun _ s3 h3 => wpAny_bind (thn h3 fun ok s4 h4 => ?_)))
    cases ok with
    | false => exact wpAny_pure ⟨rfl, h4⟩
    | true => exact wpAny_bind (wpAny_bind (thn h4 fun x s5 h5 => wpAny_bind (thn h5 fun _ s6 h6 => wpAny_pure (wpAny_pure ⟨rfl, h6⟩))))
end

theorem HOk.track {P : Program} {w : World} {H : Hp} {h : Heap} {a : Addr} {o : HO} (x : HOk P w H h) (n : H a = none) (new : ObjOk P w (upd H a o) h a o) : HOk P w (upd H a o) h := fun b u e => by
  by_cases hb : b = a
  · subst hb; rw [upd_same] at e; cases e; exact new
  · rw [upd_ne hb] at e
    exact (x b u e).stay (fun c v _ q => q) (fun c q => by rw [upd_ne (ne_of_none q n)]; exact q) fun c xs q => by rw [upd_ne (ne_of_none q n)]; exact q
theorem Un.track {fs ex : List Addr} {H H' : Hp} {h h' : Heap} {a : Addr} {o : HO} (u : Un fs ex H H' h h') (n : H' a = none) (hz : h.objs.size ≤ a) : Un fs ex H (upd H' a o) h h' where
  keep := u.keep
  slot := u.slot
  free := fun b ob q m hx => by rw [upd_ne (Nat.ne_of_lt (Nat.lt_of_lt_of_le (Heap.lt_size q) hz))]; exact u.free b ob q m hx
  there := u.there
  tups := fun b xs q => by have := u.tups b xs q; rw [upd_ne (ne_of_none this n)]; exact this
  frzs := fun b ob w q => by have := u.frzs b ob w q; rw [upd_ne (ne_of_none this n)]; exact this
  tbls := fun b ps q => by obtain ⟨m, e⟩ := u.tbls b ps q; exact ⟨m, by rw [upd_ne (ne_of_none e n)]; exact e⟩

/-- what a comprehension asks: R is wanted of the items and the heap behind the last turn -/
def CompW (J : It) (g : TG) (tt : TT) (te : TE) (σ0 : St) (R : List V → Hp → Prop) (H1 : Hp) : Prop :=
  ∃ W : Nat → Nat → List V → Hp → Prop, (∃ m, W 0 m [] H1) ∧ ∀ i m ys H, W i m ys H →
    (J.stop i H ∧ R ys H) ∨ (J.go i H ∧ i < sizeLine ∧ ∃ N : List V → Hp → Prop, (∀ ys' H', N ys' H' → ∃ m', m' < m ∧ W (i + 1) m' ys' H') ∧ ∀ x H', J.yld i H x H' → g x σ0 H' fun σ2 H2 => Back σ0 σ2 ∧ tt σ2 H2 fun b H3 =>
      if b = true then te σ2 H3 fun y H4 => N (ys ++ [y]) H4 else N ys H3)

section
variable {X : Cx} {sc : Scope} {own : List Nat} {tg iter elt : Expr} {ifs : List Expr} {wi : TI} {g : TG} {tt : TT} {te : TE}
theorem comp_run {pins : List (Addr × Obj)} {σ : St} {H : Hp} {s : Shared} {pos ppos : Pos} {use : Option (Value → Sem Unit)} {Qc : Value → Shared → Prop} {R : List V → Hp → Prop}
    (hc : X.calm = true) (B : BlkOk X.N X.env.scope sc own) (hi : PI X tg iter wi) (hg : ∀ b, PG (blk X sc b) tg g) (ht : ∀ b, PTs (blk X sc b) ifs tt) (he : ∀ b, PE (blk X sc b) elt te)
    (hs : ∀ x, foldedSetIterable iter X.env x = pure x) (I : Inv X pins σ H s) (h : wi σ H fun J H1 => CompW J g tt te (wipe own σ) R H1)
    (fin : ∀ D C H' ys s' m, Inv X pins σ (upd H' D (.lst ys)) s' → H' D = none → R ys H' → s'.heap.Ns C m → FpOk X pins (upd H' D (.lst ys)) C → compPost (model X.prog X.w) X.A X.xe use Qc (.ref D) C (.ok .next) s') :
    wpAny (model X.prog X.w) X.A (comprehension (.ListComp elt [⟨tg, iter, ifs, 0⟩] sc pos) sc X.env ppos (newList []) false (eval iter X.env) use) Qc X.xe s := by
  have hnames : ∀ x ∈ sc.names, x.2 = .local → sc.names.lookup x.1 = some .local := fun x hx e => look_mem B.nd (by rw [← e]; exact hx)
  refine wpAny_comprehension_free (cl := closL X.env.cells sc.names []) (use := use) rfl hs (clos_is fun y hy e => I.ok.has y.1 (B.free y hy e)) B.kind hnames ?_
  refine thn (hi pins s σ H _ I h) fun v s1 h1 => thn h1 fun itv s2 h2 => ?_
  obtain ⟨it, fp, tn, J, H2, e, I2, T, st2, f2, W, ⟨m0, w0⟩, turn⟩ := h2
  subst e
  refine wpAny_newObj_type (newEnv_run ?_)
  have fpo : ∀ b ∈ fp, b < s2.heap.objs.size := fun b hb => let ⟨o, ho, _⟩ := T.obj _ _ st2 b hb; Heap.lt_size ho
  obtain ⟨D, hD⟩ : ∃ D, D = s2.heap.objs.size := ⟨_, rfl⟩
  obtain ⟨C, hC⟩ : ∃ C, C = s2.heap.objs.size + 1 := ⟨_, rfl⟩
  have szp : (s2.heap.push { cls := .type "list", dict := none, data := .seq ([] : List Value).toArray }).objs.size = C := by rw [hC, Heap.size_push]
  have hDC : D ≠ C := by rw [hD, hC]; exact Nat.ne_of_lt (Nat.lt_succ_self _)
  have st := blk_start (xe := notedBy (model X.prog X.w) X.A (blkEnv sc (closL X.env.cells sc.names []) C X.env) fun e s' => compPost (model X.prog X.w) X.A X.xe use Qc (.ref D) C (.error e) s') I2 B f2 fpo
  dsimp only
  rw [szp, ← hD]
  rw [← hC, ← hD] at st
  generalize hX : blk X sc ⟨closL X.env.cells sc.names [], C, s2, H2, fp, notedBy (model X.prog X.w) X.A (blkEnv sc (closL X.env.cells sc.names []) C X.env) fun e s' => compPost (model X.prog X.w) X.A X.xe use Qc (.ref D) C (.error e) s'⟩ = Y at st
  have eY : Y.env = blkEnv sc (closL X.env.cells sc.names []) C X.env := by rw [← hX]; rfl
  have exY : Y.xe = notedBy (model X.prog X.w) X.A Y.env fun e s' => compPost (model X.prog X.w) X.A X.xe use Qc (.ref D) C (.error e) s' := by rw [eY, ← hX]; rfl
  have pY : Y.prog = X.prog := by rw [← hX]; rfl
  have wY : Y.w = X.w := by rw [← hX]; rfl
  have KY : Y.K = X.K := by rw [← hX]; rfl
  have AY : Y.A = X.A := by rw [← hX]; rfl
  have cY : Y.calm = true := by rw [← hX]; exact hc
  have gY := hg ⟨closL X.env.cells sc.names [], C, s2, H2, fp, notedBy (model X.prog X.w) X.A (blkEnv sc (closL X.env.cells sc.names []) C X.env) fun e s' => compPost (model X.prog X.w) X.A X.xe use Qc (.ref D) C (.error e) s'⟩
  have tY := ht ⟨closL X.env.cells sc.names [], C, s2, H2, fp, notedBy (model X.prog X.w) X.A (blkEnv sc (closL X.env.cells sc.names []) C X.env) fun e s' => compPost (model X.prog X.w) X.A X.xe use Qc (.ref D) C (.error e) s'⟩
  have lY := he ⟨closL X.env.cells sc.names [], C, s2, H2, fp, notedBy (model X.prog X.w) X.A (blkEnv sc (closL X.env.cells sc.names []) C X.env) fun e s' => compPost (model X.prog X.w) X.A X.xe use Qc (.ref D) C (.error e) s'⟩
  rw [hX] at gY tY lY
  have fsY : Y.fs = frs X.stack := by rw [← hX]; rfl
  have exfY : Y.ex = fp := by rw [← hX]; rfl
  have s0Y : Y.s₀ = s2 := by rw [← hX]; rfl
  have H0Y : Y.H₀ = H2 := by rw [← hX]; rfl
  have LY : Y.env.locals = C := by rw [eY]; rfl
  have pnY : Y.pn = [] := by rw [← hX]; rfl
  have eEnv : ({ scope := relabel sc X.env, locals := C, globals := X.env.globals, cells := cellsFrom (C + 1) sc.names (closL X.env.cells sc.names []), qual := X.env.qual, func := none, code := X.env.code, frame := X.env.frame, builtins := X.env.builtins } : Env) = Y.env := by rw [eY]; rfl
  rw [eEnv]
  have TY : Turn Y.prog Y.w Y.K tg J fp it tn := by rw [pY, wY, KY]; exact T
  -- the iterator's objects stay its own
  have dfp : ∀ b ∈ fp, b ≠ D := fun b hb => by rw [hD]; exact Nat.ne_of_lt (fpo b hb)
  have stat : ∀ {pl : List (Addr × Obj)} {H' : Hp}, (∀ p ∈ pl, p.1 = D) → (∀ b ∈ fp, H' b = none) → ∀ b ∈ fp, FpOk Y pl H' b := fun {pl H'} hpl hn b hb => by
    have f := st.ok.exf b (by rw [exfY]; exact hb)
    refine ⟨hn b hb, f.1, st.ok.exfs b (by rw [exfY]; exact hb), .inl (by rw [exfY]; exact hb), f.2, fun p hp => ?_⟩
    rw [pnY, List.nil_append] at hp
    rw [hpl p hp]
    exact Ne.symm (dfp b hb)
  let Lp : Nat → Shared → Prop := fun n s' => ∃ i ys us k H', Inv Y [(D, { cls := .type "list", data := .seq (us : List Value).toArray k })] (wipe own σ) H' s' ∧ tn i s'.heap ∧ (∀ b ∈ fp, H' b = none) ∧ Vals ys us ∧ ys.length ≤ sizeLine ∧ ys.length ≤ i ∧ W i n ys H'
  have start : Lp m0 { s2 with heap := pushCells ((s2.heap.push { cls := .type "list", dict := none, data := .seq ([] : List Value).toArray }).push { cls := .type "dict", data := .dict #[] }) sc.names } := by
    refine ⟨0, [], [], 0, H2, st, T.keep _ _ _ st2 fun b hb o e => ?_, fun b hb => (f2 b hb).1, .nil, Nat.zero_le _, Nat.zero_le _, w0⟩
    exact pushCells_keeps sc.names _ _ _ (Heap.get?_push_of_some _ (Heap.get?_push_of_some _ e))
  have loop : ∀ s4, Lp m0 s4 → codeAny (model X.prog X.w) X.A (.compLoop (.ListComp elt [⟨tg, iter, ifs, 0⟩] sc pos) 0 (.ref it) (.ref D) Y.env) (compPost (model X.prog X.w) X.A X.xe use Qc (.ref D) C) s4 := by
    intro s4 h4
    refine comp_loop Lp ?_ m0 h4
    rintro n s5 ⟨i, ys, us, k, H5, I5, st5, fr5, vs5, le5, ll5, w5⟩
    rw [← exY, ← pY, ← wY, ← AY]
    have pinD : ∀ p ∈ ([(D, { cls := .type "list", data := .seq us.toArray k })] : List (Addr × Obj)), p.1 = D := fun p hp => by
      obtain rfl : p = (D, { cls := .type "list", data := .seq us.toArray k }) := by simpa using hp
      rfl
    rcases turn i n ys H5 w5 with ⟨stop, qn⟩ | ⟨go, lt, N, hN, step⟩
    · refine thn (TY.done Y rfl rfl rfl cY i _ s5 _ H5 Y.xe I5 (stat pinD fr5) st5 stop) fun r s6 ⟨hr, I6⟩ => ?_
      subst hr
      obtain ⟨p1, p2, p3, p4, _⟩ := I6.pin (D, { cls := .type "list", data := .seq us.toArray k }) (List.mem_append_right _ (by simp))
      have u6 : Un (frs X.stack) fp H2 (upd H5 D (.lst ys)) s2.heap s6.heap := by
        have u := I6.base
        rw [fsY, exfY, s0Y, H0Y] at u
        exact u.track p2 (by rw [hD]; exact Nat.le_refl _)
      have hok : HOk X.prog X.w (upd H5 D (.lst ys)) s6.heap := by
        have := I6.hok
        rw [pY, wY] at this
        exact this.track p2 ⟨le5, us, k, vs5, p1⟩
      have I7 : Inv X pins σ (upd H5 D (.lst ys)) s6 := I2.call' (ch := fp) (by rw [← s0Y]; exact I6.os) u6 hok I6.bare fun b hb => ⟨(f2 b hb).2.2.2.1, (f2 b hb).2.1, (f2 b hb).2.2.2.2.1, (f2 b hb).2.2.2.2.2⟩
      obtain ⟨m, hn, _⟩ := I6.loc
      rw [LY] at hn
      rw [pY, wY, AY]
      refine fin D C H5 ys s6 m I7 p2 qn hn (I2.fpOk (by rw [hC]; exact Nat.le_succ _) ?_)
      rw [upd_ne (Ne.symm hDC), ← LY]
      exact I6.free
    · refine thn (TY.item Y rfl rfl rfl cY i _ s5 _ H5 Y.xe I5 (stat pinD fr5) st5 go) fun r s6 ⟨u, hr, h6⟩ => ?_
      subst hr
      refine thn h6 fun _ s7 ⟨x, H7, I7, r7, y7, st7, fr7⟩ => ?_
      have I7' := I7.pinned (stat pinD fr7) (T.obj _ _ st7)
      refine thn (gY _ s7 _ H7 x u _ I7' r7 (step x H7 y7)) fun _ s8 ⟨σ8, H8, I8, bk, q8⟩ => ?_
      refine thn (tY _ s8 σ8 H8 _ I8 q8) fun ok s9 ⟨H9, I9, q9⟩ => ?_
      have fpk : ∀ {σ' : St} {H' : Hp} {s' : Shared}, Inv Y ([(D, { cls := .type "list", data := .seq us.toArray k })] ++ pinsAt fp s7.heap) σ' H' s' → tn (i + 1) s'.heap ∧ (∀ b ∈ fp, H' b = none) := fun {σ' H' s'} I' =>
        ⟨T.keep _ _ _ st7 fun b hb o e => (I'.pin (b, o) (List.mem_append_right _ (List.mem_append_right _ (mem_pinsAt hb e)))).1, fun b hb => by
          obtain ⟨o, e, d⟩ := T.obj _ _ st7 b hb
          exact (I'.pin (b, o) (List.mem_append_right _ (List.mem_append_right _ (mem_pinsAt hb e)))).2.1⟩
      cases ok with
      | false =>
        obtain ⟨m', hm, w'⟩ := hN _ _ q9
        obtain ⟨t9, fr9⟩ := fpk I9
        exact ⟨m', hm, i + 1, ys, us, k, H9, I9.unpinned.weak bk.1.symm bk.2, t9, fr9, vs5, le5, Nat.le_succ_of_le ll5, w'⟩
      | true =>
        refine thn (lY _ s9 σ8 H9 _ I9 q9) fun yv sa ⟨y, Ha, Ia, ra, qa⟩ => ?_
        obtain ⟨m', hm, w'⟩ := hN _ _ qa
        obtain ⟨ta, fra⟩ := fpk Ia
        obtain ⟨p1, p2, p3, p4, _⟩ := Ia.pin (D, { cls := .type "list", data := .seq us.toArray k }) (List.mem_append_right _ (List.mem_append_left _ (by simp)))
        have lus := vs5.length
        refine call_meets F.slot_list_append ⟨_, p1, rfl⟩ F.entry_list_append (F.args_list_append_2 _ _) (PySem.list_append D us.toArray k yv (by rw [List.size_toArray]; omega)) ⟨p1, ?_⟩
        have q := PySem.IsL.update p1 (fun z => z.push yv)
        have Ib : Inv Y [] (wipe own σ) Ha { sa with heap := sa.heap.update D (Obj.mapSeq fun z => z.push yv) } := by
          have I0 : Inv Y [] (wipe own σ) Ha sa := (Ia.pins_of (pins' := []) fun p hp => absurd hp (by simp)).weak bk.1.symm bk.2
          refine I0.turned (t' := sa.toks) (it := D) (fun b o hb e => (Heap.get?_update_other sa.heap _ (Ne.symm hb)).trans e) p2 (by rw [LY]; exact hDC) (.inr (by rw [s0Y, hD]; exact Nat.le_refl _)) (fun z c e => ?_) fun p hp => absurd (show p ∈ ([] : List (Addr × Obj)) by rw [← pnY]; simpa using hp) (by simp)
          obtain ⟨v, o, ho, hd⟩ := st.cell z c e
          rintro rfl
          obtain ⟨o1, _⟩ := st.pin (c, { cls := .type "list", data := .seq ([] : List Value).toArray }) (List.mem_append_right _ (by simp))
          rw [o1] at ho
          cases ho
          cases hd
        have q' : (sa.heap.update D (Obj.mapSeq fun z => z.push yv)).get? D = some { cls := .type "list", data := .seq (us ++ [yv]).toArray (if (us.toArray.push yv).size == us.toArray.size then k else k + 1) } := by
          have e1 : (us ++ [yv]).toArray = us.toArray.push yv := by simp
          rw [e1]; exact q
        refine ⟨m', hm, i + 1, ys ++ [y], us ++ [yv], (if (us.toArray.push yv).size == us.toArray.size then k else k + 1), Ha, Ib.pins_of fun p hp => ?_, T.keep _ _ _ ta fun b hb o e => (Heap.get?_update_other sa.heap _ (Ne.symm (dfp b hb))).trans e, fra, vs5.append (.cons ra .nil), by rw [List.length_append, List.length_singleton]; omega, by rw [List.length_append, List.length_singleton]; omega, w'⟩
        obtain rfl : p = (D, { cls := .type "list", data := .seq (us ++ [yv]).toArray (if (us.toArray.push yv).size == us.toArray.size then k else k + 1) }) := by simpa using hp
        exact ⟨q', p2, by rw [LY]; exact hDC, p4, fun v z => by
          have z' : Data.seq (us ++ [yv]).toArray (if (us.toArray.push yv).size == us.toArray.size then k else k + 1) = Data.cell v := z
          cases z'⟩
  refine codeAny_compStart_list (loop _ start) ?_
  refine T.self X.A 0 _ _ _ ?_ (loop _ start)
  exact T.keep _ _ _ st2 fun b hb o e => pushCells_keeps sc.names _ _ _ (Heap.get?_push_of_some _ (Heap.get?_push_of_some _ e))
end
end L2
/-! COMPREHENSIONS: in use (own work) -/
namespace L2
open PySem PySem.Spec PyProof.Rows

def nodupS : List Str → Bool
  | [] => true
  | x :: r => !(r.contains x) && nodupS r
theorem nodupS_of : ∀ {l : List Str}, nodupS l = true → l.Nodup
  | [], _ => List.nodup_nil
  | x :: r, h => by
    unfold nodupS at h
    rw [Bool.and_eq_true] at h
    refine List.nodup_cons.mpr ⟨fun z => ?_, nodupS_of h.2⟩
    have : r.contains x = true := List.contains_iff_mem.mpr z
    rw [this] at h
    exact absurd h.1 (by decide)
def blkB (N : List Str) (outer sc : Scope) (own : List Nat) : Bool :=
  sc.kind == .function && nodupS (sc.names.map (·.1)) && sc.names.all (fun y => !(y.2 == .free) || (outer.names.lookup y.1 == some .cell || outer.names.lookup y.1 == some .free)) &&
    sc.names.all (fun y => !(y.2 == .local || y.2 == .cell) || (List.range N.length).all fun i => !(N[i]? == some y.1) || own.contains i)
theorem blk_of {N : List Str} {outer sc : Scope} {own : List Nat} (h : blkB N outer sc own = true) : BlkOk N outer sc own := by
  unfold blkB at h
  rw [Bool.and_eq_true, Bool.and_eq_true, Bool.and_eq_true] at h
  obtain ⟨⟨⟨h1, h2⟩, h3⟩, h4⟩ := h
  refine ⟨eq_of_beq h1, nodupS_of h2, fun y hy e => ?_, fun y hy e i hi => ?_⟩
  · have := List.all_eq_true.mp h3 y hy
    rw [e] at this
    rw [show (!(NameKind.free == NameKind.free)) = false from rfl, Bool.false_or, Bool.or_eq_true] at this
    exact this.imp eq_of_beq eq_of_beq
  · have := List.all_eq_true.mp h4 y hy
    have e' : (y.2 == NameKind.local || y.2 == NameKind.cell) = true := by
      rcases e with e | e <;> rw [e] <;> rfl
    rw [e', Bool.not_true, Bool.false_or] at this
    have hlt : i < N.length := (List.getElem?_eq_some_iff.mp hi).1
    have := List.all_eq_true.mp this i (List.mem_range.mpr hlt)
    rw [hi, beq_self_eq_true, Bool.not_true, Bool.false_or] at this
    exact List.contains_iff_mem.mp this

/-- [elt for tg in iter if ..]: a new list; R's heap behind the last turn -/
def tComp (wi : TI) (g : TG) (tt : TT) (te : TE) (own : List Nat) : TE := fun σ H Q => wi σ H fun J H1 => CompW J g tt te (wipe own σ) (fun ys H' => ∀ p H2, New H' H2 p (.lst ys) → Q (.ref p) H2) H1
section
variable {X : Cx} {sc : Scope} {tg iter elt : Expr} {ifs : List Expr} {wi : TI} {g : TG} {tt : TT} {te : TE} {pos : Pos}
theorem Heap.SameBut.keeps {a : Addr} {h h' : Heap} (x : Heap.SameBut a h h') : ∀ b o, b ≠ a → h.get? b = some o → h'.get? b = some o := fun b o hb e => (x.2 b hb).trans e
theorem FpOk.turned {pins : List (Addr × Obj)} {σ : St} {H : Hp} {s : Shared} {C : Addr} {h' : Heap} (I : Inv X pins σ H s) (f : FpOk X pins H C) (sb : Heap.SameBut C s.heap h') : Inv X pins σ H { s with heap := h' } :=
  I.turned (t' := s.toks) (Heap.SameBut.keeps sb) f.1 f.2.1 f.2.2.2.1 f.2.2.2.2.1 f.2.2.2.2.2
theorem pe_comp (own : List Nat) (hc : X.calm = true) (B : BlkOk X.N X.env.scope sc own) (hi : PI X tg iter wi) (hg : ∀ b, PG (blk X sc b) tg g) (ht : ∀ b, PTs (blk X sc b) ifs tt) (he : ∀ b, PE (blk X sc b) elt te)
    (hs : ∀ x, foldedSetIterable iter X.env x = pure x := by intro _; rfl) : PE X (.ListComp elt [⟨tg, iter, ifs, 0⟩] sc pos) (tComp wi g tt te own) := by
  intro pins s σ H Q I h
  rw [eval_ListComp]
  refine comp_run (use := none) hc B hi hg ht he hs I h fun D C H' ys s' m I' n r hn f => ⟨m, hn, fun h' sb => ?_⟩
  exact ⟨.ref D, _, f.turned I' sb, rfl, r D _ (.of n)⟩
theorem ps_setC {i : Nat} {y : Str} {py spos : Pos} (own : List Nat) (hc : X.calm = true) (B : BlkOk X.N X.env.scope sc own) (hi : PI X tg iter wi) (hg : ∀ b, PG (blk X sc b) tg g) (ht : ∀ b, PTs (blk X sc b) ifs tt) (he : ∀ b, PE (blk X sc b) elt te)
    (hN : X.N.Nodup) (hy : X.N[i]? = some y) (hl : X.env.scope.names.lookup y = some .local)
    (hsw : swapsWith (.ListComp elt [⟨tg, iter, ifs, 0⟩] sc pos) (some (.Name y py)) spos.line X.env = pure true := by rfl)
    (hs : ∀ x, foldedSetIterable iter X.env x = pure x := by intro _; rfl) : PS X (.Assign [.Name y py] (.ListComp elt [⟨tg, iter, ifs, 0⟩] sc pos) spos) (tAsg (tComp wi g tt te own) (gName i)) := by
  intro pins s σ H D I h
  rw [exec_Assign_Name_used _ _ _ _ hsw]
  refine wpAny_bind (wpAny_standAt (wpAny_bind ?_))
  show wpAny _ X.A (comprehension (.ListComp elt [⟨tg, iter, ifs, 0⟩] sc pos) sc X.env _ (newList []) false (eval iter X.env) (some (assign (.Name y py) X.env)) >>= fun _ => pure ()) _ _ s
  refine wpAny_bind (comp_run (use := some (assign (.Name y py) X.env)) (Qc := fun _ s' => wpAny (model X.prog X.w) X.A (pure ()) (fun _ s'' => wpAny (model X.prog X.w) X.A (pure Flow.next) (SP X pins D) X.xe s'') X.xe s') hc B hi hg ht he hs I h fun L C H' ys s' m I' n r hn f => ?_)
  refine wpAny_assign_Name (store_ok2 I' hN hy (.inl hl) (v := .ref L) rfl (fun s2 I2 hsb => ?_) (.inr hl))
  obtain ⟨a, sb, ha⟩ := hsb
  have hCa : C ≠ a := by
    rcases ha with z | z
    · rw [z]; exact f.2.1
    · exact Ne.symm (f.2.2.2.2.1 y a z)
  refine ⟨m, hn.sameBut sb hCa, fun h' sb2 => wpAny_pure (wpAny_pure ?_)⟩
  exact ⟨_, _, f.turned I2 sb2, r L _ (.of n)⟩
end

/-! ### the forms one uses -/
theorem back_set {σ : St} {j : Nat} {v : Option V} (h : ∀ x, σ[j]? ≠ some (some x)) : Back σ (σ.set j v) := by
  refine ⟨by simp, fun i x e => ?_⟩
  by_cases hij : j = i
  · subst hij; exact absurd e (h x)
  · rw [List.getElem?_set_ne hij]; exact e
theorem wipe_one {σ : St} {j : Nat} : ∀ x, (wipe [j] σ)[j]? ≠ some (some x) := fun x e => by
  have := (wipe_get [j] σ j x e).2
  simp at this
theorem wipe_set {σ : St} {j : Nat} {v : Option V} : (wipe [j] σ).set j v = σ.set j v := by
  show (σ.set j none).set j v = _
  simp
section
variable {K : PySem.W.Frag} {tt : TT} {te : TE} {σ : St} {j : Nat} {R : List V → Hp → Prop} {H1 : Hp}
theorem comp_list {a : Addr} {xs : List V} (Pv : Nat → List V → Hp → Prop) (hz : xs.length ≤ sizeLine) (h0 : Pv 0 [] H1) (hl : ∀ i ys H, i ≤ xs.length → Pv i ys H → SqL K H a xs)
    (hs : ∀ i x ys H, xs[i]? = some x → Pv i ys H → tt (σ.set j (some x)) H fun b H3 => if b = true then te (σ.set j (some x)) H3 fun y H4 => Pv (i + 1) (ys ++ [y]) H4 else Pv (i + 1) ys H3) (hd : ∀ ys H, Pv xs.length ys H → R ys H) :
    CompW (Itl K a) (gName j) tt te (wipe [j] σ) R H1 := by
  refine ⟨fun i m ys H => m = xs.length - i ∧ i ≤ xs.length ∧ Pv i ys H, ⟨xs.length, by simp, Nat.zero_le _, h0⟩, ?_⟩
  rintro i m ys H ⟨rfl, hi, p⟩
  have q := hl i ys H hi p
  by_cases hlt : i < xs.length
  · refine .inr ⟨⟨xs, xs[i], q, by simp [hlt]⟩, by omega, Pv (i + 1), fun ys' H' q' => ⟨xs.length - (i + 1), by omega, rfl, hlt, q'⟩, fun x H' y => ?_⟩
    obtain ⟨e, y⟩ := y
    subst e
    show Back _ _ ∧ _
    refine ⟨back_set wipe_one, ?_⟩
    rw [wipe_set]
    exact hs i x ys _ (y xs q) p
  · have e : i = xs.length := by omega
    subst e
    exact .inl ⟨⟨xs, q, Nat.le_refl _⟩, hd ys H p⟩
theorem comp_range {lo : Int} {n : Nat} (Pv : Nat → List V → Hp → Prop) (hz : n ≤ sizeLine) (h0 : Pv 0 [] H1)
    (hs : ∀ i ys H, i < n → Pv i ys H → tt (σ.set j (some (.int (lo + i)))) H fun b H3 => if b = true then te (σ.set j (some (.int (lo + i)))) H3 fun y H4 => Pv (i + 1) (ys ++ [y]) H4 else Pv (i + 1) ys H3) (hd : ∀ ys H, Pv n ys H → R ys H) :
    CompW (Itr lo n) (gName j) tt te (wipe [j] σ) R H1 := by
  refine ⟨fun i m ys H => m = n - i ∧ i ≤ n ∧ Pv i ys H, ⟨n, by simp, Nat.zero_le _, h0⟩, ?_⟩
  rintro i m ys H ⟨rfl, hi, p⟩
  by_cases hlt : i < n
  · refine .inr ⟨hlt, by omega, Pv (i + 1), fun ys' H' q' => ⟨n - (i + 1), by omega, rfl, hlt, q'⟩, fun x H' y => ?_⟩
    obtain ⟨e, y⟩ := y
    subst e y
    show Back _ _ ∧ _
    refine ⟨back_set wipe_one, ?_⟩
    rw [wipe_set]
    exact hs i ys _ hlt p
  · have e : i = n := by omega
    subst e
    exact .inl ⟨Nat.le_refl _, hd ys H p⟩
end
end L2
/-! LISTS: sum, max, min, all, any (own work) -/
namespace L2
open PySem PySem.Spec PyProof.Rows

theorem ints_of : ∀ {ns : List Int} {us : List Value}, Vals (ns.map V.int) us → ∃ xs : Array (Int × Tok), us.toArray = intItems xs ∧ ns = xs.toList.map (·.1)
  | [], _, .nil => ⟨#[], by simp [intItems], rfl⟩
  | n :: ns, u :: us, .cons r t => by
    obtain ⟨tk, rfl⟩ := r
    obtain ⟨xs, e1, e2⟩ := ints_of t
    refine ⟨((n, tk) :: xs.toList).toArray, ?_, by simp [e2]⟩
    have e3 : us = (intItems xs).toList := by rw [← e1]
    rw [e3]
    simp [intItems]
section
variable {X : Cx}
theorem call_sumL (hc : X.calm = true) : CallR X (.builtin "sum") (fun xs H Q => ∃ (p : Addr) (ns : List Int), xs = [.ref p] ∧ SqL X.K H p (ns.map V.int) ∧ Q (.int ns.sum) H) := by
  intro pins s σ H xs us Q I r h
  obtain ⟨p, ns, rfl, hq, q⟩ := h
  obtain ⟨u, rfl, rx⟩ := vals1 r
  cases rx
  obtain ⟨its, rv, pl, _⟩ := I.list hq
  obtain ⟨xs, e1, e2⟩ := ints_of rv
  have hl := pl.isList
  rw [e1] at hl
  refine sum_intListG (I.ok.hd hc) hl fun h' tk t' k => ⟨.int ns.sum, H, I.kept k, ⟨t', ?_⟩, q⟩
  rw [preSum_eq, List.take_of_length_le (by simp), e2]
theorem call_minL (hc : X.calm = true) : CallR X (.builtin "min") (fun xs H Q => ∃ (p : Addr) (ns : List Int), xs = [.ref p] ∧ SqL X.K H p (ns.map V.int) ∧ 0 < ns.length ∧ ∀ M, M ∈ ns → (∀ a, a ∈ ns → M ≤ a) → Q (.int M) H) := by
  intro pins s σ H xs us Q I r h
  obtain ⟨p, ns, rfl, hq, hp, q⟩ := h
  obtain ⟨u, rfl, rx⟩ := vals1 r
  cases rx
  obtain ⟨its, rv, pl, _⟩ := I.list hq
  obtain ⟨xs, e1, e2⟩ := ints_of rv
  have hl := pl.isList
  rw [e1] at hl
  have hsz : 0 < xs.size := by rw [e2, List.length_map, Array.length_toList] at hp; exact hp
  refine min_intList (I.ok.hd hc) hl hsz fun v h' tk hv k => ?_
  obtain ⟨t, rfl⟩ := intItems_at hv
  obtain ⟨h1, h2⟩ := argBest_lt (numAt xs) (xs.size - 1)
  refine ⟨.int _, H, I.kept k, ⟨t, rfl⟩, q _ ?_ fun a ha => ?_⟩
  · rw [e2, numAt_eq]; exact getD_mem (by rw [List.length_map, Array.length_toList]; omega)
  · rw [e2] at ha
    obtain ⟨j, hj, rfl⟩ := mem_getD ha
    rw [List.length_map, Array.length_toList] at hj
    rw [← numAt_eq]; exact h2 j (by omega)
end
/-! ### the same with the new list's heap as a letter -/
section
variable {X : Cx}
theorem call_listN : CallR X (.type "list") (fun xs H Q => ∃ p ys, xs = [.ref p] ∧ (SqL X.K H p ys ∨ SqT X.K H p ys) ∧ ∀ l H', New H H' l (.lst ys) → Q (.ref l) H') := by
  intro pins s σ H xs us Q I r h
  obtain ⟨p, ys, e, hq, q⟩ := h
  exact call_list_of pins s σ H xs us Q I r ⟨p, ys, e, hq, fun l hl => q l _ (.of hl)⟩
/-- list + list -/
theorem op_catN : OpR X (binaryOp .Add) (fun x y H Q => ∃ l b xs zs, x = .ref l ∧ y = .ref b ∧ H l = some (.lst xs) ∧ H b = some (.lst zs) ∧ xs.length + zs.length ≤ sizeLine ∧ ∀ p H', New H H' p (.lst (xs ++ zs)) → Q (.ref p) H') := by
  intro pins s σ H x y v u Q I rx ry h
  obtain ⟨l, b, xs, zs, e1, e2, h1, h2, h3, q⟩ := h
  exact op_cat pins s σ H x y v u Q I rx ry ⟨l, b, xs, zs, e1, e2, h1, h2, h3, fun p hp => q p _ (.of hp)⟩
end
end L2
/-! COMPREHENSIONS that leave the heap; o[i] op= e of lists (own work) -/
namespace L2
open PySem PySem.Spec PyProof.Rows
section
variable {X : Cx}
theorem get_list : PGet X (rIxL X.K) := by
  intro pins s σ H x y v u Q I rx ry h
  obtain ⟨p, xs, i, z, rfl, rfl, hq, he, q⟩ := h
  cases rx
  obtain ⟨t, rfl⟩ := ry
  obtain ⟨its, r, pl, hz⟩ := I.list hq
  obtain ⟨j, h1, h2, h3, h4, h5⟩ := atI_get he
  obtain ⟨w, ew, rw'⟩ := r.get h2
  have hl := r.length
  have hn := line63
  have fin : EP X pins σ Q w s := ⟨z, H, I, rw', q⟩
  by_cases h0 : 0 ≤ i
  · have hj : i.toNat = j := by
      rw [seqIndex_of h0 h5] at h1
      exact Option.some.inj h1
    exact wpAny_getItem_list pl.isList h0 (by omega) (by rw [hj]; simpa using ew) fin
  · have hj : (i + (its.toArray.size : Int)).toNat = j := by
      rw [seqIndex_neg (by omega) h4] at h1
      rw [List.size_toArray, ← hl]
      exact Option.some.inj h1
    exact wpAny_getItem_list_neg pl.isList (by omega) (by rw [List.size_toArray] <;> omega) (by omega) (by rw [hj]; simpa using ew) fin
end
section
variable {K : PySem.W.Frag} {tt : TT} {te : TE} {σ : St} {j : Nat} {R : List V → Hp → Prop} {H1 : Hp}
theorem yes {σ : St} {H : Hp} {F G : Hp → Prop} (h : F H) : tYes σ H (fun b H3 => if b = true then F H3 else G H3) := by
  show if true = true then F H else G H
  exact iteT h
theorem take_map {α β : Type} (f : α → β) {xs : List α} {i : Nat} {x : α} (e : xs[i]? = some x) : (xs.take i).map f ++ [f x] = (xs.take (i + 1)).map f := by
  rw [List.take_add_one, e]; simp
theorem comp_mapL {a : Addr} {xs : List V} (f : V → V) (hl : SqL K H1 a xs) (hz : xs.length ≤ sizeLine) (hs : ∀ (i : Nat) x (Q : VK), xs[i]? = some x → Q (f x) H1 → te (σ.set j (some x)) H1 Q) (hd : R (xs.map f) H1) :
    CompW (Itl K a) (gName j) tYes te (wipe [j] σ) R H1 := by
  refine comp_list (fun i ys H => H = H1 ∧ ys = (xs.take i).map f) hz ⟨rfl, rfl⟩ (fun i ys H _ h => by rw [h.1]; exact hl) (fun i x ys H e h => ?_) (fun ys H h => ?_)
  · obtain ⟨rfl, rfl⟩ := h
    exact yes (hs i x _ e ⟨rfl, take_map f e⟩)
  · obtain ⟨rfl, rfl⟩ := h
    rw [List.take_length]
    exact hd
theorem comp_mapR {lo : Int} {n : Nat} (f : Nat → V) (hz : n ≤ sizeLine) (hs : ∀ (i : Nat) (Q : VK), i < n → Q (f i) H1 → te (σ.set j (some (.int (lo + i)))) H1 Q) (hd : R ((List.range n).map f) H1) :
    CompW (Itr lo n) (gName j) tYes te (wipe [j] σ) R H1 := by
  refine comp_range (fun i ys H => H = H1 ∧ ys = (List.range i).map f) hz ⟨rfl, rfl⟩ (fun i ys H e h => ?_) (fun ys H h => ?_)
  · obtain ⟨rfl, rfl⟩ := h
    refine yes (hs i _ e ⟨rfl, ?_⟩)
    rw [List.range_succ, List.map_append]; rfl
  · obtain ⟨rfl, rfl⟩ := h
    exact hd
end
/-- all that stood at the entry stays, where a newer object is written -/
theorem Same.upd {H0 H : Hp} {l : Addr} {o : HO} (S : Same H0 H) (n : H0 l = none) : Same H0 (upd H l o) := fun b u e => by
  rw [upd_ne (ne_of_none e n)]
  exact S b u e
end L2
/-! READING by a tactic (own work): rd walks a reading from the left as far as it goes by itself; carry S takes the facts on a heap over to the next -/
namespace L2
open PySem PySem.Spec PyProof.Rows
/-- len(xs) of a list or a tuple -/
def rLen (K : PySem.W.Frag) : List V → Hp → VK → Prop := fun xs H Q => ∃ (p : Addr) (ys : List V), xs = [.ref p] ∧ Sq K H p ys ∧ Q (.int ys.length) H
theorem call_lenQ {X : Cx} : CallR X (.builtin "len") (rLen X.K) := call_len_seq
def rSumL (K : PySem.W.Frag) : List V → Hp → VK → Prop := fun xs H Q => ∃ (p : Addr) (ns : List Int), xs = [.ref p] ∧ SqL K H p (ns.map V.int) ∧ Q (.int ns.sum) H
/-- isinstance(x, C) -/
def rIsT (K : PySem.W.Frag) (c : V) (cv : Value) : List V → Hp → VK → Prop := fun xs H Q => ∃ x t b, xs = [x, c] ∧ TyOf K H x t ∧ PySem.W.kitOne K t cv = some b ∧ Q (.bl b) H
def rMaxL (K : PySem.W.Frag) : List V → Hp → VK → Prop := fun xs H Q => ∃ (p : Addr) (ns : List Int), xs = [.ref p] ∧ SqL K H p (ns.map V.int) ∧ 0 < ns.length ∧ ∀ M, M ∈ ns → (∀ a, a ∈ ns → a ≤ M) → Q (.int M) H
def rMinL (K : PySem.W.Frag) : List V → Hp → VK → Prop := fun xs H Q => ∃ (p : Addr) (ns : List Int), xs = [.ref p] ∧ SqL K H p (ns.map V.int) ∧ 0 < ns.length ∧ ∀ M, M ∈ ns → (∀ a, a ∈ ns → M ≤ a) → Q (.int M) H
def rAllL (K : PySem.W.Frag) : List V → Hp → VK → Prop := fun xs H Q => ∃ (p : Addr) (bs : List Bool), xs = [.ref p] ∧ SqL K H p (bs.map V.bl) ∧ Q (.bl (bs.all id)) H
def rAnyL (K : PySem.W.Frag) : List V → Hp → VK → Prop := fun xs H Q => ∃ (p : Addr) (bs : List Bool), xs = [.ref p] ∧ SqL K H p (bs.map V.bl) ∧ Q (.bl (bs.any id)) H
def rListN (K : PySem.W.Frag) : List V → Hp → VK → Prop := fun xs H Q => ∃ p ys, xs = [.ref p] ∧ Sq K H p ys ∧ ∀ l H', New H H' l (.lst ys) → Q (.ref l) H'
section
variable {X : Cx} (K : PySem.W.Frag)
theorem ix_Q (h : X.K = K := by rfl) : IxR X (rAt K) := by subst h; exact ix_any
theorem len_Q (h : X.K = K := by rfl) : CallR X (.builtin "len") (rLen K) := by subst h; exact call_lenQ
theorem sum_Q (hc : X.calm = true) (h : X.K = K := by rfl) : CallR X (.builtin "sum") (rSumL K) := by subst h; exact call_sumL hc
theorem min_Q (hc : X.calm = true) (h : X.K = K := by rfl) : CallR X (.builtin "min") (rMinL K) := by subst h; exact call_minL hc
theorem list_Q (h : X.K = K := by rfl) : CallR X (.type "list") (rListN K) := by subst h; exact call_listN
theorem pi_listQ {tg l : Expr} {tl : TE} (hl : PE X l tl) (h : X.K = K := by rfl) : PI X tg l (iList K tl) := by subst h; exact pi_list hl
theorem notIn_Q (h : X.K = K := by rfl) : OpR X (compareOp .NotIn) (rIn K true) := by subst h; exact op_notIn_seq
theorem getL_Q (h : X.K = K := by rfl) : PGet X (rIxL K) := by subst h; exact get_list
theorem pg_tupQ {es : List Expr} {k : Nat} {t : TGs} {n : Nat} {pos : Pos} (hc : X.calm = true) (ht : PGs X es t) (hn : (assignEach es X.env).length = n := by rfl) (hst : (assignEach es X.env).findIdx? (·.1) = none := by rfl) (h : X.K = K := by rfl) :
    PG X (.Tuple es k pos) (gTup K n t) := by subst h; exact pg_tup hc ht hn hst
theorem pe_isT {e : Expr} {te : TE} {T : Str} {n : String} {p p2 pos : Pos} (hg : Gl X "isinstance") (hm : X.mg "isinstance" = none) (hgT : Gl X T) (hmT : X.mg T = none) (hvT : bootBuiltins T = some (.type n)) (he : PE X e te)
    (hn : T ≠ "__name__" := by decide) (hd : (T == ("__debug__" : Str)) = false := by decide)
    (s1 : starEach [e, .Name T p2] X.env = (false, eval e X.env) :: starEach [.Name T p2] X.env := by rfl) (hpl : (backTo pos (starEach [.Name T p2] X.env)).any (·.1) = false := by rfl) (h : X.K = K := by rfl) :
    PE X (.Call (.Name "isinstance" p) [e, .Name T p2] [] pos) (tCB (rIsT K (.ty n) (.type n)) (tCons te (tCons (tC (.ty n)) tNil))) := by subst h; exact pe_isinstT hg hm hgT hmT hvT he hn hd s1 hpl
theorem op_eqI : OpR X (compareOp .Eq) (rI0 fun i j => .bl (decide (i = j))) := by
  intro pins s σ H x y v u Q I rx ry ⟨i, j, e1, e2, q⟩
  subst e1 e2
  refine op_eq pins s σ H _ _ v u Q I rx ry ⟨rfl, ?_⟩
  rw [dec_int, Bool.beq_eq_decide_eq]
  exact q
theorem op_neI : OpR X (compareOp .NotEq) (rI0 fun i j => .bl (!decide (i = j))) := by
  intro pins s σ H x y v u Q I rx ry ⟨i, j, e1, e2, q⟩
  subst e1 e2
  refine op_ne pins s σ H _ _ v u Q I rx ry ⟨rfl, ?_⟩
  rw [dec_int, Bool.beq_eq_decide_eq]
  exact q
end
theorem iteDT {c A B : Prop} [Decidable c] (hc : c) (h : A) : if decide c = true then A else B := by
  rw [decide_eq_true hc]
  exact iteT h
theorem iteDF {c A B : Prop} [Decidable c] (hc : ¬ c) (h : B) : if decide c = true then A else B := by
  rw [decide_eq_false hc]
  exact iteF h
theorem iteNT {c A B : Prop} [Decidable c] (hc : c) (h : B) : if (!decide c) = true then A else B := by
  rw [decide_eq_true hc]
  exact iteF h
theorem ite3 {c A B : Prop} [Decidable c] (h1 : c → A) (h2 : ¬ c → B) : if decide c = true then A else B := by
  by_cases h : c
  · exact iteDT h (h1 h)
  · exact iteDF h (h2 h)
end L2
/-! WHAT ALL TEXTS SHARE (own work): promises of the program's small defs, whatever the law -/
namespace L2
open PySem PySem.Spec PyProof.Rows
section
variable {P : Program} {w : World} {K : PySem.W.Frag} {mg : Str → Option Value} {base : Heap}
end
/-- the mro of ValueError -/
abbrev bmV : List Value := [.type "ValueError", .type "Exception", .type "BaseException", .type "object"]
/-- a class as isinstance sees it -/
structure ClsTy (K : PySem.W.Frag) (C : Addr) : Prop where
  ha : PySem.W.findIn K (.ref C) "__class__" = some (some (.builtin "object.__class__"))
  hn : PySem.W.specialIn K (.builtin "object.__class__") "__get__" = some (some (.builtin "getset_descriptor.__get__"))
  tk : PySem.W.takesIn K (.builtin "object.__class__") = some true
  ob : PySem.W.mroIn K C (.type "object") = some true
/-- isinstance(e, C), e in slot i -/
abbrev tIsE (K : PySem.W.Frag) (i : Nat) (c : V) (cv : Value) : TE := tCB (rIsE K c cv) (tCons (tVar i) (tCons (tC c) tNil))
/-- .. a list of ints -/
theorem rep_ints {K : PySem.W.Frag} {H : Hp} : ∀ (ns : List Int), RepAll K H (ns.map PyData.int) (ns.map V.int)
  | [] => by simp only [List.map_nil, RepAll]
  | n :: ns => by
    rw [List.map_cons, List.map_cons, RepAll]
    exact ⟨_, _, rfl, by rw [Rep], rep_ints ns⟩
theorem rep_list {K : PySem.W.Frag} {H : Hp} {p : Addr} {ns : List Int} (h : SqL K H p (ns.map V.int)) : Rep K H (.list (ns.map PyData.int)) (.ref p) := by
  rw [Rep]
  exact ⟨p, _, rfl, h, rep_ints ns⟩
/-- all but the object at p stays -/
def But (p : Addr) (H H' : Hp) : Prop := ∀ b o, H b = some o → b ≠ p → H' b = some o
end L2
namespace SW
open PySem L2
/-! ### the promises -/
def spGcd : Sp := fun vs H Q _ => ∃ a b : Int, vs = [.int a, .int b] ∧ 0 ≤ a ∧ 0 ≤ b ∧ Q (.int (gcdI a b)) H
def spRatio : Sp := fun vs H Q _ => ∃ a b : Int, vs = [.int a, .int b] ∧ 0 ≤ a ∧ 0 < b ∧ Fits b ∧
  ∀ (p : Addr) (H' : Hp) (x y : Int), Low a b x y → New H H' p (.tup [.int x, .int y]) → Q (.ref p) H'
/-- a ratio at p -/
structure Rat (H : Hp) (p : Addr) (x y : Int) : Prop where
  at_ : H p = some (.tup [.int x, .int y])
  x0 : 0 ≤ x
  y0 : 0 < y
  xl : x < 10 ^ 40
  yl : y < 10 ^ 40
def spBelow : Sp := fun vs H Q _ => ∃ (p q : Addr) (a b c d : Int), vs = [.ref p, .ref q] ∧ Rat H p a b ∧ Rat H q c d ∧ Q (.bl (decide (a * d < c * b))) H
def spOver : Sp := fun vs H Q _ => ∃ (p q : Addr) (a b c d : Int), vs = [.ref p, .ref q] ∧ Rat H p a b ∧ Rat H q c d ∧ 0 < c ∧
  ∀ (r : Addr) (H' : Hp) (x y : Int), Low (a * d) (b * c) x y → New H H' r (.tup [.int x, .int y]) → Q (.ref r) H'
def spDraw : Sp := fun vs H Q _ => ∃ c k m : Int, vs = [.int c, .int k, .int m] ∧ 0 ≤ k ∧ k < 1000 ∧ 0 < m ∧ ∀ (v : Int) (H' : Hp), 0 ≤ v → v < m → Same H H' → Q (.int v) H'
/-- _law_great: a number below the third -/
def spGreat : Sp := fun vs H Q _ => ∃ c k m : Int, vs = [.int c, .int k, .int m] ∧ 0 ≤ k ∧ k < 900 ∧ 0 < m ∧ ∀ (v : Int) (H' : Hp), 0 ≤ v → v < m → Same H H' → Q (.int v) H'
/-- _law_vote -/
def spVote : Sp := fun vs H Q _ => ∃ c : Int, vs = [.int c] ∧ ∀ (v : Int) (H' : Hp), 0 ≤ v → v ≤ 1000000000 → Same H H' → Q (.int v) H'
/-- _law_cell_at -/
def spCellAt (K : PySem.W.Frag) : Sp := fun vs H Q _ => ∃ (a : Addr) (ns : List Int) (k : Int), vs = [.ref a, .int k] ∧ SqL K H a (ns.map V.int) ∧ 0 ≤ k ∧ ∀ v : Int, Q (.int v) H
/-- a plain value -/
def plainV : V → Bool
  | .non => true | .bl _ => true | .int _ => true | .str _ => true | _ => false
def wholeV : V → Bool
  | .int _ => true | _ => false
def spWhole : Sp := fun vs H Q _ => ∃ v, vs = [v] ∧ plainV v = true ∧ Q (.bl (wholeV v)) H
def spRuleInit (K : PySem.W.Frag) : Sp := fun vs H Q _ => ∃ (p C dx t : Addr), vs = [.ref p, .ref t] ∧ H p = some (.ins C dx []) ∧ Cls K C ∧ NoAttr K C "whole" ∧ Q .non (upd H p (.ins C dx [("whole", .ref t)]))
/-- a rule's class -/
structure RuleC (K : PySem.W.Frag) (C fm : Addr) (ff : Option Addr) : Prop where
  cl : Cls K C
  nw : NoAttr K C "whole"
  mr : Meth K C "mark" fm
  ft : ∀ f, ff = some f → Meth K C "fits" f
  ty : ClsTy K C
/-- a rule at p, its own part a by b -/
structure RuleAt (K : PySem.W.Frag) (fm : Addr) (ff : Option Addr) (H : Hp) (p : Addr) (a b : Int) : Prop where
  ob : ∃ C dx t, RuleC K C fm ff ∧ H p = some (.ins C dx [("whole", .ref t)]) ∧ H t = some (.tup [.int a, .int b])
  a0 : 0 < a
  ab : a ≤ b
  b1 : b ≤ 1000
section
variable {K : PySem.W.Frag} {fm : Addr} {ff : Option Addr}
/-- what a rule's __init__ leaves -/
def Made (C : Addr) (H H' : Hp) (p dx : Addr) (a b : Int) : Prop := ∃ t, H' p = some (.ins C dx [("whole", .ref t)]) ∧ H' t = some (.tup [.int a, .int b]) ∧ But p H H'
def spInit1 (C : Addr) (a b : Int) : Sp := fun vs H Q _ => ∃ p dx, vs = [.ref p] ∧ H p = some (.ins C dx []) ∧ ∀ H', Made C H H' p dx a b → Q .non H'
def goodPQ (u v : V) : Prop := ∃ p q : Int, u = .int p ∧ v = .int q ∧ 0 < p ∧ p ≤ q ∧ q ≤ 1000
/-- Between(u, v), the class at C, the error's class at B -/
def spBetween (C B : Addr) : Sp := fun vs H Q E => ∃ p dx u v, vs = [.ref p, u, v] ∧ H p = some (.ins C dx []) ∧ plainV u = true ∧ plainV v = true ∧
  (∀ m n H' x y, u = .int m → v = .int n → 0 < m → m ≤ n → n ≤ 1000 → Low m n x y → Made C H H' p dx x y → Q .non H') ∧ (¬ goodPQ u v → ∀ H', Same H H' → E (.ref B) none H')
def spMark (K : PySem.W.Frag) (fm : Addr) (ff : Option Addr) : Sp := fun vs H Q _ => ∃ (p : Addr) (n a b : Int), vs = [.ref p, .int n] ∧ RuleAt K fm ff H p a b ∧ 1 ≤ n ∧ n ≤ 1000 ∧
  ∀ (r : Addr) (H' : Hp) (x y : Int), Low (a + (n - 1) * b) b x y → New H H' r (.tup [.int x, .int y]) → Q (.ref r) H'
/-- whether u by v is rounded to n by the rule whose part is a by b -/
def fitsB (u v a b n : Int) : Bool := !(decide (0 < n) && decide (u * b < v * (a + (n - 1) * b))) && decide (u * b ≤ v * (a + n * b))
def spFits (K : PySem.W.Frag) (fm : Addr) (ff : Option Addr) : Sp := fun vs H Q _ => ∃ (p r : Addr) (n u v a b : Int), vs = [.ref p, .ref r, .int n] ∧ RuleAt K fm ff H p a b ∧ Rat H r u v ∧ 0 ≤ n ∧ n ≤ 900 ∧ ∀ H', Same H H' → Q (.bl (fitsB u v a b n)) H'
def spLFits : Sp := fun vs H Q _ => ∃ (t : Addr) (u v p q n : Int), vs = [.int u, .int v, .ref t, .int n] ∧ H t = some (.tup [.int p, .int q]) ∧ 0 ≤ u ∧ u < 10 ^ 40 ∧ 0 < v ∧ v < 10 ^ 40 ∧ 0 < p ∧ p ≤ q ∧ q ≤ 1000 ∧ 0 ≤ n ∧ n ≤ 1000 ∧ Q (.bl (fitsB u v p q n)) H
def spRule (K : PySem.W.Frag) (fm : Addr) (ff : Option Addr) : Sp := fun vs H Q _ => ∃ c : Int, vs = [.int c] ∧ ∀ (r p t : Addr) (H' : Hp) (a b m n : Int), H' r = some (.tup [.ref p, .ref t]) → RuleAt K fm ff H' p a b → H' t = some (.tup [.int m, .int n]) → 0 < m → m ≤ n → n ≤ 1000 → a * n = b * m → Same H H' → Q (.ref r) H'
def spLaw (K : PySem.W.Frag) : Sp := fun vs H Q _ => ∃ (a : Addr) (ns : List Int), vs = [.ref a] ∧ SqL K H a (ns.map V.int) ∧ ns.length ≤ 63 ∧ ∀ H', Q (.bl true) H'
/-! a rule's methods, whichever class it is of -/
def tRuleM (K : PySem.W.Frag) (fm : Addr) (ff : Option Addr) (sp : Sp) (ta : TE) (t : TA) : TE := fun σ H Q => ta σ H fun x H1 => ∃ a C dx t0, x = .ref a ∧ RuleC K C fm ff ∧ H1 a = some (.ins C dx [("whole", .ref t0)]) ∧ t σ H1 fun vs H2 => sp (x :: vs) H2 Q E0
section
variable {X : Cx} {o e : Expr} {es : List Expr} {ta : TE} {t : TA} {apos pos : Pos} {fd : FuncData} {k : Nat} {ps : List Str} {sp : Sp}
end
end
/-! ### arithmetic -/
def primes : List V := [1000003, 1000033, 1000037, 1000039, 1000081, 1000099, 1000117, 1000121, 1000133, 1000151, 1000159, 1000171, 1000183, 1000187, 1000193, 1000199].map V.int
theorem prime_at (k : Int) (h0 : 0 ≤ k) (h1 : k < 16) : ∃ n : Int, 0 < n ∧ atI primes k = some (.int n) := by
  have hk : k.toNat < 16 := by omega
  have e : ∀ j : Nat, j < 16 → ∃ n : Int, 0 < n ∧ primes[j]? = some (.int n) := by
    intro j hj
    match j, hj with
    | (n + 16), h => exact absurd h (by omega)
    | 0, _ | 1, _ | 2, _ | 3, _ | 4, _ | 5, _ | 6, _ | 7, _ | 8, _ | 9, _ | 10, _ | 11, _ | 12, _ | 13, _ | 14, _ | 15, _ => exact ⟨_, by decide, rfl⟩
  obtain ⟨n, hn, e'⟩ := e k.toNat hk
  exact ⟨n, hn, atI_of h0 e'⟩
end SW
/-! == OF DATA: lists of numbers, tables, pairs (own work) -/
namespace L2
open PySem PySem.Spec PyProof.Rows
def dI (ns : List Int) : PyData := .list (ns.map .int)
def dM (rs : List (List Int)) : PyData := .list (rs.map dI)
def dP (a b : Int) : PyData := .tuple [.int a, .int b]
theorem lay_ints : ∀ ns : List Int, PyData.canLayAll0 (ns.map .int) = true
  | [] => by simp [PyData.canLayAll0]
  | n :: ns => by simp [PyData.canLayAll0, PyData.canLay0, lay_ints ns]
theorem lay_dI (ns : List Int) : (dI ns).canLay0 = true := by unfold dI; rw [PyData.canLay0]; exact lay_ints ns
theorem lay_rows : ∀ rs : List (List Int), PyData.canLayAll0 (rs.map dI) = true
  | [] => by simp [PyData.canLayAll0]
  | r :: rs => by rw [List.map_cons, PyData.canLayAll0, lay_dI, lay_rows rs]; rfl
theorem lay_dM (rs : List (List Int)) : (dM rs).canLay0 = true := by unfold dM; rw [PyData.canLay0]; exact lay_rows rs
theorem dep_ints : ∀ ns : List Int, PyData.depthAll (ns.map .int) = 0
  | [] => by simp [PyData.depthAll]
  | n :: ns => by simp [PyData.depthAll, PyData.depth, dep_ints ns]
theorem dep_rows : ∀ rs : List (List Int), PyData.depthAll (rs.map dI) ≤ 1
  | [] => by simp [PyData.depthAll]
  | r :: rs => by
    rw [List.map_cons, PyData.depthAll]
    have h1 := dep_rows rs
    have h2 : (dI r).depth = 1 := by unfold dI; rw [PyData.depth, dep_ints]
    omega
theorem dep_dM (rs : List (List Int)) : (dM rs).depth ≤ 64 := by unfold dM; rw [PyData.depth]; have := dep_rows rs; omega
theorem eqv_ints : ∀ ns ms : List Int, PyData.eqvAll (ns.map .int) (ms.map .int) = decide (ns = ms)
  | [], [] => by simp [PyData.eqvAll]
  | [], _ :: _ => by simp [PyData.eqvAll]
  | _ :: _, [] => by simp [PyData.eqvAll]
  | n :: ns, m :: ms => by
    rw [List.map_cons, List.map_cons, PyData.eqvAll, PyData.eqv, eqv_ints ns ms]
    by_cases h : n = m
    · subst h; simp
    · simp [h]
theorem eqv_dI (ns ms : List Int) : PyData.eqv (dI ns) (dI ms) = decide (ns = ms) := by unfold dI; rw [PyData.eqv]; exact eqv_ints ns ms
theorem eqv_rows : ∀ rs ss : List (List Int), PyData.eqvAll (rs.map dI) (ss.map dI) = decide (rs = ss)
  | [], [] => by simp [PyData.eqvAll]
  | [], _ :: _ => by simp [PyData.eqvAll]
  | _ :: _, [] => by simp [PyData.eqvAll]
  | r :: rs, t :: ss => by
    rw [List.map_cons, List.map_cons, PyData.eqvAll, eqv_dI, eqv_rows rs ss]
    by_cases h : r = t
    · subst h; simp
    · simp [h]
theorem eqv_dM (rs ss : List (List Int)) : PyData.eqv (dM rs) (dM ss) = decide (rs = ss) := by unfold dM; rw [PyData.eqv]; exact eqv_rows rs ss
section
variable {K : PySem.W.Frag} {H : Hp}
theorem rep_dI {p : Addr} {ns : List Int} (h : SqL K H p (ns.map V.int)) : Rep K H (dI ns) (.ref p) := rep_list h
/-- a table at p: a list of lists of numbers -/
def Mat (K : PySem.W.Frag) (H : Hp) (p : Addr) (rs : List (List Int)) : Prop := ∃ as : List Addr, SqL K H p (as.map V.ref) ∧ as.length = rs.length ∧ ∀ (i : Nat) (a : Addr) (r : List Int), as[i]? = some a → rs[i]? = some r → SqL K H a (r.map V.int)
theorem Mat.same {H' : Hp} {p : Addr} {rs : List (List Int)} (m : Mat K H p rs) (S : Same H H') : Mat K H' p rs := by
  obtain ⟨as, h1, h2, h3⟩ := m
  exact ⟨as, S.seq h1, h2, fun i a r e1 e2 => S.seq (h3 i a r e1 e2)⟩
theorem rep_rows : ∀ (as : List Addr) (rs : List (List Int)), as.length = rs.length → (∀ (i : Nat) (a : Addr) (r : List Int), as[i]? = some a → rs[i]? = some r → SqL K H a (r.map V.int)) → RepAll K H (rs.map dI) (as.map V.ref)
  | [], [], _, _ => by simp only [List.map_nil, RepAll]
  | [], _ :: _, h, _ => by simp at h
  | _ :: _, [], h, _ => by simp at h
  | a :: as, r :: rs, h, hr => by
    rw [List.map_cons, List.map_cons, RepAll]
    exact ⟨_, _, rfl, rep_dI (hr 0 a r rfl rfl), rep_rows as rs (by simpa using h) fun i a' r' e1 e2 => hr (i + 1) a' r' (by simpa using e1) (by simpa using e2)⟩
theorem rep_dM {p : Addr} {rs : List (List Int)} (m : Mat K H p rs) : Rep K H (dM rs) (.ref p) := by
  obtain ⟨as, h1, h2, h3⟩ := m
  unfold dM
  rw [Rep]
  exact ⟨p, _, rfl, h1, rep_rows as rs h2 h3⟩
end
/-! ### rules in short -/
def rEqLI (K : PySem.W.Frag) (neg : Bool) : R2 := fun x y H Q => ∃ (p q : Addr) (ns ms : List Int), x = .ref p ∧ y = .ref q ∧ SqL K H p (ns.map V.int) ∧ SqL K H q (ms.map V.int) ∧ Q (.bl (if neg then !decide (ns = ms) else decide (ns = ms))) H
def rEqM (K : PySem.W.Frag) (neg : Bool) : R2 := fun x y H Q => ∃ (p q : Addr) (ns ms : List (List Int)), x = .ref p ∧ y = .ref q ∧ Mat K H p ns ∧ Mat K H q ms ∧ Q (.bl (if neg then !decide (ns = ms) else decide (ns = ms))) H
def rEqP (neg : Bool) : R2 := fun x y H Q => ∃ (p q : Addr) (a b c d : Int), x = .ref p ∧ y = .ref q ∧ H p = some (.tup [.int a, .int b]) ∧ H q = some (.tup [.int c, .int d]) ∧ Q (.bl (if neg then !decide (a = c ∧ b = d) else decide (a = c ∧ b = d))) H
section
variable {X : Cx}
theorem op_neM (hu : X.A.units + 64 < cLine) : OpR X (compareOp .NotEq) (rEqM X.K true) := by
  intro pins s σ H x y v u Q I rx ry ⟨p, q, ns, ms, e1, e2, h1, h2, k⟩
  subst e1 e2
  exact op_neD hu pins s σ H _ _ v u Q I rx ry ⟨_, _, rep_dM h1, rep_dM h2, lay_dM _, lay_dM _, dep_dM _, by rw [eqv_dM]; exact k⟩
end
section
variable {X : Cx} (K : PySem.W.Frag)
theorem neM_Q (hu : X.A.units + 64 < cLine) (h : X.K = K := by rfl) : OpR X (compareOp .NotEq) (rEqM K true) := by subst h; exact op_neM hu
end
end L2
/-! LISTS, further (own work): list(range(..)), max(.., default = ..), slices by twos, index -/
namespace L2
open PySem PySem.Spec PyProof.Rows
section
variable {X : Cx}
/-- a range object as a value -/
def tRng1 (ta : TA) : TE := fun σ H Q => ta σ H fun vs H1 => ∃ j : Int, vs = [.int j] ∧ ∀ p H2, New H1 H2 p (.rng 0 j) → Q (.ref p) H2
def tRng2 (ta : TA) : TE := fun σ H Q => ta σ H fun vs H1 => ∃ i j : Int, vs = [.int i, .int j] ∧ ∀ p H2, New H1 H2 p (.rng i j) → Q (.ref p) H2
theorem pe_rng1 {a : Expr} {ta : TA} {p pos : Pos} (hg : Gl X "range") (hm : X.mg "range" = none) (ha : PA X [a] ta) (hs : starEach [a] X.env = [(false, eval a X.env)] := by rfl) : PE X (.Call (.Name "range" p) [a] [] pos) (tRng1 ta) := by
  intro pins s σ H Q I h
  refine Call_ (ld_blt I hg hm boot_range (PyProof.Rows.callWith_type1 (thn (ha pos pins s σ H _ I h) fun us s1 ⟨vs, H1, I1, r1, q1⟩ => ?_) hs rfl))
  obtain ⟨j, e, q⟩ := q1
  subst e
  obtain ⟨u, rfl, t, rfl⟩ := vals1 r1
  refine call_range_1 ⟨.ref s1.heap.objs.size, _, I1.laid (o := .rng 0 j) (fun b ob e => Heap.get?_push_of_some _ e) (Nat.le_refl _) ⟨_, _, _, Heap.get?_push_size _ rfl⟩, rfl, q _ _ (.of (I1.hok.fresh (Nat.le_refl _)))⟩
theorem pe_rng2 {a b : Expr} {ta : TA} {p pos : Pos} (hg : Gl X "range") (hm : X.mg "range" = none) (ha : PA X [a, b] ta) (hs : starEach [a, b] X.env = [(false, eval a X.env), (false, eval b X.env)] := by rfl) (hs2 : starEach [b] X.env = [(false, eval b X.env)] := by rfl) :
    PE X (.Call (.Name "range" p) [a, b] [] pos) (tRng2 ta) := by
  intro pins s σ H Q I h
  refine Call_ (ld_blt I hg hm boot_range (PyProof.Rows.callWith_type1 (thn (ha pos pins s σ H _ I h) fun us s1 ⟨vs, H1, I1, r1, q1⟩ => ?_) (by rw [hs, hs2]) (by rw [hs2]; rfl)))
  obtain ⟨i, j, e, q⟩ := q1
  subst e
  obtain ⟨u, u', rfl, ⟨t, rfl⟩, ⟨t', rfl⟩⟩ := vals2 r1
  refine call_range_2 ⟨.ref s1.heap.objs.size, _, I1.laid (o := .rng i j) (fun b ob e => Heap.get?_push_of_some _ e) (Nat.le_refl _) ⟨_, _, _, Heap.get?_push_size _ rfl⟩, rfl, q _ _ (.of (I1.hok.fresh (Nat.le_refl _)))⟩
def upZ (lo : Int) (n : Nat) : List Int := (List.range n).map fun (k : Nat) => lo + (k : Int)
theorem vals_items {lo : Int} : ∀ {n : Nat} {us : List Value}, us.length = n → (∀ (j : Nat) v, us[j]? = some v → ∃ t, v = Value.int (lo + j) t) → Vals ((upZ lo n).map V.int) us := by
  intro n us hl h
  unfold upZ
  rw [List.map_map]
  induction n generalizing us lo with
  | zero =>
    have : us = [] := List.length_eq_zero_iff.mp hl
    subst this
    exact .nil
  | succ n ih =>
    match us, hl with
    | u :: us, hl =>
      rw [List.range_succ_eq_map, List.map_cons, List.map_map]
      refine .cons ?_ ?_
      · obtain ⟨t, e⟩ := h 0 u rfl
        exact ⟨t, by simpa using e⟩
      · have := ih (us := us) (lo := lo + 1) (by simpa using hl) fun j v e => by
          obtain ⟨t, e'⟩ := h (j + 1) v (by simpa using e)
          exact ⟨t, by rw [e', show lo + ((j + 1 : Nat) : Int) = lo + 1 + (j : Int) by omega]⟩
        have e2 : List.map (V.int ∘ fun (k : Nat) => lo + 1 + (k : Int)) (List.range n) = List.map ((V.int ∘ fun (k : Nat) => lo + (k : Int)) ∘ Nat.succ) (List.range n) := by
          apply List.map_congr_left
          intro k _
          show V.int (lo + 1 + (k : Int)) = V.int (lo + ((k + 1 : Nat) : Int))
          rw [show lo + 1 + (k : Int) = lo + ((k + 1 : Nat) : Int) by omega]
        rw [← e2]
        exact this
/-- list(range(..)) -/
def rListR : List V → Hp → VK → Prop := fun xs H Q => ∃ (p : Addr) (lo hi : Int), xs = [.ref p] ∧ H p = some (.rng lo hi) ∧ -(2 ^ 62) ≤ lo ∧ lo < 2 ^ 62 ∧ -(2 ^ 62) ≤ hi ∧ hi < 2 ^ 62 ∧ (hi - lo).toNat ≤ 16777216 ∧ ∀ l H', New H H' l (.lst ((upZ lo (hi - lo).toNat).map V.int)) → Q (.ref l) H'
theorem call_listR (hc : X.calm = true) : CallR X (.type "list") rListR := by
  intro pins s σ H xs us Q I r h
  obtain ⟨p, lo, hi, rfl, hp, h1, h2, h3, h4, hz, q⟩ := h
  obtain ⟨u, rfl, rx⟩ := vals1 r
  cases rx
  obtain ⟨t, u', v, e⟩ := I.hok p _ hp
  have en : Builtin.Range.rangeSize lo hi 1 = ((hi - lo).toNat : Nat) := by rw [rangeSize_one]; split <;> omega
  refine call_list_range (I.ok.hd hc) (show IsRange s.heap p lo hi 1 t u' v from e) (small_one h1 h2 h3 h4) en (by omega) fun h' tk acc c' kp ea it => ?_
  obtain ⟨i1, i2⟩ := it
  have ez : acc = acc.toList.toArray := by simp
  refine ⟨.ref s.heap.objs.size, _, I.laid (o := .lst ((upZ lo (hi - lo).toNat).map V.int)) kp (Nat.le_refl _) ⟨?_, acc.toList, c', ?_, by rw [ea]⟩, rfl, q _ _ (.of (I.hok.fresh (Nat.le_refl _)))⟩
  · unfold upZ
    rw [List.length_map, List.length_map, List.length_range]
    have : sizeLine = 16777216 := sizeLine_eq
    omega
  · refine vals_items (by simpa using i1) fun j v e => ?_
    obtain ⟨t, e'⟩ := i2 j v (by simpa using e)
    exact ⟨t, by rw [e', Int.mul_one]⟩
end

/-! ### max(xs, default = d) of a list that is not empty -/
section
variable {prog : Program} {w : World} {A : Around} {R : Result → Shared → Prop} {I : Addr} {fp wr : List Addr} {n : Nat} {P : Nat → Value → Prop} {St : Nat → Heap → Prop} {d : Value}
theorem maxd_loop (W : Walks prog w A.in1 I fp wr n P St) (bt : Nat → Nat → Bool) (cmp : CmpOf prog w A.in1 .Gt P bt) (S : Addr) (nf : S ∉ fp) :
    ∀ (k j : Nat) (s : Shared) (vb : Value) (c : Nat), n - (j + 1) = k → j + 1 ≤ n → St (j + 1) s.heap → P (argBest bt j) vb → s.heap.get? S = some { cls := .type "list", dict := none, data := .seq #[vb, vb] c, slots := #[] } →
    (∀ v h' tk, P (argBest bt (n - 1)) v → (∀ b o, b ∉ wr → b ≠ S → s.heap.get? b = some o → h'.get? b = some o) → R (.ok (.ret v)) { s with heap := h', toks := tk }) →
    codeAny (model prog w) A (.builtin "max.loop" ⟨[.ref I, .none, .ref S], [("default", d)]⟩) R s := by
  have nw : S ∉ wr := fun h => nf (W.sub _ h)
  have nm : (toString "max" ++ toString ".loop" : String) = "max.loop" := by decide
  intro k
  induction k with
  | zero =>
    intro j s vb c hk hj hst hPb hS hR
    have hin : j + 1 = n := by omega
    refine codeAny_builtin F.entry_max_loop ?_
    rw [Around.under_plainId F.plain_max_loop _]
    show wpAny _ A.in1 (seqItems? (.ref S) >>= _) (fun fin s' => _) _ s
    refine wpAny_bind (wpAny_seqItems hS rfl ?_)
    show wpAny _ A.in1 (tryCatch (pyNext (.ref I)) _ >>= _) (fun fin s' => _) _ s
    refine wpAny_bind (wpAny_tryCatch (W.done s _ _ (hin ▸ hst) fun h' tk hk' => ?_))
    have hS' := hk' S _ nw hS
    show wpAny _ A.in1 (updateSeq S (fun _ => #[]) >>= _) (fun fin s' => _) _ _
    refine wpAny_bind (wpAny_updateSeq hS' rfl (wpAny_bind (wpAny_letGo (wpAny_pure ?_))))
    exact hR vb _ tk (by rw [← hin]; exact hPb) fun b o hbw hbS e => (Heap.get?_update_other _ _ (Ne.symm hbS)).trans (hk' b o hbw e)
  | succ k ih =>
    intro j s vb c hk hj hst hPb hS hR
    have hlt : j + 1 < n := by omega
    refine codeAny_builtin F.entry_max_loop ?_
    rw [Around.under_plainId F.plain_max_loop _]
    show wpAny _ A.in1 (seqItems? (.ref S) >>= _) (fun fin s' => _) _ s
    refine wpAny_bind (wpAny_seqItems hS rfl ?_)
    show wpAny _ A.in1 (tryCatch (pyNext (.ref I)) _ >>= _) (fun fin s' => _) _ s
    refine wpAny_bind (wpAny_tryCatch (W.item (j + 1) s _ _ hlt hst fun v h' tk hP hst' hk' => ?_))
    have hS' := hk' S _ nw hS
    show wpAny _ A.in1 (tryCatch (holding [v, v] (richCompare .Gt v vb >>= _)) _ >>= _) (fun fin s' => _) _ _
    refine wpAny_bind (wpAny_tryCatch (wpAny_holding (wpAny_bind (cmp (j + 1) (argBest bt j) v vb _ _ _ hP hPb ?_))))
    refine wpAny_bind (wpAny_holding (wpAny_truthy_bool (wpAny_bind (wpAny_letGo (wpAny_pure ?_)))))
    cases hb : bt (j + 1) (argBest bt j) with
    | true =>
      simp only [if_true]
      refine wpAny_bind (wpAny_updateSeq hS' rfl (wpAny_bind (wpAny_letGo ?_)))
      rw [nm]
      refine wpAny_pure ⟨plainId_quiet F.plain_max_loop _, ih (j + 1) _ v _ (by omega) hlt (W.frame _ _ _ hst' fun b hbf o e => ?_) (by simp only [argBest, hb, if_true]; exact hP) (Heap.get?_update_self _ hS' rfl) fun v' h2 tk2 hP' hk2 => ?_⟩
      · exact (Heap.get?_update_other _ _ (fun h : S = b => nf (h ▸ hbf))).trans e
      · exact hR v' h2 tk2 hP' fun b o hbw hbS e => hk2 b o hbw hbS ((Heap.get?_update_other _ _ (Ne.symm hbS)).trans (hk' b o hbw e))
    | false =>
      simp only [Bool.false_eq_true, if_false]
      refine wpAny_bind (wpAny_letGo ?_)
      rw [nm]
      refine wpAny_pure ⟨plainId_quiet F.plain_max_loop _, ih (j + 1) _ vb c (by omega) hlt hst' (by simp only [argBest, hb, Bool.false_eq_true, if_false]; exact hPb) hS' fun v' h2 tk2 hP' hk2 => ?_⟩
      exact hR v' h2 tk2 hP' fun b o hbw hbS e => hk2 b o hbw hbS (hk' b o hbw e)
theorem maxd_first (W : Walks prog w A.in1 I fp wr n P St) (bt : Nat → Nat → Bool) (cmp : CmpOf prog w A.in1 .Gt P bt) (S : Addr) (nf : S ∉ fp) (hn : 0 < n) {s : Shared} {c : Nat} (hst : St 0 s.heap)
    (hS : s.heap.get? S = some { cls := .type "list", dict := none, data := .seq #[] c, slots := #[] })
    (hR : ∀ v h' tk, P (argBest bt (n - 1)) v → (∀ b o, b ∉ wr → b ≠ S → s.heap.get? b = some o → h'.get? b = some o) → R (.ok (.ret v)) { s with heap := h', toks := tk }) :
    codeAny (model prog w) A (.builtin "max.loop" ⟨[.ref I, .none, .ref S], [("default", d)]⟩) R s := by
  have nw : S ∉ wr := fun h => nf (W.sub _ h)
  have nm : (toString "max" ++ toString ".loop" : String) = "max.loop" := by decide
  refine codeAny_builtin F.entry_max_loop ?_
  rw [Around.under_plainId F.plain_max_loop _]
  show wpAny _ A.in1 (seqItems? (.ref S) >>= _) (fun fin s' => _) _ s
  refine wpAny_bind (wpAny_seqItems hS rfl ?_)
  show wpAny _ A.in1 (tryCatch (pyNext (.ref I)) _ >>= _) (fun fin s' => _) _ s
  refine wpAny_bind (wpAny_tryCatch (W.item 0 s _ _ hn hst fun v h' tk hP hst' hk' => ?_))
  have hS' := hk' S _ nw hS
  show wpAny _ A.in1 (updateSeq S (fun _ => #[v, v]) >>= _) (fun fin s' => _) _ _
  refine wpAny_bind (wpAny_updateSeq hS' rfl ?_)
  rw [nm]
  refine wpAny_pure ⟨plainId_quiet F.plain_max_loop _, maxd_loop W bt cmp S nf _ 0 _ v _ rfl hn (W.frame _ _ _ hst' fun b hbf o e => ?_) hP (Heap.get?_update_self _ hS' rfl) fun v' h2 tk2 hP' hk2 => ?_⟩
  · exact (Heap.get?_update_other _ _ (fun h : S = b => nf (h ▸ hbf))).trans e
  · exact hR v' h2 tk2 hP' fun b o hbw hbS e => hk2 b o hbw hbS ((Heap.get?_update_other _ _ (Ne.symm hbS)).trans (hk' b o hbw e))
end
section
variable {prog : Program} {w : World} {A : Around} {E : Value → Shared → Prop} {s : Shared}
theorem tree_kw {id : String} {b : Builtin} {args : List Value} {kw : List (Str × Value)} {Q : Value → Shared → Prop} (hk : builtinKind id = none) (hp : plainId id = true) (hb : entryFor table id = some b) (ha : argsOk id ⟨args, kw⟩)
    (hc : wpAny (model prog w) A.in1 (b ⟨args, kw⟩) (fun fin s' => match fin with
      | .done f => (match (Except.ok f : Result) with | .ok (.ret v) => Q v s' | .ok _ => False | .error e => E e s')
      | .again c' => c'.quiet = true ∧ codeAny (model prog w) A c' (fun r s' => match r with | .ok (.ret v) => Q v s' | .ok _ => False | .error e => E e s') s') E s) : wpAny (model prog w) A (call (.builtin id) args kw) Q E s := by
  refine wpAny_call (codeAny_call_builtin hp hb ?_)
  simp only [checkBuiltinCall, hk]
  cases hsig : Manifest.signature? id with
  | none => exact wpAny_pure hc
  | some sig =>
    have ha' : Bind.checkArgs id sig ⟨args, kw⟩ = pure () := by simpa only [argsOk, hsig] using ha
    simp only [ha']
    exact wpAny_pure hc
theorem args_maxd (a b : Value) : argsOk "max" ⟨[a], [("default", b)]⟩ := by unfold argsOk; kernel_rfl
theorem call_maxd {x d : Value} {Q : Value → Shared → Prop}
    (h : wpAny (model prog w) A.in1 (pyIter x) (fun it s2 => ∃ I fp wr n P St bt, it = .ref I ∧ Walks prog w A.in1 I fp wr n P St ∧ St 0 s2.heap ∧ (∀ b ∈ fp, b < s2.heap.objs.size) ∧ 0 < n ∧ CmpOf prog w A.in1 .Gt P bt ∧
      ∀ v h' tk, P (argBest bt (n - 1)) v → (∀ b o, b ∉ wr → s2.heap.get? b = some o → h'.get? b = some o) → Q v { s2 with heap := h', toks := tk }) E s) :
    wpAny (model prog w) A (call (.builtin "max") [x] [("default", d)]) Q E s := by
  have nm : (toString "max" ++ toString ".loop" : String) = "max.loop" := by decide
  refine tree_kw F.kind_max F.plain_max F.entry_max (args_maxd _ _) ?_
  show wpAny _ A.in1 (Builtin.Builtins.bindParams "max" ["key", "default"] 0 ⟨[], [("default", d)]⟩ >>= _) (fun fin s' => _) _ s
  refine wpAny_bind (wpAny_of_eq (show Builtin.Builtins.bindParams "max" ["key", "default"] 0 ⟨[], [("default", d)]⟩ = pure [none, some d] from rfl) ?_)
  refine wpAny_bind (wpAny_pure (wpAny_bind (thn h fun it s2 h2 => ?_)))
  obtain ⟨I, fp, wr, n, P, St, bt, rfl, W, hst, hfp, hn, cmp, hQ⟩ := h2
  refine wpAny_bind (wpAny_newObj_type ?_)
  have nf : s2.heap.objs.size ∉ fp := fun hm => Nat.lt_irrefl _ (hfp _ hm)
  rw [nm]
  refine wpAny_pure ⟨plainId_quiet F.plain_max_loop _, maxd_first W bt cmp s2.heap.objs.size nf hn (W.frame _ _ _ hst fun b _ o e => Heap.get?_push_of_some _ e) (Heap.get?_push_size _ rfl) fun v h' tk hP hk => ?_⟩
  exact hQ v h' tk hP fun b o hbw e => hk b o hbw (Nat.ne_of_lt (Heap.lt_size e)) (Heap.get?_push_of_some _ e)
end
/-! in the layer -/
def tMaxd (K : PySem.W.Frag) (ta : TA) (td : TE) : TE := fun σ H Q => ta σ H fun vs H1 => td σ H1 fun _ H2 => ∃ (p : Addr) (ns : List Int), vs = [.ref p] ∧ SqL K H2 p (ns.map V.int) ∧ 0 < ns.length ∧ ∀ M, M ∈ ns → (∀ a, a ∈ ns → a ≤ M) → Q (.int M) H2
section
variable {X : Cx}
theorem pe_maxd (K : PySem.W.Frag) {e d : Expr} {ta : TA} {td : TE} {p kp pos : Pos} (hc : X.calm = true) (hg : Gl X "max") (hm : X.mg "max" = none) (ha : PA X [e] ta) (hd : PE X d td)
    (hb : backTo pos (starEach [e] X.env) = (false, eval e X.env) :: backTo pos (starEach [] X.env) := by rfl) (hp : (backTo pos (starEach [e] X.env)).any (·.1) = false := by rfl) (h : X.K = K := by rfl) :
    PE X (.Call (.Name "max" p) [e] [⟨some "default", d, kp⟩] pos) (tMaxd K ta td) := by
  subst h
  intro pins s σ H Q I h
  refine wpAny_Call_Name_kw (ld_blt I hg hm boot_max ?_)
  refine callWith_kw ?_ hb hp rfl rfl
  refine thn (ha pos pins s σ H _ I h) fun us s1 ⟨vs, H1, I1, r1, q1⟩ => kws_cons ?_
  refine thn (hd pins s1 σ H1 _ I1 q1) fun dv s2 ⟨y, H2, I2, r2, q2⟩ => kws_nil ?_
  obtain ⟨a, ns, rfl, hq, hn, q⟩ := q2
  obtain ⟨u, rfl, rx⟩ := vals1 r1
  cases rx
  obtain ⟨its, rv, pl, _⟩ := I2.list hq
  obtain ⟨xs, e1, e2⟩ := ints_of rv
  have hl := pl.isList
  rw [e1] at hl
  have hsz : 0 < xs.size := by rw [e2, List.length_map, Array.length_toList] at hn; exact hn
  show wpAny _ _ (call (.builtin "max") [.ref a] [("default", dv)]) _ _ s2
  refine call_maxd (iter_intList hl fun s3 e st hfp hlI => ?_)
  subst e
  refine ⟨_, _, _, _, _, _, _, rfl, Walks.list (A := X.A.in1) (I2.ok.hd hc) _ a hlI (intItems xs), st, hfp, by simpa [intItems] using hsz, CmpOf.ints_gt (numAt xs) (fun _ _ => intItems_at), fun v h' tk hP hk => ?_⟩
  have hP' : (intItems xs)[argBest (fun i j => decide (numAt xs i > numAt xs j)) (xs.size - 1)]? = some v := by simpa [intItems] using hP
  obtain ⟨t, rfl⟩ := intItems_at hP'
  obtain ⟨h1, h2⟩ := argBest_gt (numAt xs) (xs.size - 1)
  refine ⟨.int _, H2, I2.kept (old_kept hk), ⟨t, rfl⟩, q _ ?_ fun b hb' => ?_⟩
  · rw [e2, numAt_eq]; exact getD_mem (by rw [List.length_map, Array.length_toList]; omega)
  · rw [e2] at hb'
    obtain ⟨j, hj, rfl⟩ := mem_getD hb'
    rw [List.length_map, Array.length_toList] at hj
    rw [← numAt_eq]; exact h2 j (by omega)
/-! xs[lo::2] -/
def twoV (xs : List V) (lo : Option Int) : List V := (sliceRange (sliceBounds lo none (some 2) xs.length).1 (sliceBounds lo none (some 2) xs.length).2.1 2).filterMap (xs[·]?)
def tSl2 (K : PySem.W.Frag) (te : TE) (tl : TO) : TE := fun σ H Q => te σ H fun x H1 => tl σ H1 fun l H2 => ∃ (p : Addr) (xs : List V), x = .ref p ∧ SqL K H2 p xs ∧ ∀ q H', New H2 H' q (.lst (twoV xs l)) → Q (.ref q) H'
theorem vals_pick {xs : List V} {us : List Value} (r : Vals xs us) : ∀ ix : List Nat, Vals (ix.filterMap (xs[·]?)) (ix.filterMap (us[·]?))
  | [] => .nil
  | i :: ix => by
    have ih := vals_pick r ix
    cases h : xs[i]? with
    | none =>
      have := r.none_of h
      rw [List.filterMap_cons_none h, List.filterMap_cons_none this]
      exact ih
    | some x =>
      obtain ⟨u, hu, ru⟩ := r.get h
      rw [List.filterMap_cons_some h, List.filterMap_cons_some hu]
      exact .cons ru ih
theorem two_len (xs : List V) (lo : Option Int) : (twoV xs lo).length ≤ xs.length := by
  unfold twoV
  refine Nat.le_trans (List.length_filterMap_le _ _) ?_
  refine sliceRange_length_le _ _ _ _ (fun _ => ?_) (fun h => absurd (by decide) h)
  cases lo with
  | none => simp [sliceBounds]
  | some i =>
    simp only [sliceBounds, Option.getD_some, show (2 : Int) > 0 by decide, if_true]
    refine ⟨?_, by omega⟩
    split <;> omega
theorem pe_slice2 (K : PySem.W.Frag) {e : Expr} {te : TE} {lo : Option Expr} {tl : TO} {c : Nat} {pos p2 p3 : Pos} (he : PE X e te) (hl : PO X lo tl) (h : X.K = K := by rfl) :
    PE X (.Subscript e (.Slice lo none (some (.Constant (.int 2) c p3)) p2) pos) (tSl2 K te tl) := by
  subst h
  intro pins s σ H Q I h
  refine Subscript_ (thn (he pins s σ H _ I h) fun v s1 ⟨x, H1, I1, r1, q1⟩ => ?_)
  refine wpAny_Slice (thn (hl pins s1 σ H1 _ I1 q1) fun vl s2 ⟨l, H2, I2, pl, a, xs, ex, hq, q⟩ => ?_)
  subst ex
  cases r1
  rw [evalPart_none]
  refine wpAny_pure ?_
  rw [evalPart_some]
  refine wpAny_Constant_int ?_
  have I3 := I2.tok (s2.toks + 1)
  have I4 : Inv X pins σ H2 { s2 with heap := s2.heap.push { cls := .type "slice", data := .fields #[vl, .none, .int 2 s2.toks] }, toks := s2.toks + 1 } := I2.kept fun b ob q => Heap.get?_push_of_some _ q
  obtain ⟨its, r, ht, hz⟩ := I4.list hq
  have hlen := r.length
  refine tail_any (ops := [.ref a, .ref s2.heap.objs.size]) ht.isList.typeIs slot_list_getitem.lookup ?_ (by with_unfolding_all rfl)
  refine wpAny_getItem_list_slice ht.isList (Heap.IsSliceOf.new ..) pl .none (.int 2 _) (by decide) ?_ (by rw [List.size_toArray] <;> omega)
  refine ⟨.ref _, _, I4.laid (t' := _) (o := .lst (twoV xs l)) (fun b ob q => Heap.get?_push_of_some _ q) (Nat.le_refl _) ?_, rfl, q _ _ (.of (I4.hok.fresh (Nat.le_refl _)))⟩
  refine ⟨Nat.le_trans (two_len xs l) hz, ((sliceRange (sliceBounds l none (some 2) xs.length).1 (sliceBounds l none (some 2) xs.length).2.1 2).filterMap (its[·]?)), 0, vals_pick r _, ?_⟩
  rw [Heap.get?_push_size _ rfl]
  unfold slicePick
  have e3 : (sliceBounds l none (some 2) its.toArray.size).2.2 = 2 := rfl
  rw [e3, List.size_toArray, ← hlen]
  simp
theorem mem_twoV {xs : List V} {lo : Nat} {x : V} (h1 : lo ≤ 1) : x ∈ twoV xs (if lo = 0 then none else some (lo : Int)) ↔ ∃ k, xs[lo + 2 * k]? = some x := by
  have key : ∀ (a : Nat), a ≤ xs.length → (sliceRange (a : Int) xs.length 2) = (List.range ((xs.length - a + 1) / 2)).map fun k => a + 2 * k := fun a ha => by
    unfold sliceRange
    by_cases hlt : (a : Int) < xs.length
    · simp only [show (2 : Int) > 0 by decide, if_true, hlt]
      have : (((xs.length : Int) - a + 2 - 1) / 2).toNat = (xs.length - a + 1) / 2 := by omega
      rw [this]
      apply List.map_congr_left
      intro k _
      omega
    · have e0 : (xs.length - a + 1) / 2 = 0 := by omega
      simp [hlt, e0]
  have b : ∃ a : Nat, a ≤ xs.length ∧ (sliceBounds (if lo = 0 then none else some (lo : Int)) none (some 2) xs.length).1 = (a : Int) ∧ (a = lo ∨ (a = 0 ∧ xs.length = 0)) := by
    match lo, h1 with
    | 0, _ => exact ⟨0, Nat.zero_le _, rfl, .inl rfl⟩
    | 1, _ =>
      rw [if_neg (by decide)]
      by_cases hz : xs.length = 0
      · refine ⟨0, Nat.zero_le _, ?_, .inr ⟨rfl, hz⟩⟩
        rw [hz]; rfl
      · refine ⟨1, by omega, ?_, .inl rfl⟩
        simp only [sliceBounds, Option.getD_some, show (2 : Int) > 0 by decide, if_true]
        split <;> omega
  obtain ⟨a, ha, eb, hor⟩ := b
  have eu : (sliceBounds (if lo = 0 then none else some (lo : Int)) none (some 2) xs.length).2.1 = xs.length := by
    simp [sliceBounds]
  unfold twoV
  rw [eb, eu, key a ha, List.mem_filterMap]
  constructor
  · rintro ⟨i, hi, e⟩
    obtain ⟨k, hk, rfl⟩ := List.mem_map.mp hi
    rcases hor with rfl | ⟨_, z⟩
    · exact ⟨k, e⟩
    · rw [List.length_eq_zero_iff.mp z] at e; simp at e
  · rintro ⟨k, e⟩
    have hlt := (List.getElem?_eq_some_iff.mp e).1
    rcases hor with rfl | ⟨_, z⟩
    · exact ⟨a + 2 * k, List.mem_map.mpr ⟨k, List.mem_range.mpr (by omega), rfl⟩, e⟩
    · omega
/-! xs.index(y) -/
def rIndex (K : PySem.W.Frag) : V → List V → Hp → VK → Prop := fun x vs H Q => ∃ l xs y j, x = .ref l ∧ vs = [y] ∧ SqL K H l xs ∧ flatV y = true ∧ xs.all flatV = true ∧ (∃ z, xs[j]? = some z ∧ eqV z y = true) ∧ (∀ m z, m < j → xs[m]? = some z → eqV z y = false) ∧ Q (.int (j : Nat)) H
theorem mt_index : MtR X "list.index" (rIndex X.K) := by
  intro pins s σ H x vs v us Q I rx rv h
  obtain ⟨l, xs, y, j, rfl, rfl, hq, fy, fs, ⟨z, hz1, hz2⟩, hm, q⟩ := h
  cases rx
  obtain ⟨u, rfl, ru⟩ := vals1 rv
  obtain ⟨its, r, ⟨o, n, ho, hc, hdd, hd⟩, hz⟩ := I.list hq
  obtain ⟨cls, dd, data, sl⟩ := o
  simp only at hc hd hdd
  subst hc hd hdd
  have lx := r.length
  have hn := line63
  have hjx : j < xs.length := (List.getElem?_eq_some_iff.mp hz1).1
  have hj : j < its.toArray.size := by rw [List.size_toArray]; omega
  have all : ∀ (m : Nat) (hm' : m < its.toArray.size), ∃ z, xs[m]? = some z ∧ eqU y its.toArray[m] = eqV z y := fun m hm' => by
    have hmx : m < xs.length := by rw [List.size_toArray] at hm'; omega
    obtain ⟨w', e1, e2⟩ := r.get (List.getElem?_eq_getElem hmx)
    refine ⟨xs[m], List.getElem?_eq_getElem hmx, ?_⟩
    have : its.toArray[m] = w' := by
      rw [List.getElem_toArray]
      exact (List.getElem?_eq_some_iff.mp e1).2
    rw [this]
    exact eqU_of e2 (List.all_eq_true.mp fs _ (List.getElem_mem hmx))
  refine call_meets F.slot_list_index ⟨_, ho, rfl⟩ F.entry_list_index (F.args_list_index_2 _ _) (SeqAt.list_indexAt l its.toArray n none sl u (eqU y) j hj (by omega) ?_ fun m hm' hlt => ?_) ⟨ho, fun w' hw => mem_eqAt ru fy r fs w' (by simpa using hw), ?_⟩
  · obtain ⟨z', e1, e2⟩ := all j hj
    rw [e2]
    rw [hz1] at e1
    cases e1
    exact hz2
  · obtain ⟨z', e1, e2⟩ := all m hm'
    rw [e2]
    exact hm m z' hlt e1
  · exact ⟨.int (j : Nat), H, I.tok _, ⟨_, rfl⟩, q⟩
theorem pe_index (K : PySem.W.Frag) {o e : Expr} {to : TE} {t : TA} {apos cpos : Pos} (ho : PE X o to) (ha : PA X [e] t)
    (hbase : attributeBase o "index" X.env (eval o X.env) = eval o X.env := by rfl)
    (hfew : ((backTo cpos (starEach [e] X.env)).all (fun x => !x.1) && (backToKw cpos (keywordEach [] X.env)).all (fun x => x.1.isSome)
      && decide ([e].length + ([] : List Keyword).length + (if ([] : List Keyword).isEmpty then 0 else 1) < 30)) = true := by rfl)
    (hline : (apos.endLine == cpos.line) = true := by rfl) (hs : starEach [e] X.env = (false, eval e X.env) :: starEach [] X.env := by rfl) (hplain : (backTo cpos (starEach [] X.env)).any (·.1) = false := by rfl) (h : X.K = K := by rfl) :
    PE X (.Call (.Attribute o "index" apos) [e] [] cpos) (tBM K "list" (rIndex K) to t) := by
  subst h
  exact pe_bm PySem.F.plainAttrs_list PySem.F.slot_list_index PySem.F.type_list_index mt_index ho ha hbase hfew hline hs hplain
end
end L2
namespace L2
open PySem PySem.Spec PyProof.Rows
def rSlN (K : PySem.W.Frag) : V → Option Int → Option Int → Hp → VK → Prop := fun x lo hi H Q => ∃ a xs, x = .ref a ∧ SqL K H a xs ∧ ∀ p H', New H H' p (.lst (cutV xs lo hi)) → Q (.ref p) H'
theorem sl_Q {X : Cx} (K : PySem.W.Frag) (h : X.K = K := by rfl) : SlR X (rSlN K) := by
  subst h
  intro pins s σ H x v vl vu lo hi sl Q I rx hs pl pu ⟨a, xs, e, hx, q⟩
  exact sl_list pins s σ H x v vl vu lo hi sl Q I rx hs pl pu ⟨a, xs, e, hx, fun p hp => q p _ (.of hp)⟩
end L2
namespace SW
/-! sums of whole numbers over the first n -/
def sumZ : Nat → (Nat → Int) → Int
  | 0, _ => 0
  | n + 1, f => sumZ n f + f n
theorem sumZ_congr {f g : Nat → Int} : ∀ {n : Nat}, (∀ i, i < n → f i = g i) → sumZ n f = sumZ n g
  | 0, _ => rfl
  | n + 1, h => by unfold sumZ; rw [sumZ_congr fun i hi => h i (by omega), h n (by omega)]
theorem sumZ_add (f g : Nat → Int) : ∀ n, sumZ n (fun i => f i + g i) = sumZ n f + sumZ n g
  | 0 => rfl
  | n + 1 => by unfold sumZ; rw [sumZ_add f g n]; dsimp only; omega
theorem sumZ_sub (f g : Nat → Int) : ∀ n, sumZ n (fun i => f i - g i) = sumZ n f - sumZ n g
  | 0 => rfl
  | n + 1 => by unfold sumZ; rw [sumZ_sub f g n]; dsimp only; omega
theorem sumZ_mul (w : Int) (f : Nat → Int) : ∀ n, sumZ n (fun i => f i * w) = sumZ n f * w
  | 0 => by simp [sumZ]
  | n + 1 => by unfold sumZ; rw [sumZ_mul w f n, Int.add_mul]
theorem sumZ_zero : ∀ n, sumZ n (fun _ => 0) = 0
  | 0 => rfl
  | n + 1 => by unfold sumZ; rw [sumZ_zero n]; rfl
theorem sumZ_swap (f : Nat → Nat → Int) (m : Nat) : ∀ n, sumZ n (fun i => sumZ m (f i)) = sumZ m (fun j => sumZ n (fun i => f i j))
  | 0 => by
    show (0 : Int) = _
    exact (sumZ_zero m).symm
  | n + 1 => by
    have : sumZ m (fun j => sumZ (n + 1) fun i => f i j) = sumZ m (fun j => sumZ n (fun i => f i j) + f n j) := rfl
    rw [this, sumZ_add, ← sumZ_swap f m n]
    rfl
/-- one item changed -/
theorem sumZ_upd {f g : Nat → Int} {k : Nat} (h : ∀ i, i ≠ k → g i = f i) : ∀ n, sumZ n g = sumZ n f + (if k < n then g k - f k else 0)
  | 0 => by simp [sumZ]
  | n + 1 => by
    unfold sumZ
    rw [sumZ_upd h n]
    by_cases hk : k < n
    · rw [if_pos hk, if_pos (by omega), h n (by omega)]; omega
    · by_cases hn : k = n
      · subst hn; rw [if_neg (by omega), if_pos (by omega)]; omega
      · rw [if_neg hk, if_neg (by omega), h n (by omega)]; omega
theorem sumZ_dvd {w : Int} {f : Nat → Int} {k : Nat} : ∀ {n : Nat}, k < n → (∀ i, i < n → i ≠ k → w ∣ f i) → w ∣ sumZ n f → w ∣ f k := by
  intro n hk h hs
  have : sumZ n f = sumZ n (fun i => if i = k then 0 else f i) + (if k < n then f k - (if k = k then 0 else f k) else 0) := sumZ_upd (f := fun i => if i = k then 0 else f i) (g := f) (fun i hi => by simp [hi]) n
  rw [if_pos hk, if_pos rfl, Int.sub_zero] at this
  have d : w ∣ sumZ n (fun i => if i = k then 0 else f i) := by
    have : ∀ m, m ≤ n → w ∣ sumZ m (fun i => if i = k then 0 else f i) := by
      intro m
      induction m with
      | zero => intro _; exact Int.dvd_zero _
      | succ m ih =>
        intro hm
        unfold sumZ
        refine Int.dvd_add (ih (by omega)) ?_
        by_cases e : m = k
        · simp [e]
        · simp only [e, if_false]; exact h m (by omega) e
    exact this n (Nat.le_refl _)
  rw [this] at hs
  exact (Int.dvd_add_right d).mp hs
theorem sumZ_le {f g : Nat → Int} : ∀ {n : Nat}, (∀ i, i < n → f i ≤ g i) → sumZ n f ≤ sumZ n g
  | 0, _ => Int.le_refl _
  | n + 1, h => by
    unfold sumZ
    have h1 := sumZ_le (n := n) fun i hi => h i (by omega)
    have h2 := h n (by omega)
    omega
theorem sumZ_lt {f g : Nat → Int} {k : Nat} : ∀ {n : Nat}, (∀ i, i < n → f i ≤ g i) → k < n → f k < g k → sumZ n f < sumZ n g
  | 0, _, hk, _ => absurd hk (Nat.not_lt_zero _)
  | n + 1, h, hk, hl => by
    unfold sumZ
    have h2 := h n (by omega)
    by_cases e : k = n
    · subst e
      have h1 := sumZ_le (n := k) fun i hi => h i (by omega)
      omega
    · have h1 := sumZ_lt (n := n) (fun i hi => h i (by omega)) (by omega) hl
      omega
/-! ### tables, their lines, their nodes: rows below h, columns behind -/
def upd2 (P : Nat → Nat → Int) (i j : Nat) (v : Int) : Nat → Nat → Int := fun a b => if a = i ∧ b = j then v else P a b
theorem upd2_same (P : Nat → Nat → Int) (i j : Nat) (v : Int) : upd2 P i j v i j = v := by unfold upd2; rw [if_pos ⟨rfl, rfl⟩]
theorem upd2_ne {P : Nat → Nat → Int} {i j a b : Nat} {v : Int} (h : ¬ (a = i ∧ b = j)) : upd2 P i j v a b = P a b := by unfold upd2; rw [if_neg h]
/-- the line's sum at a node -/
def ls (h m : Nat) (P : Nat → Nat → Int) (x : Nat) : Int := if x < h then sumZ m (P x) else sumZ h fun i => P i (x - h)
/-- the cell between two nodes -/
def cr (h x y : Nat) : Nat := if x < h then x else y
def cc (h x y : Nat) : Nat := if x < h then y - h else x - h
def cv (h : Nat) (P : Nat → Nat → Int) (x y : Nat) : Int := P (cr h x y) (cc h x y)
def opp (h m x y : Nat) : Prop := (x < h ∧ h ≤ y ∧ y < h + m) ∨ (h ≤ x ∧ x < h + m ∧ y < h)
def fr (w v : Int) : Prop := 0 < v ∧ v < w
theorem opp_cell {h m x y : Nat} (o : opp h m x y) : cr h x y < h ∧ cc h x y < m ∧ ((x = cr h x y ∧ y = h + cc h x y) ∨ (y = cr h x y ∧ x = h + cc h x y)) := by
  unfold cr cc
  rcases o with ⟨h1, h2, h3⟩ | ⟨h1, h2, h3⟩
  · rw [if_pos h1, if_pos h1]; exact ⟨h1, by omega, .inl ⟨rfl, by omega⟩⟩
  · rw [if_neg (by omega), if_neg (by omega)]; exact ⟨h3, by omega, .inr ⟨rfl, by omega⟩⟩
theorem ls_upd {h m i j x : Nat} {P : Nat → Nat → Int} {v : Int} (hi : i < h) (hj : j < m) (hx : x < h + m) : ls h m (upd2 P i j v) x = ls h m P x + (v - P i j) * ((if i = x then 1 else 0) + (if h + j = x then 1 else 0)) := by
  unfold ls
  by_cases hxh : x < h
  · rw [if_pos hxh, if_pos hxh, if_neg (by omega : ¬ h + j = x), Int.add_zero]
    by_cases e : i = x
    · subst e
      rw [if_pos rfl, Int.mul_one, sumZ_upd (f := P i) (g := upd2 P i j v i) (k := j) (fun b hb => upd2_ne (by omega)) m, if_pos hj, upd2_same]
    · rw [if_neg e, Int.mul_zero, Int.add_zero]
      exact sumZ_congr fun b _ => upd2_ne (by omega)
  · rw [if_neg hxh, if_neg hxh, if_neg (by omega : ¬ i = x), Int.zero_add]
    by_cases e : h + j = x
    · have ej : x - h = j := by omega
      rw [if_pos e, Int.mul_one, ej, sumZ_upd (f := fun a => P a j) (g := fun a => upd2 P i j v a j) (k := i) (fun b hb => upd2_ne (by omega)) h, if_pos hi, upd2_same]
    · rw [if_neg e, Int.mul_zero, Int.add_zero]
      exact sumZ_congr fun b _ => upd2_ne (by omega)
/-- where one part of a whole line is still to be rounded, there is another -/
theorem second {h m x y : Nat} {w : Int} {P : Nat → Nat → Int} (bd : ∀ i j, i < h → j < m → 0 ≤ P i j ∧ P i j ≤ w) (wh : w ∣ ls h m P x) (o : opp h m x y) (f : fr w (cv h P x y)) : ∃ z, opp h m x z ∧ fr w (cv h P x z) ∧ z ≠ y := by
  refine Classical.byContradiction fun no => ?_
  have none : ∀ z, opp h m x z → z ≠ y → w ∣ cv h P x z := fun z oz nz => by
    obtain ⟨c1, c2, _⟩ := opp_cell oz
    have b := bd _ _ c1 c2
    have nf : ¬ fr w (cv h P x z) := fun q => no ⟨z, oz, q, nz⟩
    unfold fr cv at nf
    unfold cv
    rcases Int.lt_or_le 0 (P (cr h x z) (cc h x z)) with q | q
    · have : P (cr h x z) (cc h x z) = w := by omega
      rw [this]; exact Int.dvd_refl _
    · have : P (cr h x z) (cc h x z) = 0 := by omega
      rw [this]; exact Int.dvd_zero _
  have d : w ∣ cv h P x y := by
    unfold ls at wh
    rcases o with ⟨h1, h2, h3⟩ | ⟨h1, h2, h3⟩
    · rw [if_pos h1] at wh
      have : cv h P x y = P x (y - h) := by unfold cv cr cc; rw [if_pos h1, if_pos h1]
      rw [this]
      refine sumZ_dvd (k := y - h) (by omega) (fun j hj nj => ?_) wh
      have := none (h + j) (.inl ⟨h1, by omega, by omega⟩) (by omega)
      unfold cv cr cc at this
      rw [if_pos h1, if_pos h1, show h + j - h = j by omega] at this
      exact this
    · rw [if_neg (by omega)] at wh
      have : cv h P x y = P y (x - h) := by unfold cv cr cc; rw [if_neg (by omega), if_neg (by omega)]
      rw [this]
      refine sumZ_dvd (f := fun i => P i (x - h)) (k := y) h3 (fun i hi ni => ?_) wh
      have := none i (.inr ⟨h1, h2, hi⟩) ni
      unfold cv cr cc at this
      rw [if_neg (by omega), if_neg (by omega)] at this
      exact this
  obtain ⟨k, e⟩ := d
  obtain ⟨f1, f2⟩ := f
  rw [e] at f1 f2
  have w0 : 0 < w := by
    obtain ⟨c1, c2, _⟩ := opp_cell o
    have := bd _ _ c1 c2
    rcases Int.lt_or_le 0 w with q | q
    · exact q
    · have : w = 0 := by omega
      rw [this, Int.zero_mul] at f1; omega
  have k0 : 0 < k := by
    rcases Int.lt_or_le 0 k with q | q
    · exact q
    · have := Int.mul_le_mul_of_nonneg_left q (Int.le_of_lt w0)
      omega
  have := Int.mul_le_mul_of_nonneg_left (show 1 ≤ k by omega) (Int.le_of_lt w0)
  omega
theorem nodup_bound : ∀ (n : Nat) (l : List Nat), l.Nodup → (∀ x, x ∈ l → x < n) → l.length ≤ n
  | 0, l, _, h => by
    cases l with
    | nil => exact Nat.le_refl _
    | cons x r => exact absurd (h x List.mem_cons_self) (Nat.not_lt_zero _)
  | n + 1, l, nd, h => by
    by_cases hn : n ∈ l
    · have h1 := nodup_bound n (l.erase n) (nd.sublist List.erase_sublist) fun x hx => by
        have h2 := h x (List.mem_of_mem_erase hx)
        have h3 : x ≠ n := fun e => by
          subst e
          exact (nd.not_mem_erase) hx
        omega
      have := List.length_erase_of_mem hn
      omega
    · have := nodup_bound n l nd fun x hx => by
        have h2 := h x hx
        have h3 : x ≠ n := fun e => by subst e; exact hn hx
        omega
      omega
/-! ### a ring: L ways, back to its start -/
structure Ring (h m : Nat) (w : Int) (P : Nat → Nat → Int) (r : Nat → Nat) (L : Nat) : Prop where
  big : 3 ≤ L
  back : r L = r 0
  way : ∀ k, k < L → opp h m (r k) (r (k + 1))
  frac : ∀ k, k < L → fr w (cv h P (r k) (r (k + 1)))
  apart : ∀ i j, i < j → j < L → r i ≠ r j
theorem Ring.alt {h m : Nat} {w : Int} {P : Nat → Nat → Int} {r : Nat → Nat} {L : Nat} (R : Ring h m w P r L) : ∀ k, k ≤ L → (r k < h ↔ (r 0 < h ↔ k % 2 = 0)) := by
  intro k
  induction k with
  | zero => intro _; simp
  | succ k ih =>
    intro hk
    have i1 := ih (by omega)
    have : r k < h ↔ ¬ r (k + 1) < h := by
      rcases R.way k (by omega) with ⟨a, b, c⟩ | ⟨a, b, c⟩ <;> omega
    omega
theorem Ring.even {h m : Nat} {w : Int} {P : Nat → Nat → Int} {r : Nat → Nat} {L : Nat} (R : Ring h m w P r L) : L % 2 = 0 := by
  have := R.alt L (Nat.le_refl _)
  rw [R.back] at this
  omega
/-- the k-th cell -/
def rr (h : Nat) (r : Nat → Nat) (k : Nat) : Nat := cr h (r k) (r (k + 1))
def rc (h : Nat) (r : Nat → Nat) (k : Nat) : Nat := cc h (r k) (r (k + 1))
theorem Ring.cells {h m : Nat} {w : Int} {P : Nat → Nat → Int} {r : Nat → Nat} {L : Nat} (R : Ring h m w P r L) {i j : Nat} (hij : i < j) (hj : j < L) : ¬ (rr h r i = rr h r j ∧ rc h r i = rc h r j) := by
  rintro ⟨e1, e2⟩
  obtain ⟨_, _, a⟩ := opp_cell (R.way i (by omega))
  obtain ⟨_, _, b⟩ := opp_cell (R.way j hj)
  have big := R.big
  unfold rr at e1
  unfold rc at e2
  rw [e1, e2] at a
  have same : r i ≠ r j := R.apart i j hij hj
  have ex : r i = r (j + 1) ∧ r (i + 1) = r j := by
    rcases a with ⟨a1, a2⟩ | ⟨a1, a2⟩ <;> rcases b with ⟨b1, b2⟩ | ⟨b1, b2⟩
    · exact absurd (a1.trans b1.symm) same
    · exact ⟨a1.trans b1.symm, a2.trans b2.symm⟩
    · exact ⟨a2.trans b2.symm, a1.trans b1.symm⟩
    · exact absurd (a2.trans b2.symm) same
  obtain ⟨x1, x2⟩ := ex
  by_cases h1 : i + 1 = j
  · subst h1
    by_cases h2 : i + 1 + 1 = L
    · rw [h2, R.back] at x1
      by_cases h0 : i = 0
      · omega
      · exact R.apart 0 i (by omega) (by omega) x1.symm
    · exact R.apart i (i + 1 + 1) (by omega) (by omega) x1
  · exact R.apart (i + 1) j (by omega) hj x2
/-- by turns more and less -/
def dlt (st : Int) (k : Nat) : Int := if k % 2 = 0 then st else -st
def moved (h : Nat) (r : Nat → Nat) (st : Int) (P : Nat → Nat → Int) : Nat → Nat → Nat → Int
  | 0 => P
  | k + 1 => upd2 (moved h r st P k) (rr h r k) (rc h r k) (P (rr h r k) (rc h r k) + dlt st k)
theorem moved_out {h : Nat} {r : Nat → Nat} {st : Int} {P : Nat → Nat → Int} {a b : Nat} : ∀ {k : Nat}, (∀ i, i < k → ¬ (a = rr h r i ∧ b = rc h r i)) → moved h r st P k a b = P a b
  | 0, _ => rfl
  | k + 1, hn => by
    show upd2 _ _ _ _ a b = _
    rw [upd2_ne (hn k (by omega)), moved_out fun i hi => hn i (by omega)]
section
variable {h m : Nat} {w : Int} {P : Nat → Nat → Int} {r : Nat → Nat} {L : Nat} {st : Int}
theorem moved_at (R : Ring h m w P r L) {i k : Nat} (hi : i < k) (hk : k ≤ L) : moved h r st P k (rr h r i) (rc h r i) = P (rr h r i) (rc h r i) + dlt st i := by
  induction k with
  | zero => omega
  | succ k ih =>
    show upd2 _ _ _ _ _ _ = _
    by_cases e : i = k
    · subst e; rw [upd2_same]
    · rw [upd2_ne (R.cells (by omega) (by omega)), ih (by omega) (by omega)]
theorem moved_next (R : Ring h m w P r L) {k : Nat} (hk : k < L) : moved h r st P k (rr h r k) (rc h r k) = P (rr h r k) (rc h r k) :=
  moved_out fun i hi e => R.cells hi hk ⟨e.1.symm, e.2.symm⟩
theorem moved_ls (R : Ring h m w P r L) {x : Nat} (hx : x < h + m) : ∀ k, k ≤ L → ls h m (moved h r st P k) x = ls h m P x + dlt st 0 * (if r 0 = x then 1 else 0) - dlt st k * (if r k = x then 1 else 0) := by
  intro k
  induction k with
  | zero => intro _; show ls h m P x = _; omega
  | succ k ih =>
    intro hk
    obtain ⟨c1, c2, c3⟩ := opp_cell (R.way k (by omega))
    show ls h m (upd2 (moved h r st P k) (rr h r k) (rc h r k) (P (rr h r k) (rc h r k) + dlt st k)) x = _
    rw [ls_upd (i := rr h r k) (j := rc h r k) c1 c2 hx, moved_next R (by omega), ih (by omega)]
    have e1 : P (rr h r k) (rc h r k) + dlt st k - P (rr h r k) (rc h r k) = dlt st k := by omega
    rw [e1]
    have e2 : dlt st (k + 1) = - dlt st k := by
      unfold dlt
      by_cases q : k % 2 = 0
      · rw [if_pos q, if_neg (by omega)]
      · rw [if_neg q, if_pos (by omega)]; omega
    rw [e2]
    have e3 : ((if rr h r k = x then (1 : Int) else 0) + (if h + rc h r k = x then 1 else 0)) = (if r k = x then 1 else 0) + (if r (k + 1) = x then 1 else 0) := by
      unfold rr rc
      rcases c3 with ⟨a, b⟩ | ⟨a, b⟩
      · rw [← a, ← b]
      · rw [← a, ← b]; omega
    rw [e3, Int.mul_add, Int.neg_mul]
    omega
theorem moved_done (R : Ring h m w P r L) {x : Nat} (hx : x < h + m) : ls h m (moved h r st P L) x = ls h m P x := by
  rw [moved_ls R hx L (Nat.le_refl _), R.back]
  have : dlt st L = dlt st 0 := by unfold dlt; rw [if_pos R.even, if_pos rfl]
  rw [this]; omega
/-- what a shift leaves -/
theorem moved_bd (R : Ring h m w P r L) (bd : ∀ i j, i < h → j < m → 0 ≤ P i j ∧ P i j ≤ w) (s0 : 0 < st) (up : ∀ k, k < L → k % 2 = 0 → st ≤ w - P (rr h r k) (rc h r k)) (dn : ∀ k, k < L → k % 2 ≠ 0 → st ≤ P (rr h r k) (rc h r k)) (a b : Nat) (ha : a < h) (hb : b < m) :
    0 ≤ moved h r st P L a b ∧ moved h r st P L a b ≤ w ∧ (P a b = 0 → moved h r st P L a b = 0) ∧ (fr w (moved h r st P L a b) → fr w (P a b)) := by
  by_cases q : ∃ i, i < L ∧ a = rr h r i ∧ b = rc h r i
  · obtain ⟨i, hi, rfl, rfl⟩ := q
    rw [moved_at R hi (Nat.le_refl _)]
    have f := R.frac i hi
    unfold fr cv at f
    have f1 : 0 < P (rr h r i) (rc h r i) := f.1
    have f2 : P (rr h r i) (rc h r i) < w := f.2
    unfold dlt
    by_cases e : i % 2 = 0
    · have := up i hi e
      rw [if_pos e]
      exact ⟨by omega, by omega, fun z => by omega, fun _ => ⟨f1, f2⟩⟩
    · have := dn i hi e
      rw [if_neg e]
      exact ⟨by omega, by omega, fun z => by omega, fun _ => ⟨f1, f2⟩⟩
  · have e : moved h r st P L a b = P a b := moved_out fun i hi z => q ⟨i, hi, z.1, z.2⟩
    rw [e]
    have := bd a b ha hb
    exact ⟨this.1, this.2, id, id⟩
end
/-- how many parts are still to be rounded -/
def cnt (h m : Nat) (w : Int) (P : Nat → Nat → Int) : Int := sumZ h fun i => sumZ m fun j => if 0 < P i j ∧ P i j < w then 1 else 0
theorem cnt_nonneg (h m : Nat) (w : Int) (P : Nat → Nat → Int) : 0 ≤ cnt h m w P := by
  unfold cnt
  have h1 : ∀ n, sumZ n (fun _ => (0 : Int)) = 0 := sumZ_zero
  refine Int.le_trans (Int.le_of_eq (h1 h).symm) (sumZ_le fun i _ => Int.le_trans (Int.le_of_eq (h1 m).symm) (sumZ_le fun j _ => ?_))
  split <;> decide
theorem cnt_lt {h m : Nat} {w : Int} {P Q : Nat → Nat → Int} (sub : ∀ a b, a < h → b < m → fr w (Q a b) → fr w (P a b)) {i j : Nat} (hi : i < h) (hj : j < m) (f : fr w (P i j)) (nf : ¬ fr w (Q i j)) : cnt h m w Q < cnt h m w P := by
  have cell : ∀ a b, a < h → b < m → (if 0 < Q a b ∧ Q a b < w then (1 : Int) else 0) ≤ (if 0 < P a b ∧ P a b < w then 1 else 0) := fun a b ha hb => by
    by_cases q : 0 < Q a b ∧ Q a b < w
    · rw [if_pos q, if_pos (show 0 < P a b ∧ P a b < w from sub a b ha hb q)]; exact Int.le_refl _
    · rw [if_neg q]; split <;> omega
  unfold cnt
  refine sumZ_lt (k := i) (fun a ha => sumZ_le fun b hb => cell a b ha hb) hi (sumZ_lt (k := j) (fun b hb => cell i b hi hb) hj ?_)
  rw [if_neg (show ¬ (0 < Q i j ∧ Q i j < w) from nf), if_pos (show 0 < P i j ∧ P i j < w from f)]
  decide
end SW
/-! TABLES OF NUMBERS on the heap (own work) -/
namespace L2
open PySem SW
def row (c : Nat) (f : Nat → Int) : List Int := (List.range c).map f
def mkT (T : Nat → Nat → Int) (r c : Nat) : List (List Int) := (List.range r).map fun i => row c (T i)
theorem row_len (c : Nat) (f : Nat → Int) : (row c f).length = c := by unfold row; simp
theorem row_get {c j : Nat} {f : Nat → Int} (h : j < c) : (row c f)[j]? = some (f j) := by unfold row; rw [List.getElem?_map, List.getElem?_range h]; rfl
theorem row_sum (f : Nat → Int) : ∀ c, (row c f).sum = sumZ c f
  | 0 => rfl
  | c + 1 => by
    have : row (c + 1) f = row c f ++ [f c] := by unfold row; rw [List.range_succ, List.map_append]; rfl
    rw [this, List.sum_append, row_sum f c]
    show _ = sumZ c f + f c
    simp
theorem row_succ (c : Nat) (f : Nat → Int) : row (c + 1) f = row c f ++ [f c] := by unfold row; rw [List.range_succ, List.map_append]; rfl
theorem row_congr {c : Nat} {f g : Nat → Int} (h : ∀ j, j < c → f j = g j) : row c f = row c g := by
  unfold row
  exact List.map_congr_left fun j hj => h j (List.mem_range.mp hj)
theorem row_set {c j : Nat} {f : Nat → Int} {v : Int} (h : j < c) : (row c f).set j v = row c (fun b => if b = j then v else f b) := by
  apply List.ext_getElem?
  intro i
  by_cases e : j = i
  · subst e
    rw [List.getElem?_set_self (by rw [row_len]; exact h), row_get h, if_pos rfl]
  · rw [List.getElem?_set_ne e]
    by_cases hi : i < c
    · rw [row_get hi, row_get hi, if_neg (fun z => e z.symm)]
    · rw [List.getElem?_eq_none (by rw [row_len]; omega), List.getElem?_eq_none (by rw [row_len]; omega)]
theorem mk_len (T : Nat → Nat → Int) (r c : Nat) : (mkT T r c).length = r := by unfold mkT; simp
theorem mk_get {T : Nat → Nat → Int} {r c i : Nat} (h : i < r) : (mkT T r c)[i]? = some (row c (T i)) := by unfold mkT; rw [List.getElem?_map, List.getElem?_range h]; rfl
theorem mk_set {T : Nat → Nat → Int} {r c i j : Nat} {v : Int} (hi : i < r) (hj : j < c) : (mkT T r c).set i ((row c (T i)).set j v) = mkT (upd2 T i j v) r c := by
  apply List.ext_getElem?
  intro a
  by_cases e : i = a
  · subst e
    rw [List.getElem?_set_self (by rw [mk_len]; exact hi), mk_get hi, row_set hj]
    congr 1
    exact row_congr fun b _ => by
      unfold upd2
      by_cases q : b = j
      · rw [if_pos q, if_pos ⟨rfl, q⟩]
      · rw [if_neg q, if_neg fun z => q z.2]
  · rw [List.getElem?_set_ne e]
    by_cases ha : a < r
    · rw [mk_get ha, mk_get ha]
      congr 1
      exact row_congr fun b _ => by unfold upd2; rw [if_neg fun z => e z.1.symm]
    · rw [List.getElem?_eq_none (by rw [mk_len]; omega), List.getElem?_eq_none (by rw [mk_len]; omega)]
section
variable {K : PySem.W.Frag} {H H' : Hp} {p : Addr} {as : List Addr} {rs : List (List Int)}
theorem at_ref {as : List Addr} {k : Nat} {a : Addr} (e : as[k]? = some a) : atI (as.map V.ref) (k : Int) = some (.ref a) := atI_of (by omega) (by rw [List.getElem?_map, Int.toNat_natCast, e]; rfl)
theorem at_row {c j : Nat} {f : Nat → Int} (h : j < c) : atI ((row c f).map V.int) (j : Int) = some (.int (f j)) := atI_of (by omega) (by rw [List.getElem?_map, Int.toNat_natCast, row_get h]; rfl)
/-- a table that may be written: its rows at as -/
structure MatM (H : Hp) (p : Addr) (as : List Addr) (rs : List (List Int)) : Prop where
  top : H p = some (.lst (as.map V.ref))
  nd : as.Nodup
  len : as.length = rs.length
  rows : ∀ (i : Nat) (a : Addr) (r : List Int), as[i]? = some a → rs[i]? = some r → H a = some (.lst (r.map V.int))
theorem MatM.mat (m : MatM H p as rs) : Mat K H p rs := ⟨as, SqL.of m.top, m.len, fun i a r e1 e2 => SqL.of (m.rows i a r e1 e2)⟩
theorem MatM.same (m : MatM H p as rs) (S : Same H H') : MatM H' p as rs := ⟨S _ _ m.top, m.nd, m.len, fun i a r e1 e2 => S _ _ (m.rows i a r e1 e2)⟩
/-- the i-th row of a table -/
theorem mat_row {T : Nat → Nat → Int} {r c i : Nat} (h2 : as.length = (mkT T r c).length) (hi : i < r) : ∃ a, as[i]? = some a ∧ atI (as.map V.ref) (i : Int) = some (.ref a) := by
  rw [mk_len] at h2
  exact ⟨as[i]'(by omega), by simp, at_ref (by simp)⟩
theorem Mat.get {T : Nat → Nat → Int} {r c i : Nat} (m : Mat K H p (mkT T r c)) (hi : i < r) : ∃ (as : List Addr) (a : Addr), Sq K H p (as.map V.ref) ∧ atI (as.map V.ref) (i : Int) = some (.ref a) ∧ Sq K H a ((row c (T i)).map V.int) ∧ SqL K H a ((row c (T i)).map V.int) := by
  obtain ⟨as, h1, h2, h3⟩ := m
  obtain ⟨a, e1, e2⟩ := mat_row h2 hi
  exact ⟨as, a, .inl h1, e2, .inl (h3 i a _ e1 (mk_get hi)), h3 i a _ e1 (mk_get hi)⟩
theorem Mat.top {T : Nat → Nat → Int} {r c : Nat} (m : Mat K H p (mkT T r c)) : ∃ as : List Addr, SqL K H p (as.map V.ref) ∧ (as.map V.ref).length = r := by
  obtain ⟨as, h1, h2, h3⟩ := m
  exact ⟨as, h1, by rw [List.length_map, h2, mk_len]⟩
/-- a cell is written -/
theorem MatM.set {T : Nat → Nat → Int} {r c i j : Nat} {a : Addr} {v : Int} (m : MatM H p as (mkT T r c)) (ha : as[i]? = some a) (hi : i < r) (hj : j < c) (pa : p ≠ a) :
    MatM (upd H a (.lst (((row c (T i)).map V.int).set j (.int v)))) p as (mkT (upd2 T i j v) r c) := by
  refine ⟨by rw [upd_ne pa]; exact m.top, m.nd, by rw [m.len, mk_len, mk_len], fun k b x e1 e2 => ?_⟩
  rw [← mk_set hi hj] at e2
  by_cases e : b = a
  · subst e
    have : k = i := by
      have h1 := (List.getElem?_eq_some_iff.mp e1)
      have h2 := (List.getElem?_eq_some_iff.mp ha)
      obtain ⟨l1, q1⟩ := h1
      obtain ⟨l2, q2⟩ := h2
      exact (List.getElem_inj m.nd).mp (q1.trans q2.symm)
    subst this
    rw [List.getElem?_set_self (by rw [mk_len]; exact hi)] at e2
    cases e2
    rw [upd_same, List.map_set]
  · rw [upd_ne e]
    have : i ≠ k := fun z => by subst z; rw [ha] at e1; cases e1; exact e rfl
    rw [List.getElem?_set_ne this] at e2
    exact m.rows k b x e1 e2
end
end L2
namespace K9
open PySem L2 SW
def top (i : Nat) : Stmt := PySem.Challenge.pw_seatweave_k09_whole_rounded.main.body.getD i (.Pass ⟨0, 0, 0, 0⟩)
abbrev s_cell_between : Stmt := top 1
abbrev s_filled_parts : Stmt := top 3
abbrev s_filled : Stmt := top 4
abbrev s_next_node : Stmt := top 5
abbrev s_ring : Stmt := top 6
abbrev s_shift : Stmt := top 7
abbrev s_rounded : Stmt := top 8
abbrev s_lcell_at : Stmt := top 10
abbrev s_ldraw : Stmt := top 11
abbrev s_lgreat : Stmt := top 12
abbrev s_lwhole : Stmt := top 13
abbrev s_lnear : Stmt := top 14
abbrev s_lnumber : Stmt := top 15
abbrev s_lsize : Stmt := top 16
abbrev s_ldrawn : Stmt := top 17
abbrev s_lright : Stmt := top 18
abbrev s_law : Stmt := top 19
theorem sc_cell_between : FnScope ["one", "other", "height"] ["one", "other", "height"] (defScope s_cell_between) := ⟨rfl, rfl, rfl, by decide +kernel, rfl, by decide +kernel, by decide +kernel⟩
theorem sc_filled_parts : FnScope ["table", "w", "parts", "width", "row", "number", "j"] ["table", "w"] (defScope s_filled_parts) := ⟨rfl, rfl, rfl, by decide +kernel, rfl, by decide +kernel, by decide +kernel⟩
theorem sc_filled : FnScope ["row", "w"] ["row", "w"] (defScope s_filled) := ⟨rfl, rfl, rfl, by decide +kernel, rfl, by decide +kernel, by decide +kernel⟩
theorem sc_next_node : FnScope ["parts", "w", "node", "past", "height", "others", "other", "cell"] ["parts", "w", "node", "past"] (defScope s_next_node) := ⟨rfl, rfl, rfl, by decide +kernel, rfl, by decide +kernel, by decide +kernel⟩
theorem sc_ring : FnScope ["parts", "w", "starts", "path", "i"] ["parts", "w"] (defScope s_ring) := ⟨rfl, rfl, rfl, by decide +kernel, rfl, by decide +kernel, by decide +kernel⟩
theorem sc_shift : FnScope ["parts", "w", "path", "cells", "up", "down", "step", "k", "cell"] ["parts", "w", "path"] (defScope s_shift) := ⟨rfl, rfl, rfl, by decide +kernel, rfl, by decide +kernel, by decide +kernel⟩
theorem sc_rounded : FnScope ["table", "w", "parts", "path", "i", "j"] ["table", "w"] (defScope s_rounded) := ⟨rfl, rfl, rfl, by decide +kernel, rfl, by decide +kernel, by decide +kernel⟩
theorem sc_lcell_at : FnScope ["_law_script", "_law_k"] ["_law_script", "_law_k"] (defScope s_lcell_at) := ⟨rfl, rfl, rfl, by decide +kernel, rfl, by decide +kernel, by decide +kernel⟩
theorem sc_ldraw : FnScope ["_law_cell", "_law_k", "_law_many", "_law_primes"] ["_law_cell", "_law_k", "_law_many"] (defScope s_ldraw) := ⟨rfl, rfl, rfl, by decide +kernel, rfl, by decide +kernel, by decide +kernel⟩
theorem sc_lgreat : FnScope ["_law_cell", "_law_k", "_law_most"] ["_law_cell", "_law_k", "_law_most"] (defScope s_lgreat) := ⟨rfl, rfl, rfl, by decide +kernel, rfl, by decide +kernel, by decide +kernel⟩
theorem sc_lwhole : FnScope ["_law_told", "_law_rows", "_law_columns", "_law_row", "_law_one"] ["_law_told", "_law_rows", "_law_columns"] (defScope s_lwhole) := ⟨rfl, rfl, rfl, by decide +kernel, rfl, by decide +kernel, by decide +kernel⟩
theorem sc_lnear : FnScope ["_law_made", "_law_whole_here", "_law_w"] ["_law_made", "_law_whole_here", "_law_w"] (defScope s_lnear) := ⟨rfl, rfl, rfl, by decide +kernel, rfl, by decide +kernel, by decide +kernel⟩
theorem sc_lnumber : FnScope ["_law_cell", "_law_kind"] ["_law_cell"] (defScope s_lnumber) := ⟨rfl, rfl, rfl, by decide +kernel, rfl, by decide +kernel, by decide +kernel⟩
theorem sc_lsize : FnScope ["_law_cell", "_law_k"] ["_law_cell", "_law_k"] (defScope s_lsize) := ⟨rfl, rfl, rfl, by decide +kernel, rfl, by decide +kernel, by decide +kernel⟩
theorem sc_ldrawn : FnScope ["_law_script", "_law_first", "_law_cell", "_law_rows", "_law_columns", "_law_table", "_law_i", "_law_row", "_law_j", "_law_at", "_law_w"] ["_law_script", "_law_first"] (defScope s_ldrawn) := ⟨rfl, rfl, rfl, by decide +kernel, rfl, by decide +kernel, by decide +kernel⟩
theorem sc_lright : FnScope ["_law_table", "_law_w", "_law_made", "_law_i", "_law_j", "_law_row"] ["_law_table", "_law_w", "_law_made"] (defScope s_lright) := ⟨rfl, rfl, rfl, by decide +kernel, rfl, by decide +kernel, by decide +kernel⟩
theorem sc_law : FnScope ["_law_script", "_law_first", "_law_table", "_law_w", "_law_handed", "_law_made", "_law_row"] ["_law_script"] (defScope s_law) := ⟨rfl, rfl, rfl, by decide +kernel, rfl, by decide +kernel, by decide +kernel⟩
structure Txt (K : PySem.W.Frag) (mg : Str → Option Value) where
  a_cell_between : Addr
  fd_cell_between : FuncData
  F_cell_between : Fun K "cell_between" "cell_between" s_cell_between a_cell_between fd_cell_between
  b_cell_between : Binds K fd_cell_between ["one", "other", "height"] []
  m_cell_between : mg "cell_between" = some (.ref a_cell_between)
  a_filled_parts : Addr
  fd_filled_parts : FuncData
  F_filled_parts : Fun K "filled_parts" "filled_parts" s_filled_parts a_filled_parts fd_filled_parts
  b_filled_parts : Binds K fd_filled_parts ["table", "w"] []
  m_filled_parts : mg "filled_parts" = some (.ref a_filled_parts)
  a_filled : Addr
  fd_filled : FuncData
  F_filled : Fun K "filled" "filled" s_filled a_filled fd_filled
  b_filled : Binds K fd_filled ["row", "w"] []
  m_filled : mg "filled" = some (.ref a_filled)
  a_next_node : Addr
  fd_next_node : FuncData
  F_next_node : Fun K "next_node" "next_node" s_next_node a_next_node fd_next_node
  b_next_node : Binds K fd_next_node ["parts", "w", "node", "past"] []
  m_next_node : mg "next_node" = some (.ref a_next_node)
  a_ring : Addr
  fd_ring : FuncData
  F_ring : Fun K "ring" "ring" s_ring a_ring fd_ring
  b_ring : Binds K fd_ring ["parts", "w"] []
  m_ring : mg "ring" = some (.ref a_ring)
  a_shift : Addr
  fd_shift : FuncData
  F_shift : Fun K "shift" "shift" s_shift a_shift fd_shift
  b_shift : Binds K fd_shift ["parts", "w", "path"] []
  m_shift : mg "shift" = some (.ref a_shift)
  a_rounded : Addr
  fd_rounded : FuncData
  F_rounded : Fun K "rounded" "rounded" s_rounded a_rounded fd_rounded
  b_rounded : Binds K fd_rounded ["table", "w"] []
  m_rounded : mg "rounded" = some (.ref a_rounded)
  a_lcell_at : Addr
  fd_lcell_at : FuncData
  F_lcell_at : Fun K "_law_cell_at" "_law_cell_at" s_lcell_at a_lcell_at fd_lcell_at
  b_lcell_at : Binds K fd_lcell_at ["_law_script", "_law_k"] []
  m_lcell_at : mg "_law_cell_at" = some (.ref a_lcell_at)
  a_ldraw : Addr
  fd_ldraw : FuncData
  F_ldraw : Fun K "_law_draw" "_law_draw" s_ldraw a_ldraw fd_ldraw
  b_ldraw : Binds K fd_ldraw ["_law_cell", "_law_k", "_law_many"] []
  m_ldraw : mg "_law_draw" = some (.ref a_ldraw)
  a_lgreat : Addr
  fd_lgreat : FuncData
  F_lgreat : Fun K "_law_great" "_law_great" s_lgreat a_lgreat fd_lgreat
  b_lgreat : Binds K fd_lgreat ["_law_cell", "_law_k", "_law_most"] []
  m_lgreat : mg "_law_great" = some (.ref a_lgreat)
  a_lwhole : Addr
  fd_lwhole : FuncData
  F_lwhole : Fun K "_law_whole" "_law_whole" s_lwhole a_lwhole fd_lwhole
  b_lwhole : Binds K fd_lwhole ["_law_told", "_law_rows", "_law_columns"] []
  m_lwhole : mg "_law_whole" = some (.ref a_lwhole)
  a_lnear : Addr
  fd_lnear : FuncData
  F_lnear : Fun K "_law_near" "_law_near" s_lnear a_lnear fd_lnear
  b_lnear : Binds K fd_lnear ["_law_made", "_law_whole_here", "_law_w"] []
  m_lnear : mg "_law_near" = some (.ref a_lnear)
  a_lnumber : Addr
  fd_lnumber : FuncData
  F_lnumber : Fun K "_law_number" "_law_number" s_lnumber a_lnumber fd_lnumber
  b_lnumber : Binds K fd_lnumber ["_law_cell"] []
  m_lnumber : mg "_law_number" = some (.ref a_lnumber)
  a_lsize : Addr
  fd_lsize : FuncData
  F_lsize : Fun K "_law_size" "_law_size" s_lsize a_lsize fd_lsize
  b_lsize : Binds K fd_lsize ["_law_cell", "_law_k"] []
  m_lsize : mg "_law_size" = some (.ref a_lsize)
  a_ldrawn : Addr
  fd_ldrawn : FuncData
  F_ldrawn : Fun K "_law_drawn" "_law_drawn" s_ldrawn a_ldrawn fd_ldrawn
  b_ldrawn : Binds K fd_ldrawn ["_law_script", "_law_first"] []
  m_ldrawn : mg "_law_drawn" = some (.ref a_ldrawn)
  a_lright : Addr
  fd_lright : FuncData
  F_lright : Fun K "_law_right" "_law_right" s_lright a_lright fd_lright
  b_lright : Binds K fd_lright ["_law_table", "_law_w", "_law_made"] []
  m_lright : mg "_law_right" = some (.ref a_lright)
  a_law : Addr
  fd_law : FuncData
  F_law : Fun K "law" "law" s_law a_law fd_law
  n_isinstance : mg "isinstance" = none
  n_int : mg "int" = none
  n_bool : mg "bool" = none
  n_list : mg "list" = none
  n_len : mg "len" = none
  n_min : mg "min" = none
  n_max : mg "max" = none
  n_range : mg "range" = none
  n_sum : mg "sum" = none
end K9
namespace K9
open PySem L2 SW
section
variable {P : Program} {w : World} {K : PySem.W.Frag} {mg : Str → Option Value} {base : Heap}
theorem ok_ldraw (T : Txt K mg) : FnOk P w K mg base CX0 1 T.a_ldraw T.fd_ldraw ["_law_cell", "_law_k", "_law_many"] spDraw := by
  refine T.F_ldraw.ok sc_ldraw (fun vs H Q E h => ?_) (fun cdv A outer s H vs Q E hr h => ?_)
  · obtain ⟨c, k, m, rfl, _⟩ := h
    rfl
  obtain ⟨c, k, m, rfl, k0, k1, m0, q⟩ := h
  refine ⟨_, (@pss_cons _ _ _ _ _ (@ps_setInts _ 3 _ _ _ _ _ _ _ sc_ldraw.nd rfl (Or.inl rfl) (.cons (.cons (.cons (.cons (.cons (.cons (.cons (.cons (.cons (.cons (.cons (.cons (.cons (.cons (.cons (.cons (.nil))))))))))))))))) (.inl rfl))
      (pss_one (ps_ret (pe_op op_mod (pe_op op_mod (pe_op op_add (pe_op op_mulF (pv 0) pe_int) (pe_op op_mulF (pv 1) pe_int)) (pe_ix ix_any (pv 3) (pe_op op_mod (pv 1) pe_int) (fun _ _ => rfl))) (pv 2))))), ?_⟩
  refine ⟨(by show 16 ≤ sizeLine; decide), fun p hp => ?_⟩
  obtain ⟨n, n0, en⟩ := prime_at (k % 16) (Int.emod_nonneg _ (by decide)) (Int.emod_lt_of_pos _ (by decide))
  refine ⟨_, rfl, _, _, rfl, rfl, .inl (.inr ⟨by decide, by decide⟩), _, rfl, _, _, rfl, rfl, .inl (.inr ⟨by decide, by decide⟩), _, _, rfl, rfl, ?_⟩
  refine ⟨_, rfl, _, rfl, _, _, rfl, rfl, (by show (0 : Int) < 16; decide), p, primes, _, _, rfl, rfl, .inr (SqT.of upd_same), en, ?_⟩
  refine ⟨_, _, rfl, rfl, n0, _, rfl, _, _, rfl, rfl, m0, ?_⟩
  exact q _ _ (Int.emod_nonneg _ (by omega)) (Int.emod_lt_of_pos _ m0) (same_new hp _)
theorem ok_lgreat (T : Txt K mg) : FnOk P w K mg base CX0 2 T.a_lgreat T.fd_lgreat ["_law_cell", "_law_k", "_law_most"] spGreat := by
  refine T.F_lgreat.ok sc_lgreat (fun vs H Q E h => ?_) (fun cdv A outer s H vs Q E hr h => ?_)
  · obtain ⟨c, k, m, rfl, _⟩ := h
    rfl
  obtain ⟨c, k, m, rfl, k0, k1, m0, q⟩ := h
  refine ⟨_, (pss_one (ps_ret (pe_op op_mod (pe_op op_add (pe_op op_mulF (pe_call (ok_ldraw T) (hr.mono (by decide)) rfl T.m_ldraw T.F_ldraw.kp T.b_ldraw .nil pass0 (pa_cons (pv 0) (pa_cons (pv 1) (pa_cons pe_int pa_nil)))) pe_int) (pe_call (ok_ldraw T) (hr.mono (by decide)) rfl T.m_ldraw T.F_ldraw.kp T.b_ldraw .nil pass0 (pa_cons (pv 0) (pa_cons (pe_op op_add (pv 1) pe_int) (pa_cons pe_int pa_nil))))) (pv 2)))), ?_⟩
  refine ⟨_, rfl, _, rfl, ?_⟩
  refine ⟨_, _, _, rfl, k0, by omega, by decide, fun d1 H1 a0 a1 s1 => ?_⟩
  refine ⟨_, _, rfl, rfl, .inl (.inr ⟨by decide, by decide⟩), ?_⟩
  refine ⟨_, rfl, _, rfl, _, _, rfl, rfl, ?_⟩
  refine ⟨_, _, _, rfl, by omega, by omega, by decide, fun d2 H2 b0 b1 s2 => ?_⟩
  refine ⟨_, _, rfl, rfl, _, rfl, ?_⟩
  refine ⟨_, _, rfl, rfl, m0, ?_⟩
  exact q _ _ (Int.emod_nonneg _ (by omega)) (Int.emod_lt_of_pos _ m0) (s1.trans s2)
theorem ok_lcell_at (T : Txt K mg) : FnOk P w K mg base CX0 1 T.a_lcell_at T.fd_lcell_at ["_law_script", "_law_k"] (spCellAt K) := by
  refine T.F_lcell_at.ok sc_lcell_at (fun vs H Q E h => ?_) (fun cdv A outer s H vs Q E hr h => ?_)
  · obtain ⟨a, ns, k, rfl, _⟩ := h
    rfl
  obtain ⟨a, ns, k, rfl, hS, k0, q⟩ := h
  refine ⟨_, (pss_cons (ps_if (pt_cmpR op_lt (pv 1) (pe_callB call_lenQ (by rfl) T.n_len PySem.boot_len (pa_cons (pv 0) pa_nil)) (nomark _))
      (pss_one (ps_ret (pe_ix ix_any (pv 0) (pv 1) (fun _ _ => rfl))))
      pss_nil)
      (pss_one (ps_ret pe_int))), ?_⟩
  refine ⟨_, rfl, _, rfl, ?_⟩
  refine ⟨a, _, rfl, .inl hS, ?_⟩
  refine ⟨_, _, rfl, rfl, _, rfl, ?_⟩
  refine ite2 (fun c => ?_) (fun c => ?_)
  · have c' : k < ((ns.map V.int).length : Int) := of_decide_eq_true c
    rw [List.length_map] at c'
    have hk : k.toNat < ns.length := by omega
    refine ⟨_, rfl, _, rfl, ?_⟩
    exact ⟨a, _, _, _, rfl, rfl, .inl hS, atI_of k0 (by rw [List.getElem?_map, List.getElem?_eq_getElem hk]; rfl), q _⟩
  · skip
    exact q 0
end
end K9
namespace SW
/-- what is over the whole numbers, filled up -/
def e1 (T : Nat → Nat → Int) (c : Nat) (w : Int) (i j : Nat) : Int := if j < c then T i j % w else (- sumZ c (fun b => T i b % w)) % w
def ext (T : Nat → Nat → Int) (r c : Nat) (w : Int) (i j : Nat) : Int := if i < r then e1 T c w i j else (- sumZ r (fun a => e1 T c w a j)) % w
theorem neg_dvd (x w : Int) : w ∣ x + (-x) % w := by
  have : x + (-x) % w = - (w * ((-x) / w)) := by rw [Int.emod_def]; omega
  rw [this]
  exact Int.dvd_neg.mpr (Int.dvd_mul_right _ _)
theorem ext_bd {T : Nat → Nat → Int} {r c : Nat} {w : Int} (w0 : 0 < w) (i j : Nat) : 0 ≤ ext T r c w i j ∧ ext T r c w i j < w := by
  have m : ∀ x : Int, 0 ≤ x % w ∧ x % w < w := fun x => ⟨Int.emod_nonneg _ (by omega), Int.emod_lt_of_pos _ w0⟩
  unfold ext e1
  split
  · split <;> exact m _
  · exact m _
theorem ext_row {T : Nat → Nat → Int} {r c : Nat} {w : Int} {i : Nat} (hi : i < r) : w ∣ sumZ (c + 1) (e1 T c w i) := by
  show w ∣ sumZ c (e1 T c w i) + e1 T c w i c
  have h1 : sumZ c (e1 T c w i) = sumZ c (fun b => T i b % w) := sumZ_congr fun j hj => by unfold e1; rw [if_pos hj]
  have h2 : e1 T c w i c = (- sumZ c (fun b => T i b % w)) % w := by unfold e1; rw [if_neg (Nat.lt_irrefl _)]
  rw [h1, h2]
  exact neg_dvd _ _
theorem sumZ_dvdAll {w : Int} {f : Nat → Int} : ∀ {n : Nat}, (∀ i, i < n → w ∣ f i) → w ∣ sumZ n f
  | 0, _ => Int.dvd_zero _
  | n + 1, h => Int.dvd_add (sumZ_dvdAll fun i hi => h i (by omega)) (h n (by omega))
theorem ext_ls {T : Nat → Nat → Int} {r c : Nat} {w : Int} {x : Nat} (hx : x < (r + 1) + (c + 1)) : w ∣ ls (r + 1) (c + 1) (ext T r c w) x := by
  unfold ls
  have col : ∀ j, w ∣ sumZ (r + 1) fun i => ext T r c w i j := fun j => by
    show w ∣ sumZ r (fun i => ext T r c w i j) + ext T r c w r j
    have h1 : sumZ r (fun i => ext T r c w i j) = sumZ r (fun a => e1 T c w a j) := sumZ_congr fun i hi => by unfold ext; rw [if_pos hi]
    have h2 : ext T r c w r j = (- sumZ r (fun a => e1 T c w a j)) % w := by unfold ext; rw [if_neg (Nat.lt_irrefl _)]
    rw [h1, h2]
    exact neg_dvd _ _
  split
  · rename_i hxr
    by_cases hr : x < r
    · have h1 : sumZ (c + 1) (ext T r c w x) = sumZ (c + 1) (e1 T c w x) := sumZ_congr fun j _ => by unfold ext; rw [if_pos hr]
      rw [h1]
      exact ext_row hr
    · have ex : x = r := by omega
      subst ex
      -- the sum of all is whole, and so is each other row
      have all : w ∣ sumZ (x + 1) fun i => sumZ (c + 1) (ext T x c w i) := by
        rw [sumZ_swap]
        exact sumZ_dvdAll fun j _ => col j
      have rest : w ∣ sumZ x fun i => sumZ (c + 1) (ext T x c w i) := sumZ_dvdAll fun i hi => by
        have h1 : sumZ (c + 1) (ext T x c w i) = sumZ (c + 1) (e1 T c w i) := sumZ_congr fun j _ => by unfold ext; rw [if_pos hi]
        rw [h1]
        exact ext_row hi
      exact (Int.dvd_add_right rest).mp all
  · exact col _
end SW
namespace K9
open PySem L2 SW
section
variable {P : Program} {w : World} {K : PySem.W.Frag} {mg : Str → Option Value} {base : Heap}
def spCellB : Sp := fun vs H Q _ => ∃ (x y h : Nat), vs = [.int x, .int y, .int h] ∧ ((x < h ∧ h ≤ y) ∨ h ≤ x) ∧ ∀ p H', New H H' p (.tup [.int (cr h x y), .int (cc h x y)]) → Q (.ref p) H'
theorem ok_cell_between (T : Txt K mg) : FnOk P w K mg base CX0 1 T.a_cell_between T.fd_cell_between ["one", "other", "height"] spCellB := by
  refine T.F_cell_between.ok sc_cell_between (fun vs H Q E h => ?_) (fun cdv A outer s H vs Q E hr h => ?_)
  · obtain ⟨x, y, h, rfl, _⟩ := h
    rfl
  obtain ⟨x, y, h, rfl, ho, q⟩ := h
  refine ⟨_, (pss_one (ps_ret (pe_ifExp (pt_cmpR op_lt (pv 0) (pv 2) (nomark _)) (pe_tupA (pa_cons (pv 0) (pa_cons (pe_op op_sub (pv 1) (pv 2)) pa_nil))) (pe_tupA (pa_cons (pv 1) (pa_cons (pe_op op_sub (pv 0) (pv 2)) pa_nil)))))), ?_⟩
  refine ⟨_, rfl, _, rfl, _, _, rfl, rfl, _, rfl, ?_⟩
  refine ite3 (fun c => ?_) (fun c => ?_)
  · refine ⟨_, rfl, _, rfl, _, rfl, _, _, rfl, rfl, ?_⟩
    refine ⟨(by show 2 ≤ sizeLine; decide), fun p H' N => q p H' ?_⟩
    have e1 : cr h x y = x := by unfold cr; rw [if_pos (by omega)]
    have e2 : ((cc h x y : Nat) : Int) = (y : Int) - h := by unfold cc; rw [if_pos (by omega)]; omega
    rw [e1, e2]
    exact N
  · refine ⟨_, rfl, _, rfl, _, rfl, _, _, rfl, rfl, ?_⟩
    refine ⟨(by show 2 ≤ sizeLine; decide), fun p H' N => q p H' ?_⟩
    have e1 : cr h x y = y := by unfold cr; rw [if_neg (by omega)]
    have e2 : ((cc h x y : Nat) : Int) = (x : Int) - h := by unfold cc; rw [if_neg (by omega)]; omega
    rw [e1, e2]
    exact N
def spFilled : Sp := fun vs H Q _ => ∃ (l : Addr) (ns : List Int) (m : Int), vs = [.ref l, .int m] ∧ H l = some (.lst (ns.map V.int)) ∧ ns.length ≤ 1000 ∧ 0 < m ∧ ∀ p H', Same H H' → H p = none → H' p = some (.lst ((ns ++ [(- ns.sum) % m]).map V.int)) → Q (.ref p) H'
theorem ok_filled (T : Txt K mg) : FnOk P w K mg base CX0 1 T.a_filled T.fd_filled ["row", "w"] spFilled := by
  refine T.F_filled.ok sc_filled (fun vs H Q E h => ?_) (fun cdv A outer s H vs Q E hr h => ?_)
  · obtain ⟨l, ns, m, rfl, _⟩ := h
    rfl
  obtain ⟨l, ns, m, rfl, hl, hz, m0, q⟩ := h
  refine ⟨_, (pss_one (ps_ret (pe_op op_catN (pv 0) (pe_lstA (pa_cons (pe_op op_mod (pe_un un_neg (pe_callB (sum_Q K rfl) (by rfl) T.n_sum PyProof.Rows.boot_sum (pa_cons (pv 0) pa_nil))) (pv 1)) pa_nil))))), ?_⟩
  refine ⟨_, rfl, _, rfl, _, _, rfl, SqL.of (by assumption), _, rfl, _, rfl, _, _, rfl, rfl, by omega, ?_⟩
  refine ⟨(by show 1 ≤ sizeLine; decide), fun l2 H1 N1 => ?_⟩
  refine ⟨l, l2, _, _, rfl, rfl, N1.same _ _ hl, N1.at_, ?_, fun p H2 N2 => ?_⟩
  · rw [List.length_map]
    exact Nat.le_trans (Nat.add_le_add_right hz 1) (by decide)
  · refine q p H2 (N1.same.trans N2.same) (N1.same.free N2.gone) ?_
    rw [N2.at_, List.map_append]
    rfl
def spFParts (K : PySem.W.Frag) : Sp := fun vs H Q _ => ∃ (t : Addr) (f : Nat → Nat → Int) (r c : Nat) (m : Int), vs = [.ref t, .int m] ∧ Mat K H t (mkT f r c) ∧ 0 < r ∧ r ≤ 50 ∧ 0 < c ∧ c ≤ 50 ∧ 0 < m ∧
  ∀ p as H', Same H H' → H p = none → (∀ a, a ∈ as → H a = none) → MatM H' p as (mkT (ext f r c m) (r + 1) (c + 1)) → p ∉ as → Q (.ref p) H'
theorem ok_filled_parts (T : Txt K mg) : FnOk P w K mg base CX0 2 T.a_filled_parts T.fd_filled_parts ["table", "w"] (spFParts K) := by
  refine T.F_filled_parts.ok sc_filled_parts (fun vs H Q E h => ?_) (fun cdv A outer s H vs Q E hr h => ?_)
  · obtain ⟨t, f, r, c, m, rfl, _⟩ := h
    rfl
  obtain ⟨t, f, r, c, m, rfl, mt, r0, r1, c0, c1, m0, q⟩ := h
  refine ⟨_, (pss_cons (ps_set (i := 2) sc_filled_parts.nd rfl (Or.inr rfl) (pe_comp [4] rfl (blk_of rfl) (pi_listQ K (pv 0)) (fun _ => (pg_name (i := 4) sc_filled_parts.nd rfl (Or.inl rfl))) (fun _ => pts_nil) (fun _ => (pe_call (ok_filled T) (hr.mono (by decide)) rfl T.m_filled T.F_filled.kp T.b_filled .nil pass0 (pa_cons (pe_comp [5] rfl (blk_of rfl) (pi_listQ K (pv 4)) (fun _ => (pg_name (i := 5) sc_filled_parts.nd rfl (Or.inl rfl))) (fun _ => pts_nil) (fun _ => (pe_op op_mod (pv 5) (pv 1)))) (pa_cons (pv 1) pa_nil))))))
      (pss_cons (ps_set (i := 3) sc_filled_parts.nd rfl (Or.inl rfl) (pe_maxd K rfl rfl T.n_max (pa_cons (pe_comp [4] rfl (blk_of rfl) (pi_listQ K (pv 2)) (fun _ => (pg_name (i := 4) sc_filled_parts.nd rfl (Or.inl rfl))) (fun _ => pts_nil) (fun _ => (pe_callB (len_Q K) (by rfl) T.n_len PySem.boot_len (pa_cons (pv 4) pa_nil)))) pa_nil) pe_int))
      (pss_one (ps_ret (pe_op op_catN (pv 2) (pe_lstA (pa_cons (pe_comp [6] rfl (blk_of rfl) (pi_range1 rfl T.n_range (pa_cons (pv 3) pa_nil)) (fun _ => (pg_name (i := 6) sc_filled_parts.nd rfl (Or.inr rfl))) (fun _ => pts_nil) (fun _ => (pe_op op_mod (pe_un un_neg (pe_callB (sum_Q K rfl) (by rfl) T.n_sum PyProof.Rows.boot_sum (pa_cons (pe_comp [4] rfl (blk_of rfl) (pi_listQ K (pv 2)) (fun _ => (pg_name (i := 4) sc_filled_parts.nd rfl (Or.inl rfl))) (fun _ => pts_nil) (fun _ => (pe_ix (ix_Q K) (pv 4) (pv 6) (fun _ _ => rfl)))) pa_nil))) (pv 1)))) pa_nil))))))), ?_⟩
  obtain ⟨ts, ht, lt, hrows⟩ := mt
  rw [mk_len] at lt
  refine ⟨_, rfl, ?_⟩
  refine ⟨t, rfl, ⟨_, ht⟩, ?_⟩
  refine comp_list (xs := ts.map V.ref) (fun i ys H' => Same H H' ∧ ∃ as : List Addr, ys = as.map V.ref ∧ as.length = i ∧ as.Nodup ∧ (∀ a, a ∈ as → H a = none) ∧ ∀ (k : Nat) (a : Addr), as[k]? = some a → H' a = some (.lst ((row (c + 1) (e1 f c m k)).map V.int))) (by rw [List.length_map, lt]; exact Nat.le_trans r1 (by decide)) ⟨Same.refl _, [], rfl, rfl, List.nodup_nil, fun a h => (by cases h), fun k a e => (by simp at e)⟩ (fun i ys H' _ h => h.1.seq ht) ?_ ?_
  · rintro i x ys H1 hx ⟨S1, as, rfl, la, nd, fr_, hr_⟩
    rw [List.getElem?_map] at hx
    cases ea : ts[i]? with
    | none => rw [ea] at hx; cases hx
    | some b =>
      rw [ea] at hx
      have hx' : x = .ref b := (Option.some.inj hx).symm
      subst hx'
      have hi : i < r := by have := (List.getElem?_eq_some_iff.mp ea).1; omega
      have hb := S1.seq (hrows i b _ ea (mk_get hi))
      refine yes ?_
      refine ⟨_, rfl, ?_⟩
      refine ⟨b, rfl, ⟨_, hb⟩, ?_⟩
      refine comp_list (xs := (row c (f i)).map V.int) (fun j ys H' => H' = H1 ∧ ys = ((row j fun b => f i b % m)).map V.int) (by rw [List.length_map, row_len]; exact Nat.le_trans c1 (by decide)) ⟨rfl, rfl⟩ (fun j ys H' _ h => by rw [h.1]; exact hb) ?_ ?_
      · rintro j x ys H2 hx ⟨rfl, rfl⟩
        have hj : j < c := by have := (List.getElem?_eq_some_iff.mp hx).1; rw [List.length_map, row_len] at this; exact this
        rw [List.getElem?_map, row_get hj] at hx
        have hx' : x = .int (f i j) := (Option.some.inj hx).symm
        subst hx'
        refine yes ?_
        refine ⟨_, rfl, _, rfl, _, _, rfl, rfl, by omega, ?_⟩
        exact ⟨rfl, by rw [row_succ, List.map_append]; rfl⟩
      · rintro ys H2 ⟨rfl, rfl⟩ l5 H3 N3
        rw [List.length_map, row_len] at N3
        refine ⟨_, rfl, ?_⟩
        refine ⟨l5, _, m, rfl, N3.at_, by rw [row_len]; omega, m0, fun p H4 S4 np ep => ?_⟩
        refine ⟨S1.trans (N3.same.trans S4), as ++ [p], by simp, by simp [la], ?_, fun a ha => ?_, fun k a e => ?_⟩
        · refine List.nodup_append.mpr ⟨nd, by simp, fun a ha b' hb' => ?_⟩
          have : b' = p := by simpa using hb'
          subst this
          rintro rfl
          have h1 := N3.same _ _ (hr_ _ _ (List.getElem?_eq_getElem (List.getElem_of_mem ha).choose_spec.choose))
          rw [(List.getElem_of_mem ha).choose_spec.choose_spec] at h1
          rw [h1] at np
          cases np
        · rcases List.mem_append.mp ha with h | h
          · exact fr_ a h
          · have : a = p := by simpa using h
            subst this
            exact S1.free (N3.same.free np)
        · by_cases hk : k < as.length
          · rw [List.getElem?_append_left hk] at e
            exact S4 _ _ (N3.same _ _ (hr_ k a e))
          · rw [List.getElem?_append_right (by omega)] at e
            have hk2 : k - as.length = 0 := by
              have := (List.getElem?_eq_some_iff.mp e).1
              simp at this
              omega
            rw [hk2] at e
            have : a = p := by simpa using e.symm
            subst this
            have ek : k = i := by omega
            subst ek
            rw [ep, row_sum, row_succ]
            have e1' : row c (e1 f c m k) = row c (fun b => f k b % m) := row_congr fun j hj => by unfold e1; rw [if_pos hj]
            have e2' : e1 f c m k c = (- sumZ c (fun b => f k b % m)) % m := by unfold e1; rw [if_neg (Nat.lt_irrefl _)]
            rw [e1', e2']
  rintro ys H1 ⟨S1, as, rfl, la, nd, fr_, hr_⟩ lp H2 N2
  rw [List.length_map, lt] at la
  have hlp := N2.at_
  have hrow2 : ∀ (k : Nat) (a : Addr), as[k]? = some a → H2 a = some (.lst ((row (c + 1) (e1 f c m k)).map V.int)) := fun k a e => N2.same _ _ (hr_ k a e)
  have nlp : H lp = none := S1.free N2.gone
  refine ⟨_, rfl, ?_⟩
  refine ⟨lp, rfl, ⟨_, SqL.of hlp⟩, ?_⟩
  refine comp_mapL (fun _ => .int ((c + 1 : Nat) : Int)) (SqL.of hlp) (by rw [List.length_map, la]; exact Nat.le_trans r1 (by decide)) (fun i x Q hx h => ?_) ?_
  · rw [List.getElem?_map] at hx
    cases ea : as[i]? with
    | none => rw [ea] at hx; cases hx
    | some b =>
      rw [ea] at hx
      have hx' : x = .ref b := (Option.some.inj hx).symm
      subst hx'
      refine ⟨_, rfl, b, _, rfl, .inl (SqL.of (hrow2 i b ea)), ?_⟩
      rw [List.length_map, row_len]
      exact h
  intro lm H3 N3
  have S23 := N3.same
  refine ⟨lm, (List.replicate as.length ((c + 1 : Nat) : Int)), rfl, ?_, by simp; omega, fun M hM _ => ?_⟩
  · have : ((as.map V.ref).map fun _ => V.int ((c + 1 : Nat) : Int)) = (List.replicate as.length ((c + 1 : Nat) : Int)).map V.int := by
      rw [List.map_map, List.map_replicate]
      apply List.eq_replicate_iff.mpr
      simp
    rw [← this]
    exact SqL.of N3.at_
  have eM : M = ((c + 1 : Nat) : Int) := (List.mem_replicate.mp hM).2
  subst eM
  refine ⟨_, rfl, _, rfl, ?_⟩
  refine ⟨_, rfl, by omega, by omega, ?_⟩
  rw [Int.toNat_natCast]
  refine comp_range (fun j ys H' => Same H3 H' ∧ ys = (row j (ext f r c m r)).map V.int) (Nat.le_trans (Nat.add_le_add_right c1 1) (by decide)) ⟨Same.refl _, rfl⟩ ?_ ?_
  · rintro j ys H4 hj ⟨S4, rfl⟩
    refine yes ?_
    have hlp4 := S4 _ _ (S23 _ _ hlp)
    refine ⟨_, rfl, ?_⟩
    refine ⟨lp, rfl, ⟨_, SqL.of hlp4⟩, ?_⟩
    refine comp_list (xs := as.map V.ref) (fun i ys H' => H' = H4 ∧ ys = (row i fun a => e1 f c m a j).map V.int) (by rw [List.length_map, la]; exact Nat.le_trans r1 (by decide)) ⟨rfl, rfl⟩ (fun i ys H' _ h => by rw [h.1]; exact SqL.of hlp4) ?_ ?_
    · rintro i x ys H5 hx ⟨rfl, rfl⟩
      rw [List.getElem?_map] at hx
      cases ea : as[i]? with
      | none => rw [ea] at hx; cases hx
      | some b =>
        rw [ea] at hx
        have hx' : x = .ref b := (Option.some.inj hx).symm
        subst hx'
        have hb4 := S4 _ _ (S23 _ _ (hrow2 i b ea))
        have hat : atI ((row (c + 1) (e1 f c m i)).map V.int) (0 + (j : Int)) = some (.int (e1 f c m i j)) := by rw [Int.zero_add]; exact at_row hj
        refine yes ?_
        refine ⟨_, rfl, _, rfl, _, _, _, _, rfl, rfl, Or.inl (SqL.of (by assumption)), by assumption, ?_⟩
        exact ⟨rfl, by rw [row_succ, List.map_append]; rfl⟩
    · rintro ys H5 ⟨rfl, rfl⟩ l4 H6 N6
      rw [List.length_map, la] at N6
      have h6 := N6.at_
      refine ⟨_, _, rfl, SqL.of (by assumption), _, rfl, _, rfl, _, _, rfl, rfl, by omega, ?_⟩
      refine ⟨S4.trans N6.same, ?_⟩
      rw [row_sum, row_succ, List.map_append]
      have : ext f r c m r j = (- sumZ r (fun a => e1 f c m a j)) % m := by unfold ext; rw [if_neg (Nat.lt_irrefl _)]
      rw [this]
      rfl
  rintro ys H4 ⟨S4, rfl⟩ ll H5 N5
  refine ⟨(by show 1 ≤ sizeLine; decide), fun lo H6 N6 => ?_⟩
  have S26 : Same H2 H6 := S23.trans (S4.trans (N5.same.trans N6.same))
  refine ⟨lp, lo, _, _, rfl, rfl, S26 _ _ hlp, N6.at_, ?_, fun p H7 N7 => ?_⟩
  · rw [List.length_map, la]
    exact Nat.le_trans (Nat.add_le_add_right r1 1) (by decide)
  have S27 := S26.trans N7.same
  have S02 : Same H H2 := S1.trans N2.same
  have nll : H ll = none := S02.free (S23.free (S4.free N5.gone))
  have llas : ll ∉ as := fun h => by
    obtain ⟨k, hk, ek⟩ := List.getElem_of_mem h
    have h1 := S23.trans S4 _ _ (hrow2 k ll (by rw [List.getElem?_eq_getElem hk, ek]))
    rw [N5.gone] at h1
    cases h1
  refine q p (as ++ [ll]) H7 (S02.trans S27) (S02.free (S26.free N7.gone)) (fun a ha => ?_) ⟨?_, ?_, ?_, fun i a x e1' e2' => ?_⟩ ?_
  · rcases List.mem_append.mp ha with h | h
    · exact fr_ a h
    · have : a = ll := by simpa using h
      rw [this]; exact nll
  · rw [N7.at_, List.map_append]; rfl
  · exact List.nodup_append.mpr ⟨nd, by simp, fun a ha b hb => by
      have : b = ll := by simpa using hb
      subst this
      rintro rfl
      exact llas ha⟩
  · rw [mk_len]; simp [la]
  · by_cases hi : i < r
    · rw [List.getElem?_append_left (by omega)] at e1'
      rw [mk_get (by omega)] at e2'
      have ex : x = row (c + 1) (e1 f c m i) := by
        rw [← Option.some.inj e2']
        exact row_congr fun j _ => by unfold ext; rw [if_pos hi]
      rw [ex]
      exact S27 _ _ (hrow2 i a e1')
    · rw [List.getElem?_append_right (by omega)] at e1'
      have hz : i - as.length = 0 := by
        have := (List.getElem?_eq_some_iff.mp e1').1
        simp at this
        omega
      have ei : i = r := by omega
      subst ei
      rw [hz] at e1'
      have : a = ll := by simpa using e1'.symm
      subst this
      rw [mk_get (by omega)] at e2'
      rw [← Option.some.inj e2']
      exact N7.same _ _ (N6.same _ _ N5.at_)
  · intro h
    rcases List.mem_append.mp h with h | h
    · obtain ⟨k, hk, ek⟩ := List.getElem_of_mem h
      have h1 := S26 _ _ (hrow2 k p (by rw [List.getElem?_eq_getElem hk, ek]))
      rw [N7.gone] at h1
      cases h1
    · have : p = ll := by simpa using h
      have h1 := N6.same _ _ N5.at_
      rw [← this, N7.gone] at h1
      cases h1
end
end K9
namespace K9
open PySem L2 SW
section
variable {P : Program} {w : World} {K : PySem.W.Frag} {mg : Str → Option Value} {base : Heap}
/-- the node from which a path came: none, or one -/
def pastV (z : V) : Prop := z = .non ∨ ∃ n : Nat, z = .int n
def spNext (K : PySem.W.Frag) : Sp := fun vs H Q _ => ∃ (l : Addr) (f : Nat → Nat → Int) (h m x : Nat) (u : Int) (z : V), vs = [.ref l, .int u, .int x, z] ∧ Mat K H l (mkT f h m) ∧ 0 < h ∧ h ≤ 60 ∧ 0 < m ∧ m ≤ 60 ∧ x < h + m ∧ pastV z ∧
  (∀ (y : Nat) H', Same H H' → opp h m x y → fr u (cv h f x y) → V.int y ≠ z → Q (.int y) H') ∧ (∀ H', Same H H' → (∀ y : Nat, opp h m x y → V.int y ≠ z → ¬ fr u (cv h f x y)) → Q .non H')
theorem up_get {lo : Int} {n k : Nat} (h : k < n) : ((upZ lo n).map V.int)[k]? = some (.int (lo + k)) := by unfold upZ; rw [List.getElem?_map, List.getElem?_map, List.getElem?_range h]; rfl
theorem up_len (lo : Int) (n : Nat) : ((upZ lo n).map V.int).length = n := by unfold upZ; simp
theorem ok_next_node (T : Txt K mg) : FnOk P w K mg base CX0 2 T.a_next_node T.fd_next_node ["parts", "w", "node", "past"] (spNext K) := by
  refine T.F_next_node.ok sc_next_node (fun vs H Q E h => ?_) (fun cdv A outer s H vs Q E hr h => ?_)
  · obtain ⟨l, f, h, m, x, u, z, rfl, _⟩ := h
    rfl
  obtain ⟨l, f, h, m, x, u, z, rfl, mt, h0, h1, m0, m1, hx, hz, q1, q2⟩ := h
  refine ⟨_, (pss_cons (ps_set (i := 4) sc_next_node.nd rfl (Or.inl rfl) (pe_callB (len_Q K) (by rfl) T.n_len PySem.boot_len (pa_cons (pv 0) pa_nil)))
      (pss_cons (ps_meet (ps_set (i := 5) sc_next_node.nd rfl (Or.inl rfl) (pe_ifExp (pt_cmpR op_lt (pv 2) (pv 4) (nomark _)) (pe_callTy (call_listR rfl) (by rfl) T.n_list PyProof.Rows.boot_list (pa_cons (pe_rng2 rfl T.n_range (pa_cons (pv 4) (pa_cons (pe_op op_add (pv 4) (pe_callB (len_Q K) (by rfl) T.n_len PySem.boot_len (pa_cons (pe_ix (ix_Q K) (pv 0) pe_int (fun _ _ => rfl)) pa_nil))) pa_nil))) pa_nil)) (pe_callTy (call_listR rfl) (by rfl) T.n_list PyProof.Rows.boot_list (pa_cons (pe_rng1 rfl T.n_range (pa_cons (pv 4) pa_nil)) pa_nil)))))
      (pss_cons (ps_for PassesOwn.never rfl (pi_listQ K (pv 5)) (pg_name (i := 6) sc_next_node.nd rfl (Or.inl rfl))
      (pss_cons (ps_set (i := 7) sc_next_node.nd rfl (Or.inl rfl) (pe_call (ok_cell_between T) (hr.mono (by decide)) rfl T.m_cell_between T.F_cell_between.kp T.b_cell_between .nil pass0 (pa_cons (pv 2) (pa_cons (pv 6) (pa_cons (pv 4) pa_nil)))))
      (pss_one (ps_if (PW.pt (pw_and (pt_cmpR op_ne (pv 6) (pv 3) (nomark _)) (pw_and1 (pt_chain op_lt op_lt pe_int (pe_ix (ix_Q K) (pe_ix (ix_Q K) (pv 0) (pe_ix (ix_Q K) (pv 7) pe_int (fun _ _ => rfl)) (fun _ _ => rfl)) (pe_ix (ix_Q K) (pv 7) pe_int (fun _ _ => rfl)) (fun _ _ => rfl)) (pv 1)))))
      (pss_one (ps_ret (pv 6)))
      pss_nil))))
      (pss_one (ps_ret pe_non))))), ?_⟩
  obtain ⟨as0, a0, sq0, at0, sr0, _⟩ := mt.get h0
  obtain ⟨as1, sl1, ln1⟩ := mt.top
  have sqt : Sq K H l (as1.map V.ref) := .inl sl1
  refine ⟨_, rfl, _, _, rfl, by assumption, ?_⟩
  rw [ln1]
  refine ⟨fun σ H1 => ∃ (lo : Addr) (b : Int) (n : Nat), Same H H1 ∧ σ = [some (.ref l), some (.int u), some (.int x), some z, some (.int h), some (.ref lo), none, none] ∧ H1 lo = some (.lst ((upZ b n).map V.int)) ∧ (∀ k : Nat, k < n → ∃ y : Nat, b + k = y ∧ opp h m x y) ∧ n ≤ 100 ∧ ∀ y : Nat, opp h m x y → ∃ k : Nat, k < n ∧ b + k = y, ?_, ?_⟩
  · refine ⟨_, rfl, _, rfl, _, _, rfl, rfl, _, rfl, ?_⟩
    refine ite3 (fun c => ?_) (fun c => ?_)
    · have c' : x < h := by omega
      refine ⟨_, rfl, _, rfl, _, rfl, l, _, _, _, rfl, rfl, sq0, at0, a0, _, rfl, sr0, _, _, rfl, rfl, _, _, rfl, fun pr H1 N1 => ?_⟩
      rw [List.length_map, row_len] at N1
      refine ⟨pr, _, _, rfl, N1.at_, by omega, by omega, by omega, by omega, by omega, fun lo H2 N2 => ?_⟩
      have e : ((h : Int) + m - h).toNat = m := by omega
      rw [e] at N2
      refine ⟨lo, h, m, N1.same.trans N2.same, rfl, N2.at_, fun k hk => ⟨h + k, by omega, .inl ⟨c', by omega, by omega⟩⟩, by omega, fun y oy => ?_⟩
      rcases oy with ⟨_, y1, y2⟩ | ⟨y1, _, _⟩
      · exact ⟨y - h, by omega, by omega⟩
      · omega
    · have c' : ¬ x < h := by omega
      refine ⟨_, rfl, _, rfl, fun pr H1 N1 => ?_⟩
      refine ⟨pr, _, _, rfl, N1.at_, by omega, by omega, by omega, by omega, by omega, fun lo H2 N2 => ?_⟩
      have e : ((h : Int) - 0).toNat = h := by omega
      rw [e] at N2
      refine ⟨lo, 0, h, N1.same.trans N2.same, rfl, N2.at_, fun k hk => ⟨k, by omega, .inr ⟨by omega, hx, hk⟩⟩, by omega, fun y oy => ?_⟩
      rcases oy with ⟨y1, _, _⟩ | ⟨_, _, y1⟩
      · omega
      · exact ⟨y, y1, by omega⟩
  rintro σ H1 ⟨lo, b, n, S1, rfl, hlo, all, n1, has⟩
  refine ⟨_, rfl, ?_⟩
  refine ⟨lo, rfl, ⟨_, SqL.of hlo⟩, ?_⟩
  refine for_list (K := K) (a := lo) (xs := (upZ b n).map V.int) (fun i σ H2 => Same H1 H2 ∧ (∃ v6 v7, σ = [some (.ref l), some (.int u), some (.int x), some z, some (.int h), some (.ref lo), v6, v7]) ∧ ∀ k : Nat, k < i → ∀ y : Nat, b + k = y → V.int y ≠ z → ¬ fr u (cv h f x y)) ⟨Same.refl _, ⟨_, _, rfl⟩, fun k hk => absurd hk (Nat.not_lt_zero _)⟩ (fun i σ H2 _ hh => hh.1.seq (SqL.of hlo)) ?_ ?_
  · rintro i v σ H2 hv ⟨S2, ⟨v6, v7, rfl⟩, no⟩
    have hi : i < n := by have := (List.getElem?_eq_some_iff.mp hv).1; rw [up_len] at this; exact this
    rw [up_get hi] at hv
    have hv' : v = .int (b + i) := (Option.some.inj hv).symm
    subst hv'
    obtain ⟨y, ey, oy⟩ := all i hi
    rw [ey]
    refine ⟨_, rfl, _, rfl, _, rfl, ?_⟩
    refine ⟨x, y, h, rfl, ?_, fun tc H3 N3 => ?_⟩
    · rcases oy with ⟨o1, o2, _⟩ | ⟨o1, _⟩
      · exact .inl ⟨o1, o2⟩
      · exact .inr o1
    have S3 := S2.trans N3.same
    have htc := N3.at_
    obtain ⟨c1, c2, _⟩ := opp_cell oy
    obtain ⟨as2, a2, sq2, at2, sr2, _⟩ := (mt.same (S1.trans S3)).get c1
    have at3 : atI ((row m (f (cr h x y))).map V.int) ((cc h x y : Nat) : Int) = some (.int (cv h f x y)) := at_row c2
    have hne : ∀ w', V.int w' = .non → False := fun w' q => by cases q
    have sc : scal (.int y) z = true := by
      rcases hz with rfl | ⟨k, rfl⟩ <;> rfl
    have stay : (V.int y ≠ z → ¬ fr u (cv h f x y)) → ∀ k : Nat, k < i + 1 → ∀ y' : Nat, b + k = y' → V.int y' ≠ z → ¬ fr u (cv h f x y') := fun hh k hk y' ey' hn => by
      by_cases e : k = i
      · subst e
        have : y' = y := by omega
        subst this
        exact hh hn
      · exact no k (by omega) y' ey' hn
    refine ⟨_, rfl, _, rfl, sc, _, rfl, ?_⟩
    by_cases hyz : V.int (y : Int) = z
    · rw [decide_eq_true hyz]
      refine iteF (iteF ?_)
      exact ⟨S3, ⟨_, _, rfl⟩, stay fun hn => absurd hyz hn⟩
    · rw [decide_eq_false hyz]
      refine iteT ?_
      refine ⟨_, rfl, _, rfl, tc, _, _, _, rfl, rfl, .inr (SqT.of htc), rfl, l, _, _, _, rfl, rfl, sq2, at2, _, rfl, tc, _, _, _, rfl, rfl, .inr (SqT.of htc), rfl, a2, _, _, _, rfl, rfl, sr2, at3, _, _, rfl, rfl, _, rfl, ?_⟩
      refine ite3 (fun c => ?_) (fun c => ?_)
      · refine ⟨_, rfl, _, _, rfl, rfl, _, rfl, ite3 (fun c' => ?_) (fun c' => ?_)⟩
        · refine ⟨_, rfl, ?_⟩
          exact q1 y H3 (S1.trans S3) oy ⟨c, c'⟩ hyz
        · exact ⟨S3, ⟨_, _, rfl⟩, stay fun _ ff => c' ff.2⟩
      · exact ⟨_, rfl, iteF ⟨S3, ⟨_, _, rfl⟩, stay fun _ ff => c ff.1⟩⟩
  · rintro σ H2 ⟨S2, ⟨v6, v7, rfl⟩, no⟩
    rw [up_len] at no
    refine q2 H2 (S1.trans S2) fun y oy hn => ?_
    obtain ⟨k, hk, ek⟩ := has y oy
    exact no k hk y ek hn
end
end K9
namespace SW
theorem opp_sym {h m x y : Nat} (o : opp h m x y) : opp h m y x := by
  rcases o with ⟨a, b, c⟩ | ⟨a, b, c⟩
  · exact .inr ⟨b, c, a⟩
  · exact .inl ⟨c, a, b⟩
theorem cv_sym {h m x y : Nat} {P : Nat → Nat → Int} (o : opp h m x y) : cv h P y x = cv h P x y := by
  unfold cv cr cc
  rcases o with ⟨a, b, c⟩ | ⟨a, b, c⟩
  · rw [if_neg (by omega), if_neg (by omega), if_pos a, if_pos a]
  · rw [if_pos c, if_pos c, if_neg (by omega), if_neg (by omega)]
theorem first_of {r : Nat → Nat} {v : Nat} : ∀ t, r t = v → ∃ s, s ≤ t ∧ r s = v ∧ ∀ k, k < s → r k ≠ v := by
  intro t
  induction t using Nat.strongRecOn with
  | ind t ih =>
    intro e
    by_cases q : ∃ k, k < t ∧ r k = v
    · obtain ⟨k, hk, ek⟩ := q
      obtain ⟨s, s1, s2, s3⟩ := ih k hk ek
      exact ⟨s, by omega, s2, s3⟩
    · exact ⟨t, Nat.le_refl _, e, fun k hk z => q ⟨k, hk, z⟩⟩
end SW
namespace L2
open PySem SW
theorem cut_init (xs : List V) (v : V) : cutV (xs ++ [v]) none (some (-1)) = xs := by
  unfold cutV
  have e1 : HT.sIx (xs ++ [v]).length 0 none = 0 := rfl
  have e2 : HT.sIx (xs ++ [v]).length (xs ++ [v]).length (some (-1)) = xs.length := by
    simp only [HT.sIx, List.length_append, List.length_singleton]
    split <;> omega
  rw [e1, e2]
  simp
theorem cut_from {xs : List V} {k : Nat} (h : k ≤ xs.length) : cutV xs (some (k : Int)) none = xs.drop k := by
  unfold cutV
  have e1 : HT.sIx xs.length 0 (some (k : Int)) = k := by
    simp only [HT.sIx]
    split <;> omega
  have e2 : HT.sIx xs.length xs.length none = xs.length := rfl
  rw [e1, e2, List.take_of_length_le (by rw [List.length_drop]; omega)]
/-- a path: none ahead, then nodes -/
def nds (n : Nat) (r : Nat → Nat) : List V := (List.range n).map fun k => V.int (r k)
theorem nds_len (n : Nat) (r : Nat → Nat) : (nds n r).length = n := by unfold nds; simp
theorem nds_get {n k : Nat} {r : Nat → Nat} (h : k < n) : (nds n r)[k]? = some (.int (r k)) := by unfold nds; rw [List.getElem?_map, List.getElem?_range h]; rfl
theorem nds_succ (n : Nat) (r : Nat → Nat) : nds (n + 1) r = nds n r ++ [.int (r n)] := by unfold nds; rw [List.range_succ, List.map_append]; rfl
theorem nds_congr {n : Nat} {r r' : Nat → Nat} (h : ∀ k, k < n → r k = r' k) : nds n r = nds n r' := by
  unfold nds
  exact List.map_congr_left fun k hk => by rw [h k (List.mem_range.mp hk)]
theorem nds_flat (n : Nat) (r : Nat → Nat) : (nds n r).all flatV = true := by
  rw [List.all_eq_true]
  intro x hx
  obtain ⟨k, _, rfl⟩ := List.mem_map.mp hx
  rfl
theorem nds_in {n : Nat} {r : Nat → Nat} {v : Nat} : inV (.int v) (nds n r) = true ↔ ∃ k, k < n ∧ r k = v := by
  unfold inV
  rw [List.any_eq_true]
  constructor
  · rintro ⟨x, hx, e⟩
    obtain ⟨k, hk, rfl⟩ := List.mem_map.mp hx
    have e' : ((r k : Int) == (v : Int)) = true := e
    exact ⟨k, List.mem_range.mp hk, by have := eq_of_beq e'; omega⟩
  · rintro ⟨k, hk, e⟩
    refine ⟨_, List.mem_map.mpr ⟨k, List.mem_range.mpr hk, rfl⟩, ?_⟩
    show ((r k : Int) == (v : Int)) = true
    rw [e]; simp
end L2
namespace K9
open PySem L2 SW
section
variable {P : Program} {w : World} {K : PySem.W.Frag} {mg : Str → Option Value} {base : Heap}
def spRing (K : PySem.W.Frag) : Sp := fun vs H Q _ => ∃ (l : Addr) (f : Nat → Nat → Int) (h m : Nat) (u : Int), vs = [.ref l, .int u] ∧ Mat K H l (mkT f h m) ∧ 0 < h ∧ h ≤ 60 ∧ 0 < m ∧ m ≤ 60 ∧ (∀ i j, i < h → j < m → 0 ≤ f i j ∧ f i j ≤ u) ∧ (∀ x, x < h + m → u ∣ ls h m f x) ∧
  (∀ p H', Same H H' → H p = none → H' p = some (.lst []) → (∀ i j, i < h → j < m → ¬ fr u (f i j)) → Q (.ref p) H') ∧ (∀ p H' r L, Same H H' → H p = none → H' p = some (.lst (nds (L + 1) r)) → Ring h m u f r L → L ≤ 200 → Q (.ref p) H')
theorem ok_ring (T : Txt K mg) : FnOk P w K mg base CX0 3 T.a_ring T.fd_ring ["parts", "w"] (spRing K) := by
  refine T.F_ring.ok sc_ring (fun vs H Q E h => ?_) (fun cdv A outer s H vs Q E hr h => ?_)
  · obtain ⟨l, f, h, m, u, rfl, _⟩ := h
    rfl
  obtain ⟨l, f, h, m, u, rfl, mt, h0, h1, m0, m1, bd, wh, q1, q2⟩ := h
  refine ⟨_, (pss_cons (ps_setC (i := 2) [4] rfl (blk_of rfl) (pi_range1 rfl T.n_range (pa_cons (pe_callB (len_Q K) (by rfl) T.n_len PySem.boot_len (pa_cons (pv 0) pa_nil)) pa_nil)) (fun _ => (pg_name (i := 4) sc_ring.nd rfl (Or.inl rfl))) (fun _ => pts_one (pt_cmpR op_notN (pe_call (ok_next_node T) (hr.mono (by decide)) rfl T.m_next_node T.F_next_node.kp T.b_next_node .nil pass0 (pa_cons (pv 0) (pa_cons (pv 1) (pa_cons (pv 4) (pa_cons pe_non pa_nil))))) pe_non (nomark _))) (fun _ => (pv 4)) sc_ring.nd rfl rfl)
      (pss_cons (ps_if (pt_cmpR op_eqI (pe_callB (len_Q K) (by rfl) T.n_len PySem.boot_len (pa_cons (pv 2) pa_nil)) pe_int (nomark _))
      (pss_one (ps_ret (pe_lstA pa_nil)))
      pss_nil)
      (pss_cons (ps_set (i := 3) sc_ring.nd rfl (Or.inl rfl) (pe_lstA (pa_cons pe_non (pa_cons (pe_ix (ix_Q K) (pv 2) pe_int (fun _ _ => rfl)) pa_nil))))
      (pss_cons (ps_while PassesOwn.never (pt_cmpR (notIn_Q K) (pe_ix (ix_Q K) (pv 3) (pe_un un_neg pe_int) (fun _ _ => rfl)) (pe_slice (sl_Q K) (pv 3) po_none (po_some (pe_un un_neg pe_int))) (by with_unfolding_all rfl))
      (pss_one (ps_expr (pe_bm PySem.F.plainAttrs_list PySem.F.slot_list_append PySem.F.type_list_append mt_append (pv 3) (pa_cons (pe_call (ok_next_node T) (hr.mono (by decide)) rfl T.m_next_node T.F_next_node.kp T.b_next_node .nil pass0 (pa_cons (pv 0) (pa_cons (pv 1) (pa_cons (pe_ix (ix_Q K) (pv 3) (pe_un un_neg pe_int) (fun _ _ => rfl)) (pa_cons (pe_ix (ix_Q K) (pv 3) (pe_un un_neg pe_int) (fun _ _ => rfl)) pa_nil))))) pa_nil)))))
      (pss_one (ps_ret (pe_slice (sl_Q K) (pv 3) (po_some (pe_index K (pv 3) (pa_cons (pe_ix (ix_Q K) (pv 3) (pe_un un_neg pe_int) (fun _ _ => rfl)) pa_nil))) po_none))))))), ?_⟩
  obtain ⟨as1, sl1, ln1⟩ := mt.top
  have sqt : Sq K H l (as1.map V.ref) := .inl sl1
  refine ⟨_, rfl, _, _, rfl, by assumption, ?_⟩
  rw [ln1]
  refine ⟨_, rfl, by omega, by omega, ?_⟩
  rw [Int.toNat_natCast]
  refine comp_range (fun i ys H' => Same H H' ∧ ∃ st : List Nat, ys = st.map (fun (k : Nat) => V.int k) ∧ (∀ k, k ∈ st → k < h ∧ ∃ y, opp h m k y ∧ fr u (cv h f k y)) ∧ (st = [] → ∀ k, k < i → ∀ y, opp h m k y → ¬ fr u (cv h f k y)) ∧ st.length ≤ i) (Nat.le_trans h1 (by decide)) ⟨Same.refl _, [], rfl, fun k hk => (by cases hk), fun _ k hk => absurd hk (Nat.not_lt_zero _), Nat.le_refl _⟩ ?_ ?_
  · rintro i ys H1 hi ⟨S1, st, rfl, s1, s2, s3⟩
    refine ⟨_, rfl, _, rfl, _, rfl, ?_⟩
    rw [Int.zero_add]
    refine ⟨l, f, h, m, i, u, .non, rfl, mt.same S1, h0, h1, m0, m1, by omega, .inl rfl, fun y H2 S2 oy fy _ => ?_, fun H2 S2 no => ?_⟩
    · refine ⟨rfl, _, rfl, iteT ⟨_, rfl, S1.trans S2, st ++ [i], by simp, fun k hk => ?_, fun z => by simp at z, by simp; omega⟩⟩
      rcases List.mem_append.mp hk with hk | hk
      · exact s1 k hk
      · have : k = i := by simpa using hk
        subst this
        exact ⟨hi, y, oy, fy⟩
    · refine ⟨rfl, _, rfl, iteF ⟨S1.trans S2, st, rfl, s1, fun z k hk y oy => ?_, by omega⟩⟩
      by_cases e : k = i
      · subst e; exact no y oy (by intro q; cases q)
      · exact s2 z k (by omega) y oy
  rintro ys H1 ⟨S1, st, rfl, s1, s2, s3⟩ l2 H2 N2
  have S2 := N2.same
  have hl2 := N2.at_
  refine ⟨_, rfl, _, _, rfl, Or.inl (SqL.of (by assumption)), _, _, rfl, rfl, _, rfl, ?_⟩
  rw [List.length_map]
  refine ite3 (fun c => ?_) (fun c => ?_)
  · have ez : st = [] := List.length_eq_zero_iff.mp (by omega)
    refine ⟨Nat.zero_le _, fun p H3 N3 => ?_⟩
    refine q1 p H3 (S1.trans (S2.trans N3.same)) (S1.free (S2.free N3.gone)) N3.at_ fun i j hi hj ff => ?_
    refine s2 ez i hi (h + j) (.inl ⟨hi, by omega, by omega⟩) ?_
    have : cv h f i (h + j) = f i j := by unfold cv cr cc; rw [if_pos hi, if_pos hi, show h + j - h = j by omega]
    rw [this]
    exact ff
  match st, c, hl2, s1 with
  | [], c, _, _ => exact absurd rfl c
  | v0 :: st', _, hl2, s1 =>
  have at0 : atI ((v0 :: st').map fun (k : Nat) => V.int k) 0 = some (.int v0) := atI_of (by decide) rfl
  refine ⟨_, rfl, _, _, _, _, rfl, rfl, Or.inl (SqL.of (by assumption)), by assumption, ?_⟩
  refine ⟨(by show 2 ≤ sizeLine; decide), fun lp H3 N3 => ?_⟩
  have S03 : Same H H3 := S1.trans (S2.trans N3.same)
  have nlp : H lp = none := S1.free (S2.free N3.gone)
  have s0 := s1 v0 List.mem_cons_self
  refine ⟨fun n σ H4 => ∃ (t : Nat) (r : Nat → Nat), Same H H4 ∧ σ = [some (.ref l), some (.int u), some (.ref l2), some (.ref lp), none] ∧ H4 lp = some (.lst (.non :: nds (t + 1) r)) ∧ (∀ k, k < t → opp h m (r k) (r (k + 1)) ∧ fr u (cv h f (r k) (r (k + 1)))) ∧ (∀ k, k + 2 ≤ t → r k ≠ r (k + 2)) ∧
    (∀ i j, i < j → j < t → r i ≠ r j) ∧ (∀ k, k ≤ t → r k < h + m) ∧ (∃ y, opp h m (r 0) y ∧ fr u (cv h f (r 0) y)) ∧ n = h + m + 1 - t ∧ t ≤ h + m, ⟨_, 0, fun _ => v0, S03, rfl, N3.at_, fun k hk => absurd hk (Nat.not_lt_zero _), fun k hk => absurd hk (by omega), fun i j _ hj => absurd hj (Nat.not_lt_zero _), fun _ _ => (by have := s0.1; show v0 < h + m; omega), s0.2, rfl, by omega⟩, ?_⟩
  rintro n σ H4 ⟨t, r, S4, rfl, hp, way, nb, ap, bn, fst, rfl, tb⟩
  have ep : (V.non :: nds (t + 1) r) = (V.non :: nds t r) ++ [.int (r t)] := by rw [nds_succ]; rfl
  have atL : atI (V.non :: nds (t + 1) r) (-1) = some (.int (r t)) := by rw [ep]; exact atI_last _ _
  have mt4 := mt.same S4
  refine ⟨_, rfl, _, rfl, _, _, _, _, rfl, rfl, Or.inl (SqL.of (by assumption)), by assumption, _, rfl, _, rfl, ?_⟩
  refine ⟨_, rfl, lp, _, rfl, SqL.of hp, fun l5 H5 N5 => ?_⟩
  have S5 := N5.same
  have c5 := N5.at_
  rw [ep, cut_init] at c5
  have flat5 : (V.non :: nds t r).all flatV = true := by rw [List.all_cons, nds_flat]; rfl
  refine ⟨l5, _, rfl, .inl (SqL.of c5), rfl, flat5, _, rfl, ?_⟩
  have einV : inV (.int (r t : Int)) (V.non :: nds t r) = inV (.int (r t : Int)) (nds t r) := by
    unfold inV; rw [List.any_cons]; rfl
  rw [if_pos rfl, einV]
  have S05 := S4.trans S5
  have hp5 := S5 _ _ hp
  cases hin : inV (.int (r t : Int)) (nds t r) with
  | false =>
    refine iteT ?_
    have ap' : ∀ i j, i < j → j < t + 1 → r i ≠ r j := fun i j hij hj e => by
      by_cases ejt : j = t
      · subst ejt
        have := nds_in.mpr ⟨i, hij, e⟩
        rw [hin] at this
        cases this
      · exact ap i j hij (by omega) e
    have tb' : t + 1 ≤ h + m := by
      have nd : ((List.range (t + 1)).map r).Nodup := by
        rw [List.Nodup, List.pairwise_map]
        refine List.Pairwise.imp_of_mem ?_ (List.pairwise_lt_range (n := t + 1))
        intro a b ha hb hab
        exact ap' a b hab (List.mem_range.mp hb)
      have := nodup_bound (h + m) _ nd fun x hx => by
        obtain ⟨k, hk, rfl⟩ := List.mem_map.mp hx
        exact bn k (by have := List.mem_range.mp hk; omega)
      simpa using this
    obtain ⟨z, hz, atz, hpast, hnext⟩ : ∃ z, z = (if t = 0 then V.non else .int (r (t - 1))) ∧ atI (V.non :: nds (t + 1) r) (-2) = some z ∧ pastV z ∧ ∃ y, opp h m (r t) y ∧ V.int y ≠ z ∧ fr u (cv h f (r t) y) := by
      by_cases t0 : t = 0
      · subst t0
        obtain ⟨y, oy, fy⟩ := fst
        exact ⟨.non, by rw [if_pos rfl], rfl, .inl rfl, y, oy, (by intro q; cases q), fy⟩
      · obtain ⟨t', rfl⟩ : ∃ t', t = t' + 1 := ⟨t - 1, by omega⟩
        have o1 := way t' (by omega)
        obtain ⟨y, oy, fy, ny⟩ := second bd (wh (r (t' + 1)) (bn _ (Nat.le_refl _))) (opp_sym o1.1) (by rw [cv_sym o1.1]; exact o1.2)
        refine ⟨.int (r t'), by rw [if_neg (by omega)]; rfl, ?_, .inr ⟨_, rfl⟩, y, oy, fun e => ny ?_, fy⟩
        · unfold atI ixN
          rw [List.length_cons, nds_len, if_neg (by decide), if_pos (by omega)]
          have : ((-2 : Int) + ((t' + 1 + 1 + 1 : Nat) : Int)).toNat = t' + 1 := by omega
          rw [this]
          show (nds (t' + 1 + 1) r)[t']? = _
          exact nds_get (by omega)
        · have := V.int.inj e
          omega
    refine ⟨_, fun _ _ hh => hh, ?_⟩
    refine ⟨_, rfl, .inl ⟨rfl, _, SqL.of hp5⟩, ?_⟩
    refine ⟨_, rfl, _, rfl, _, rfl, _, rfl, lp, _, _, _, rfl, rfl, .inl (SqL.of hp5), atL, _, rfl, _, rfl, lp, _, _, _, rfl, rfl, .inl (SqL.of hp5), atz, ?_⟩
    refine ⟨l, f, h, m, r t, u, z, rfl, mt.same S05, h0, h1, m0, m1, bn t (Nat.le_refl _), hpast, fun y H6 S6 oy fy nyz => ?_, fun H6 S6 no => ?_⟩
    · refine ⟨lp, _, _, rfl, rfl, S6 _ _ hp5, ?_, ?_⟩
      · rw [List.length_cons, nds_len]; exact small1000 (by omega)
      obtain ⟨r', ra, rb⟩ : ∃ r' : Nat → Nat, r' (t + 1) = y ∧ ∀ k, k ≠ t + 1 → r' k = r k := ⟨fun k => if k = t + 1 then y else r k, if_pos rfl, fun k hk => if_neg hk⟩
      refine ⟨h + m + 1 - (t + 1), by omega, t + 1, r', (S05.trans S6).upd nlp, rfl, ?_, fun k hk => ?_, fun k hk => ?_, fun i j hij hj => ?_, fun k hk => ?_, ?_, rfl, tb'⟩
      · rw [upd_same, nds_succ (t + 1) r', ra, nds_congr (r' := r) fun k hk => rb k (by omega)]
        rfl
      · by_cases e : k = t
        · subst e
          rw [ra, rb k (by omega)]
          exact ⟨oy, fy⟩
        · rw [rb k (by omega), rb (k + 1) (by omega)]
          exact way k (by omega)
      · by_cases e : k + 2 = t + 1
        · rw [e, ra, rb k (by omega)]
          intro q
          refine nyz ?_
          rw [hz, if_neg (by omega), ← q, show k = t - 1 by omega]
        · rw [rb k (by omega), rb (k + 2) e]
          exact nb k (by omega)
      · rw [rb i (by omega), rb j (by omega)]
        exact ap' i j hij hj
      · by_cases e : k = t + 1
        · rw [e, ra]
          rcases oy with ⟨_, _, o⟩ | ⟨_, _, o⟩ <;> omega
        · rw [rb k e]; exact bn k (by omega)
      · rw [rb 0 (by omega)]; exact fst
    · obtain ⟨y, oy, ny, fy⟩ := hnext
      exact absurd fy (no y oy ny)
  | true =>
    refine iteF ?_
    obtain ⟨k0, hk0, ek0⟩ := nds_in.mp hin
    obtain ⟨sx, sx1, sx2, sx3⟩ := first_of k0 ek0
    have hst : sx < t := by omega
    refine ⟨_, rfl, _, rfl, ?_⟩
    refine ⟨.inl ⟨rfl, _, SqL.of hp5⟩, ?_⟩
    refine ⟨_, rfl, _, rfl, lp, _, _, _, rfl, rfl, .inl (SqL.of hp5), atL, ?_⟩
    have flat6 : (V.non :: nds (t + 1) r).all flatV = true := by rw [List.all_cons, nds_flat]; rfl
    refine ⟨lp, _, _, sx + 1, rfl, rfl, SqL.of hp5, rfl, flat6, ⟨.int (r sx), ?_, ?_⟩, fun k z hk ez => ?_, ?_⟩
    · show (nds (t + 1) r)[sx]? = _
      exact nds_get (by omega)
    · show ((r sx : Int) == (r t : Int)) = true
      rw [sx2]; simp
    · cases k with
      | zero =>
        have : z = .non := by simpa using ez.symm
        subst this
        rfl
      | succ k =>
        have ez' : (nds (t + 1) r)[k]? = some z := by simpa using ez
        rw [nds_get (by omega)] at ez'
        have : z = .int (r k) := (Option.some.inj ez').symm
        subst this
        show ((r k : Int) == (r t : Int)) = false
        rw [beq_eq_false_iff_ne]
        intro q
        exact sx3 k (by omega) (by omega)
    refine ⟨_, rfl, lp, _, rfl, SqL.of hp5, fun p H6 N6 => ?_⟩
    have c6 := N6.at_
    rw [cut_from (by rw [List.length_cons, nds_len]; omega)] at c6
    have e6 : (V.non :: nds (t + 1) r).drop (sx + 1) = nds (t - sx + 1) (fun k => r (sx + k)) := by
      apply List.ext_getElem?
      intro k
      rw [List.drop_succ_cons, List.getElem?_drop]
      by_cases hk : k < t - sx + 1
      · rw [nds_get (by omega), nds_get hk]
      · rw [List.getElem?_eq_none (by rw [nds_len]; omega), List.getElem?_eq_none (by rw [nds_len]; omega)]
    rw [e6] at c6
    refine q2 p H6 (fun k => r (sx + k)) (t - sx) (S05.trans N6.same) (S05.free N6.gone) c6 ⟨?_, ?_, fun k hk => ?_, fun k hk => ?_, fun i j hij hj => ap (sx + i) (sx + j) (by omega) (by omega)⟩ (by omega)
    · have n1 : t - sx ≠ 1 := fun e => by
        have o := (way sx hst).1
        rw [show sx + 1 = t by omega, ← sx2] at o
        rcases o with ⟨a, b, _⟩ | ⟨a, _, b⟩ <;> omega
      have n2 : t - sx ≠ 2 := fun e => nb sx (by omega) (by rw [show sx + 2 = t by omega]; exact sx2)
      omega
    · show r (sx + (t - sx)) = r (sx + 0)
      rw [show sx + (t - sx) = t by omega, Nat.add_zero, sx2]
    · exact (way (sx + k) (by omega)).1
    · exact (way (sx + k) (by omega)).2
end
end K9
namespace K9
open PySem L2 SW
section
variable {P : Program} {w : World} {K : PySem.W.Frag} {mg : Str → Option Value} {base : Heap}
/-- a pair of places -/
def CellV (H : Hp) (x : V) (p q : Nat) : Prop := ∃ a, x = .ref a ∧ H a = some (.tup [.int p, .int q])
theorem CellV.one {H : Hp} {x : V} {p q p' q' : Nat} (a : CellV H x p q) (b : CellV H x p' q') : p = p' ∧ q = q' := by
  obtain ⟨a1, e1, h1⟩ := a
  obtain ⟨a2, e2, h2⟩ := b
  subst e1
  cases e2
  rw [h1] at h2
  have := HO.tup.inj (Option.some.inj h2)
  injection this with i1 i2
  injection i2 with i3 _
  exact ⟨by have := V.int.inj i1; omega, by have := V.int.inj i3; omega⟩
def spShift (K : PySem.W.Frag) : Sp := fun vs H Q _ => ∃ (l : Addr) (as : List Addr) (f : Nat → Nat → Int) (h m : Nat) (u : Int) (pth : Addr) (r : Nat → Nat) (L : Nat), vs = [.ref l, .int u, .ref pth] ∧ MatM H l as (mkT f h m) ∧ l ∉ as ∧ h ≤ 60 ∧ m ≤ 60 ∧ 0 < h ∧ H pth = some (.lst (nds (L + 1) r)) ∧ pth ∉ as ∧ Ring h m u f r L ∧ L ≤ 200 ∧
  (∀ i j, i < h → j < m → 0 ≤ f i j ∧ f i j ≤ u) ∧ ∀ H' f', (∀ b o, H b = some o → b ∉ as → H' b = some o) → MatM H' l as (mkT f' h m) → (∀ x, x < h + m → ls h m f' x = ls h m f x) → (∀ i j, i < h → j < m → 0 ≤ f' i j ∧ f' i j ≤ u) → (∀ i j, i < h → j < m → f i j = 0 → f' i j = 0) → cnt h m u f' < cnt h m u f → Q .non H'
theorem ok_shift (T : Txt K mg) : FnOk P w K mg base CX0 2 T.a_shift T.fd_shift ["parts", "w", "path"] (spShift K) := by
  refine T.F_shift.ok sc_shift (fun vs H Q E h => ?_) (fun cdv A outer s H vs Q E hr h => ?_)
  · obtain ⟨l, as, f, h, m, u, pth, r, L, rfl, _⟩ := h
    rfl
  obtain ⟨l, as, f, h, m, u, pth, r, L, rfl, mt, las, h1, m1, h0, hp, pas, R, L1, bd, q⟩ := h
  refine ⟨_, (pss_cons (ps_setC (i := 3) [7] rfl (blk_of rfl) (pi_range1 rfl T.n_range (pa_cons (pe_op op_sub (pe_callB (len_Q K) (by rfl) T.n_len PySem.boot_len (pa_cons (pv 2) pa_nil)) pe_int) pa_nil)) (fun _ => (pg_name (i := 7) sc_shift.nd rfl (Or.inl rfl))) (fun _ => pts_nil) (fun _ => (pe_call (ok_cell_between T) (hr.mono (by decide)) rfl T.m_cell_between T.F_cell_between.kp T.b_cell_between .nil pass0 (pa_cons (pe_ix (ix_Q K) (pv 2) (pv 7) (fun _ _ => rfl)) (pa_cons (pe_ix (ix_Q K) (pv 2) (pe_op op_add (pv 7) pe_int) (fun _ _ => rfl)) (pa_cons (pe_callB (len_Q K) (by rfl) T.n_len PySem.boot_len (pa_cons (pv 0) pa_nil)) pa_nil))))) sc_shift.nd rfl rfl)
      (pss_cons (ps_setC (i := 4) [8] rfl (blk_of rfl) (pi_listQ K (pe_slice2 K (pv 3) po_none)) (fun _ => (pg_name (i := 8) sc_shift.nd rfl (Or.inl rfl))) (fun _ => pts_nil) (fun _ => (pe_op op_sub (pv 1) (pe_ix (ix_Q K) (pe_ix (ix_Q K) (pv 0) (pe_ix (ix_Q K) (pv 8) pe_int (fun _ _ => rfl)) (fun _ _ => rfl)) (pe_ix (ix_Q K) (pv 8) pe_int (fun _ _ => rfl)) (fun _ _ => rfl)))) sc_shift.nd rfl rfl)
      (pss_cons (ps_setC (i := 5) [8] rfl (blk_of rfl) (pi_listQ K (pe_slice2 K (pv 3) (po_some pe_int))) (fun _ => (pg_name (i := 8) sc_shift.nd rfl (Or.inl rfl))) (fun _ => pts_nil) (fun _ => (pe_ix (ix_Q K) (pe_ix (ix_Q K) (pv 0) (pe_ix (ix_Q K) (pv 8) pe_int (fun _ _ => rfl)) (fun _ _ => rfl)) (pe_ix (ix_Q K) (pv 8) pe_int (fun _ _ => rfl)) (fun _ _ => rfl))) sc_shift.nd rfl rfl)
      (pss_cons (ps_set (i := 6) sc_shift.nd rfl (Or.inl rfl) (pe_callB (min_Q K rfl) (by rfl) T.n_min PyProof.Rows.boot_min (pa_cons (pe_op op_catN (pv 4) (pv 5)) pa_nil)))
      (pss_one (ps_for PassesOwn.never rfl (pi_range1 rfl T.n_range (pa_cons (pe_callB (len_Q K) (by rfl) T.n_len PySem.boot_len (pa_cons (pv 3) pa_nil)) pa_nil)) (pg_name (i := 7) sc_shift.nd rfl (Or.inl rfl))
      (pss_one (ps_augS (pe_ix (ix_Q K) (pv 0) (pe_ix (ix_Q K) (pe_ix (ix_Q K) (pv 3) (pv 7) (fun _ _ => rfl)) pe_int (fun _ _ => rfl)) (fun _ _ => rfl)) (pe_ix (ix_Q K) (pe_ix (ix_Q K) (pv 3) (pv 7) (fun _ _ => rfl)) pe_int (fun _ _ => rfl)) (getL_Q K) (pe_ifExp (pt_cmpR op_eqI (pe_op op_mod (pv 7) pe_int) pe_int (nomark _)) (pv 6) (pe_un un_neg (pv 6))) ip_add set_list)))))))), ?_⟩
  have ztop : (as.map V.ref).length = h := by rw [List.length_map, mt.len, mk_len]
  refine ⟨_, rfl, _, _, rfl, Or.inl (SqL.of (by assumption)), _, _, rfl, rfl, ?_⟩
  rw [nds_len]
  refine ⟨_, rfl, by omega, by omega, ?_⟩
  have eL : (((L + 1 : Nat) : Int) - 1).toNat = L := by omega
  rw [eL]
  refine comp_range (fun i ys H' => Same H H' ∧ ∃ cs : List Addr, ys = cs.map V.ref ∧ cs.length = i ∧ ∀ (k : Nat) (a : Addr), cs[k]? = some a → H' a = some (.tup [.int (rr h r k), .int (rc h r k)])) (Nat.le_trans L1 (by decide)) ⟨Same.refl _, [], rfl, rfl, fun k a e => (by simp at e)⟩ ?_ ?_
  · rintro i ys H1 hi ⟨S1, cs, rfl, lc, hc⟩
    have hp1 := S1 _ _ hp
    have ht1 := S1 _ _ mt.top
    have at1 : atI (nds (L + 1) r) (0 + (i : Int)) = some (.int (r i)) := by rw [Int.zero_add]; exact atI_of (by omega) (by rw [Int.toNat_natCast]; exact nds_get (by omega))
    have at2 : atI (nds (L + 1) r) (0 + (i : Int) + 1) = some (.int (r (i + 1))) := atI_of (by omega) (by rw [show (0 + (i : Int) + 1).toNat = i + 1 by omega]; exact nds_get (by omega))
    refine yes ?_
    refine ⟨_, rfl, _, rfl, _, _, _, _, rfl, rfl, Or.inl (SqL.of (by assumption)), by assumption, _, rfl, _, rfl, _, _, rfl, rfl, _, _, _, _, rfl, rfl, Or.inl (SqL.of (by assumption)), by assumption, _, rfl, _, _, rfl, Or.inl (SqL.of (by assumption)), ?_⟩
    rw [ztop]
    refine ⟨r i, r (i + 1), h, rfl, ?_, fun p H2 N2 => ⟨S1.trans N2.same, cs ++ [p], by simp, by simp [lc], fun k a e => ?_⟩⟩
    · rcases R.way i hi with ⟨o1, o2, _⟩ | ⟨o1, _⟩
      · exact .inl ⟨o1, o2⟩
      · exact .inr o1
    · by_cases hk : k < cs.length
      · rw [List.getElem?_append_left hk] at e
        exact N2.same _ _ (hc k a e)
      · rw [List.getElem?_append_right (by omega)] at e
        have hz : k - cs.length = 0 := by have := (List.getElem?_eq_some_iff.mp e).1; simp at this; omega
        rw [hz] at e
        have ea : a = p := by simpa using e.symm
        have ek : k = i := by omega
        rw [ea, ek]
        exact N2.at_
  rintro ys H1 ⟨S1, cs, rfl, lc, hc⟩ lcs H2 N2
  have S2 : Same H H2 := S1.trans N2.same
  have hcs := N2.at_
  have cell : ∀ k, k < L → ∃ a, (cs.map V.ref)[k]? = some (.ref a) ∧ H2 a = some (.tup [.int (rr h r k), .int (rc h r k)]) := fun k hk => by
    have hk' : k < cs.length := by omega
    exact ⟨cs[k], by rw [List.getElem?_map, List.getElem?_eq_getElem hk']; rfl, N2.same _ _ (hc k _ (List.getElem?_eq_getElem hk'))⟩
  have rin : ∀ k, k < L → rr h r k < h ∧ rc h r k < m := fun k hk => by
    obtain ⟨c1, c2, _⟩ := opp_cell (R.way k hk)
    exact ⟨c1, c2⟩
  -- the two lists of rooms
  have pick : ∀ (lo : Nat), lo ≤ 1 → ∀ x, x ∈ twoV (cs.map V.ref) (if lo = 0 then none else some (lo : Int)) → ∃ k, k < L ∧ k % 2 = lo ∧ CellV H2 x (rr h r k) (rc h r k) := fun lo hlo x hx => by
    obtain ⟨k, ek⟩ := (mem_twoV hlo).mp hx
    have hk : lo + 2 * k < L := by have := (List.getElem?_eq_some_iff.mp ek).1; rw [List.length_map] at this; omega
    obtain ⟨a, e1, e2⟩ := cell _ hk
    rw [e1] at ek
    cases ek
    exact ⟨lo + 2 * k, hk, by omega, a, rfl, e2⟩
  have kcip : ∀ (lo : Nat), lo ≤ 1 → ∀ k, k < L → k % 2 = lo → ∃ x, x ∈ twoV (cs.map V.ref) (if lo = 0 then none else some (lo : Int)) ∧ CellV H2 x (rr h r k) (rc h r k) := fun lo hlo k hk e => by
    obtain ⟨a, e1, e2⟩ := cell k hk
    refine ⟨.ref a, (mem_twoV hlo).mpr ⟨k / 2, ?_⟩, a, rfl, e2⟩
    rw [show lo + 2 * (k / 2) = k by omega]
    exact e1
  have room : ∀ (g : Nat → Nat → Int) (xs : List V) (lo : Nat) (te : TE) (σ : St) (Rr : List V → Hp → Prop) (H3 : Hp) (l3 : Addr), lo ≤ 1 → xs = twoV (cs.map V.ref) (if lo = 0 then none else some (lo : Int)) → Same H2 H3 → SqL K H3 l3 xs →
      (∀ (p qq : Nat) (a : Addr) (Q' : VK), p < h → qq < m → H3 a = some (.tup [.int p, .int qq]) → Q' (.int (g p qq)) H3 → te (σ.set 8 (some (.ref a))) H3 Q') →
      (∀ us : List Int, (∀ k, k < L → k % 2 = lo → g (rr h r k) (rc h r k) ∈ us) → (∀ x, x ∈ us → ∃ k, k < L ∧ k % 2 = lo ∧ x = g (rr h r k) (rc h r k)) → us.length ≤ 200 → Rr (us.map V.int) H3) → CompW (Itl K l3) (gName 8) tYes te (wipe [8] σ) Rr H3 := by
    intro g xs lo te σ Rr H3 l3 hlo ex S3 sq hte hR
    have lx : xs.length ≤ 200 := by rw [ex]; exact Nat.le_trans (two_len _ _) (by rw [List.length_map, lc]; exact L1)
    refine comp_list (xs := xs) (fun i ys H' => H' = H3 ∧ ∃ us : List Int, ys = us.map V.int ∧ us.length = i ∧ ∀ (j : Nat) (x : V) (v : Int) (p qq : Nat), xs[j]? = some x → us[j]? = some v → CellV H3 x p qq → v = g p qq) (Nat.le_trans lx (by decide)) ⟨rfl, [], rfl, rfl, fun j x v p qq _ e => (by simp at e)⟩ (fun i ys H' _ hh => by rw [hh.1]; exact sq) ?_ ?_
    · rintro i x ys H4 hx ⟨rfl, us, rfl, lu, hu⟩
      have hxm : x ∈ twoV (cs.map V.ref) (if lo = 0 then none else some (lo : Int)) := by rw [← ex]; exact List.mem_of_getElem? hx
      obtain ⟨k, hk, _, a, rfl, ha⟩ := pick lo hlo x hxm
      have ha3 := S3 _ _ ha
      obtain ⟨c1, c2⟩ := rin k hk
      refine yes (hte _ _ a _ c1 c2 ha3 ⟨rfl, us ++ [g (rr h r k) (rc h r k)], by simp, by simp [lu], fun j x v p qq e1 e2 e3 => ?_⟩)
      by_cases hj : j < us.length
      · rw [List.getElem?_append_left hj] at e2
        exact hu j x v p qq e1 e2 e3
      · rw [List.getElem?_append_right (by omega)] at e2
        have hz : j - us.length = 0 := by have := (List.getElem?_eq_some_iff.mp e2).1; simp at this; omega
        rw [hz] at e2
        have ev : v = g (rr h r k) (rc h r k) := by simpa using e2.symm
        have ej : j = i := by omega
        rw [ej, hx] at e1
        cases e1
        obtain ⟨z1, z2⟩ := e3.one ⟨a, rfl, ha3⟩
        rw [ev, z1, z2]
    · rintro ys H4 ⟨rfl, us, rfl, lu, hu⟩
      have up3 : ∀ {x p qq}, CellV H2 x p qq → CellV H4 x p qq := fun ⟨a, e, ha⟩ => ⟨a, e, S3 _ _ ha⟩
      refine hR us (fun k hk e => ?_) (fun x hx => ?_) (by omega)
      · obtain ⟨x, hx, hc'⟩ := kcip lo hlo k hk e
        rw [← ex] at hx
        obtain ⟨j, hj, ej⟩ := List.getElem_of_mem hx
        have hj' : j < us.length := by omega
        have := hu j x us[j] _ _ (by rw [List.getElem?_eq_getElem hj, ej]) (List.getElem?_eq_getElem hj') (up3 hc')
        rw [← this]
        exact List.getElem_mem hj'
      · obtain ⟨j, hj, ej⟩ := List.getElem_of_mem hx
        have hj' : j < xs.length := by omega
        have hxm : xs[j] ∈ twoV (cs.map V.ref) (if lo = 0 then none else some (lo : Int)) := ex ▸ List.getElem_mem hj'
        obtain ⟨k, hk, e2, hc'⟩ := pick lo hlo _ hxm
        have := hu j xs[j] us[j] _ _ (List.getElem?_eq_getElem hj') (List.getElem?_eq_getElem hj) (up3 hc')
        exact ⟨k, hk, e2, by rw [← ej]; exact this⟩
  have rowat : ∀ {H3 : Hp}, Same H H3 → ∀ (p qq : Nat), p < h → qq < m → ∃ a, atI (as.map V.ref) (p : Int) = some (.ref a) ∧ H3 a = some (.lst ((row m (f p)).map V.int)) ∧ atI ((row m (f p)).map V.int) (qq : Int) = some (.int (f p qq)) := fun {H3} S3 p qq hp' hq' => by
    obtain ⟨a, e1, e2⟩ := mat_row mt.len hp'
    exact ⟨a, e2, S3 _ _ (mt.rows p a _ e1 (mk_get hp')), at_row hq'⟩
  refine ⟨_, rfl, ?_⟩
  refine ⟨lcs, _, rfl, SqL.of hcs, fun l3 H3 N3 => ⟨l3, rfl, ⟨_, SqL.of N3.at_⟩, ?_⟩⟩
  refine room (fun p qq => u - f p qq) _ 0 _ _ _ H3 l3 (by decide) rfl N3.same (SqL.of N3.at_) (fun p qq a Q' c1 c2 ha hQ => ?_) fun us us1 us2 us3 l4 H4 N4 => ?_
  · obtain ⟨b, a1, a2, a3⟩ := rowat (S2.trans N3.same) p qq c1 c2
    have ht3 := S2.trans N3.same _ _ mt.top
    refine ⟨_, rfl, _, rfl, _, rfl, _, _, _, _, rfl, rfl, Or.inr (SqT.of (by assumption)), rfl, _, _, _, _, rfl, rfl, Or.inl (SqL.of (by assumption)), by assumption, _, rfl, _, _, _, _, rfl, rfl, Or.inr (SqT.of (by assumption)), rfl, _, _, _, _, rfl, rfl, Or.inl (SqL.of (by assumption)), by assumption, _, _, rfl, rfl, ?_⟩
    exact hQ
  have S4 : Same H2 H4 := N3.same.trans N4.same
  refine ⟨_, rfl, ?_⟩
  refine ⟨_, rfl, lcs, _, rfl, SqL.of (S4 _ _ hcs), fun l5 H5 N5 => ⟨l5, rfl, ⟨_, SqL.of N5.at_⟩, ?_⟩⟩
  refine room f _ 1 _ _ _ H5 l5 (by decide) rfl (S4.trans N5.same) (SqL.of N5.at_) (fun p qq a Q' c1 c2 ha hQ => ?_) fun ds ds1 ds2 ds3 l6 H6 N6 => ?_
  · obtain ⟨b, a1, a2, a3⟩ := rowat (S2.trans (S4.trans N5.same)) p qq c1 c2
    have ht3 := S2.trans (S4.trans N5.same) _ _ mt.top
    refine ⟨_, rfl, _, rfl, _, _, _, _, rfl, rfl, Or.inr (SqT.of (by assumption)), rfl, _, _, _, _, rfl, rfl, Or.inl (SqL.of (by assumption)), by assumption, _, rfl, _, _, _, _, rfl, rfl, Or.inr (SqT.of (by assumption)), rfl, _, _, _, _, rfl, rfl, Or.inl (SqL.of (by assumption)), by assumption, ?_⟩
    exact hQ
  have S6 : Same H2 H6 := S4.trans (N5.same.trans N6.same)
  have S46 : Same H4 H6 := N5.same.trans N6.same
  refine ⟨_, rfl, _, rfl, ?_⟩
  refine ⟨l4, l6, _, _, rfl, rfl, S46 _ _ N4.at_, N6.at_, ?_, fun l7 H7 N7 => ?_⟩
  · rw [List.length_map, List.length_map]
    exact Nat.le_trans (show us.length + ds.length ≤ 400 by omega) (by decide)
  have e7 := N7.at_
  rw [← List.map_append] at e7
  have ring0 : 0 < L := by have := R.big; omega
  refine ⟨l7, us ++ ds, rfl, SqL.of e7, ?_, fun M hM hA => ?_⟩
  · have := us1 0 ring0 rfl
    rw [List.length_append]
    have := List.length_pos_of_mem this
    omega
  have S7 : Same H H7 := S2.trans (S6.trans N7.same)
  have frac : ∀ k, k < L → 0 < f (rr h r k) (rc h r k) ∧ f (rr h r k) (rc h r k) < u := fun k hk => R.frac k hk
  have up : ∀ k, k < L → k % 2 = 0 → M ≤ u - f (rr h r k) (rc h r k) := fun k hk e => hA _ (List.mem_append_left _ (us1 k hk e))
  have dn : ∀ k, k < L → k % 2 ≠ 0 → M ≤ f (rr h r k) (rc h r k) := fun k hk e => hA _ (List.mem_append_right _ (ds1 k hk (by omega)))
  have hit : ∃ k, k < L ∧ ((k % 2 = 0 ∧ M = u - f (rr h r k) (rc h r k)) ∨ (k % 2 = 1 ∧ M = f (rr h r k) (rc h r k))) := by
    rcases List.mem_append.mp hM with hm | hm
    · obtain ⟨k, hk, e, eq⟩ := us2 M hm
      exact ⟨k, hk, .inl ⟨e, eq⟩⟩
    · obtain ⟨k, hk, e, eq⟩ := ds2 M hm
      exact ⟨k, hk, .inr ⟨e, eq⟩⟩
  have M0 : 0 < M := by
    obtain ⟨k, hk, ⟨_, e⟩ | ⟨_, e⟩⟩ := hit
    · have := frac k hk; omega
    · have := frac k hk; omega
  have hcs7 := (S6.trans N7.same) _ _ hcs
  have lcn : (cs.map V.ref).length = L := by rw [List.length_map, lc]
  refine ⟨_, rfl, _, _, rfl, Or.inl (SqL.of (by assumption)), ?_⟩
  rw [lcn]
  refine ⟨_, rfl, by omega, by omega, ?_⟩
  rw [Int.toNat_natCast]
  have fin := fun a b (ha : a < h) (hb : b < m) => moved_bd R bd M0 up dn a b ha hb
  refine for_range (fun i σ H8 => (∃ v7 : Option V, σ = [some (.ref l), some (.int u), some (.ref pth), some (.ref lcs), some (.ref l4), some (.ref l6), some (.int M), v7, none]) ∧ (∀ b o, H7 b = some o → b ∉ as → H8 b = some o) ∧ MatM H8 l as (mkT (moved h r M f i) h m)) ⟨⟨_, rfl⟩, fun b o e _ => e, mt.same S7⟩ ?_ ?_
  · rintro i σ H8 hi ⟨⟨v7, rfl⟩, fr8, m8⟩
    have old : ∀ a, a ∈ as → ∃ o, H a = some (.lst o) := fun a ha => by
      obtain ⟨k, hk, ek⟩ := List.getElem_of_mem ha
      have hk' : k < h := by have := mt.len; rw [mk_len] at this; omega
      exact ⟨_, mt.rows k a _ (by rw [List.getElem?_eq_getElem hk, ek]) (mk_get hk')⟩
    have notas : ∀ a o, H7 a = some (.tup o) → a ∉ as := fun a o e ha => by
      obtain ⟨o', e'⟩ := old a ha
      rw [S7 _ _ e'] at e
      cases e
    have lcsas : lcs ∉ as := fun ha => by
      obtain ⟨o', e'⟩ := old lcs ha
      rw [S1.free N2.gone] at e'
      cases e'
    obtain ⟨a, e1, e2⟩ := cell i hi
    have ha7 := (S6.trans N7.same) _ _ e2
    have ha8 := fr8 _ _ ha7 (notas _ _ ha7)
    have hc8 := fr8 _ _ hcs7 lcsas
    have atc : atI (cs.map V.ref) (0 + (i : Int)) = some (.ref a) := by rw [Int.zero_add]; exact atI_of (by omega) (by rw [Int.toNat_natCast]; exact e1)
    obtain ⟨c1, c2⟩ := rin i hi
    obtain ⟨b, b1, b2⟩ := mat_row m8.len c1
    have hb8 := m8.rows _ b _ b1 (mk_get c1)
    have hbat : atI ((row m (moved h r M f i (rr h r i))).map V.int) ((rc h r i : Nat) : Int) = some (.int (f (rr h r i) (rc h r i))) := by rw [← moved_next (st := M) R hi]; exact at_row c2
    have ht8 := m8.top
    have lb : l ≠ b := fun z => by subst z; exact las (List.mem_of_getElem? b1)
    have setm := m8.set (v := f (rr h r i) (rc h r i) + dlt M i) b1 c1 c2 lb
    have ixn : ixN ((row m (moved h r M f i (rr h r i))).map V.int).length ((rc h r i : Nat) : Int) = some (rc h r i) := by
      unfold ixN
      rw [List.length_map, row_len, if_pos (by omega), if_pos (by omega)]
      simp
    have frame : ∀ v, ∀ b' o, H7 b' = some o → b' ∉ as → (upd H8 b v) b' = some o := fun v b' o e hn => by
      rw [upd_ne fun z => hn (by rw [z]; exact List.mem_of_getElem? b1)]
      exact fr8 _ _ e hn
    have even : ((0 + (i : Int)) % 2 = 0) ↔ i % 2 = 0 := by omega
    refine ⟨_, rfl, _, rfl, _, rfl, _, _, _, _, rfl, rfl, Or.inl (SqL.of (by assumption)), by assumption, _, _, _, _, rfl, rfl, Or.inr (SqT.of (by assumption)), rfl, _, _, _, _, rfl, rfl, Or.inl (SqL.of (by assumption)), by assumption, _, rfl, _, rfl, _, _, _, _, rfl, rfl, Or.inl (SqL.of (by assumption)), by assumption, _, _, _, _, rfl, rfl, Or.inr (SqT.of (by assumption)), rfl, _, _, _, _, rfl, rfl, SqL.of (by assumption), by assumption, _, rfl, _, _, rfl, rfl, by omega, _, _, rfl, rfl, _, rfl, ?_⟩
    refine ite3 (fun c => ?_) (fun c => ?_)
    · refine ⟨_, rfl, _, _, rfl, rfl, ?_⟩
      refine ⟨b, _, _, _, rfl, rfl, hb8, ixn, ⟨_, rfl⟩, frame _, ?_⟩
      have ed : dlt M i = M := by unfold dlt; rw [if_pos (even.mp c)]
      rw [ed] at setm
      have em : moved h r M f (i + 1) = upd2 (moved h r M f i) (rr h r i) (rc h r i) (f (rr h r i) (rc h r i) + M) := by show upd2 _ _ _ _ = _; rw [ed]
      rw [em]
      exact setm
    · refine ⟨_, rfl, _, rfl, _, _, rfl, rfl, ?_⟩
      refine ⟨b, _, _, _, rfl, rfl, hb8, ixn, ⟨_, rfl⟩, frame _, ?_⟩
      have ed : dlt M i = -M := by unfold dlt; rw [if_neg fun z => c (even.mpr z)]
      rw [ed] at setm
      have em : moved h r M f (i + 1) = upd2 (moved h r M f i) (rr h r i) (rc h r i) (f (rr h r i) (rc h r i) + -M) := by show upd2 _ _ _ _ = _; rw [ed]
      rw [em]
      exact setm
  · rintro σ H8 ⟨⟨v7, rfl⟩, fr8, m8⟩
    refine q H8 (moved h r M f L) (fun b o e hn => fr8 _ _ (S7 _ _ e) hn) m8 (fun x hx => moved_done R hx) (fun i j hi hj => ⟨(fin i j hi hj).1, (fin i j hi hj).2.1⟩) (fun i j hi hj => (fin i j hi hj).2.2.1) ?_
    obtain ⟨k, hk, hk2⟩ := hit
    obtain ⟨c1, c2⟩ := rin k hk
    refine cnt_lt (fun a b ha hb => (fin a b ha hb).2.2.2) c1 c2 (frac k hk) fun nf => ?_
    rw [moved_at R hk (Nat.le_refl _)] at nf
    unfold dlt at nf
    have nf1 := nf.1
    have nf2 := nf.2
    rcases hk2 with ⟨e, eq⟩ | ⟨e, eq⟩
    · rw [if_pos e] at nf2; omega
    · rw [if_neg (by omega)] at nf1; omega
end
end K9
namespace SW
structure Near (f M : Nat → Nat → Int) (r c : Nat) (u : Int) : Prop where
  nn : ∀ i j, i < r → j < c → 0 ≤ M i j
  cell : ∀ i j, i < r → j < c → f i j - u < M i j * u ∧ M i j * u < f i j + u
  rowS : ∀ i, i < r → sumZ c (f i) - u < sumZ c (M i) * u ∧ sumZ c (M i) * u < sumZ c (f i) + u
  colS : ∀ j, j < c → sumZ r (fun i => f i j) - u < sumZ r (fun i => M i j) * u ∧ sumZ r (fun i => M i j) * u < sumZ r (fun i => f i j) + u
  all : sumZ r (fun i => sumZ c (f i)) - u < sumZ r (fun i => sumZ c (M i)) * u ∧ sumZ r (fun i => sumZ c (M i)) * u < sumZ r (fun i => sumZ c (f i)) + u
theorem sumZ_neg (f : Nat → Int) : ∀ n, sumZ n (fun i => - f i) = - sumZ n f
  | 0 => rfl
  | n + 1 => by unfold sumZ; rw [sumZ_neg f n]; dsimp only; omega
theorem near_of {f g : Nat → Nat → Int} {r c : Nat} {u : Int} (u0 : 0 < u) (f0 : ∀ i j, i < r → j < c → 0 ≤ f i j) (gv : ∀ i j, i < r + 1 → j < c + 1 → g i j = 0 ∨ g i j = u) (gz : ∀ i j, i < r + 1 → j < c + 1 → ext f r c u i j = 0 → g i j = 0)
    (gs : ∀ x, x < (r + 1) + (c + 1) → ls (r + 1) (c + 1) g x = ls (r + 1) (c + 1) (ext f r c u) x) : Near f (fun i j => f i j / u + g i j / u) r c u := by
  have D : ∀ i j, i < r + 1 → j < c + 1 → -u < g i j - ext f r c u i j ∧ g i j - ext f r c u i j < u := fun i j hi hj => by
    have b := ext_bd (T := f) (r := r) (c := c) u0 i j
    rcases gv i j hi hj with e | e
    · omega
    · by_cases z : ext f r c u i j = 0
      · have := gz i j hi hj z; omega
      · omega
  have M : ∀ i j, i < r → j < c → (f i j / u + g i j / u) * u = f i j + (g i j - ext f r c u i j) := fun i j hi hj => by
    have e : ext f r c u i j = f i j % u := by unfold ext e1; rw [if_pos hi, if_pos hj]
    have h1 := Int.mul_ediv_add_emod (f i j) u
    have h2 : g i j / u * u = g i j := by
      rcases gv i j (by omega) (by omega) with q | q
      · rw [q]; simp
      · rw [q, Int.ediv_self (by omega), Int.one_mul]
    rw [Int.add_mul, h2, e, Int.mul_comm (f i j / u) u]
    omega
  have rowD : ∀ i, i < r + 1 → sumZ c (fun j => g i j - ext f r c u i j) = - (g i c - ext f r c u i c) := fun i hi => by
    have := gs i (by omega)
    unfold ls at this
    rw [if_pos hi, if_pos hi] at this
    have this : sumZ c (g i) + g i c = sumZ c (ext f r c u i) + ext f r c u i c := this
    rw [sumZ_sub]
    omega
  have colD : ∀ j, j < c + 1 → sumZ r (fun i => g i j - ext f r c u i j) = - (g r j - ext f r c u r j) := fun j hj => by
    have := gs (r + 1 + j) (by omega)
    unfold ls at this
    rw [if_neg (by omega), if_neg (by omega), show r + 1 + j - (r + 1) = j by omega] at this
    have this : sumZ r (fun i => g i j) + g r j = sumZ r (fun i => ext f r c u i j) + ext f r c u r j := this
    rw [sumZ_sub]
    omega
  refine ⟨fun i j hi hj => ?_, fun i j hi hj => ?_, fun i hi => ?_, fun j hj => ?_, ?_⟩
  · have h1 : 0 ≤ f i j / u := Int.ediv_nonneg (f0 i j hi hj) (by omega)
    have h2 : 0 ≤ g i j / u := by
      rcases gv i j (by omega) (by omega) with q | q
      · rw [q]; simp
      · rw [q, Int.ediv_self (by omega)]; decide
    show 0 ≤ f i j / u + g i j / u
    omega
  · have := D i j (by omega) (by omega)
    show f i j - u < (f i j / u + g i j / u) * u ∧ (f i j / u + g i j / u) * u < f i j + u
    rw [M i j hi hj]
    omega
  · rw [← sumZ_mul, sumZ_congr (g := fun j => f i j + (g i j - ext f r c u i j)) fun j hj => M i j hi hj, sumZ_add, rowD i (by omega)]
    have := D i c (by omega) (by omega)
    omega
  · rw [← sumZ_mul, sumZ_congr (g := fun i => f i j + (g i j - ext f r c u i j)) fun i hi => M i j hi hj, sumZ_add, colD j (by omega)]
    have := D r j (by omega) (by omega)
    omega
  · have e : sumZ r (fun i => sumZ c fun j => f i j / u + g i j / u) * u = sumZ r (fun i => sumZ c (f i)) + (g r c - ext f r c u r c) := by
      rw [← sumZ_mul, sumZ_congr (g := fun i => sumZ c (f i) + -(g i c - ext f r c u i c)) fun i hi => ?_, sumZ_add, sumZ_neg, colD c (by omega)]
      · omega
      · rw [← sumZ_mul, sumZ_congr (g := fun j => f i j + (g i j - ext f r c u i j)) fun j hj => M i j hi hj, sumZ_add, rowD i (by omega)]
    rw [e]
    have := D r c (by omega) (by omega)
    omega
end SW
namespace K9
open PySem L2 SW
section
variable {P : Program} {w : World} {K : PySem.W.Frag} {mg : Str → Option Value} {base : Heap}
def spRounded (K : PySem.W.Frag) : Sp := fun vs H Q _ => ∃ (t : Addr) (f : Nat → Nat → Int) (r c : Nat) (u : Int), vs = [.ref t, .int u] ∧ Mat K H t (mkT f r c) ∧ 0 < r ∧ r ≤ 20 ∧ 0 < c ∧ c ≤ 20 ∧ 0 < u ∧ u ≤ 10 ^ 7 ∧ (∀ i j, i < r → j < c → 0 ≤ f i j) ∧
  ∀ p as H' M, Same H H' → H p = none → (∀ a, a ∈ as → H a = none) → MatM H' p as (mkT M r c) → p ∉ as → Near f M r c u → Q (.ref p) H'
theorem ok_rounded (T : Txt K mg) : FnOk P w K mg base CX0 4 T.a_rounded T.fd_rounded ["table", "w"] (spRounded K) := by
  refine T.F_rounded.ok sc_rounded (fun vs H Q E h => ?_) (fun cdv A outer s H vs Q E hr h => ?_)
  · obtain ⟨t, f, r, c, u, rfl, _⟩ := h
    rfl
  obtain ⟨t, f, r, c, u, rfl, mt, r0, r1, c0, c1, u0, u1, f0, q⟩ := h
  refine ⟨_, (pss_cons (ps_set (i := 2) sc_rounded.nd rfl (Or.inr rfl) (pe_call (ok_filled_parts T) (hr.mono (by decide)) rfl T.m_filled_parts T.F_filled_parts.kp T.b_filled_parts .nil pass0 (pa_cons (pv 0) (pa_cons (pv 1) pa_nil))))
      (pss_cons (ps_meet (ps_set (i := 3) sc_rounded.nd rfl (Or.inl rfl) (pe_call (ok_ring T) (hr.mono (by decide)) rfl T.m_ring T.F_ring.kp T.b_ring .nil pass0 (pa_cons (pv 2) (pa_cons (pv 1) pa_nil)))))
      (pss_cons (ps_while PassesOwn.never (pt_cmpR op_gt (pe_callB (len_Q K) (by rfl) T.n_len PySem.boot_len (pa_cons (pv 3) pa_nil)) pe_int (nomark _))
      (pss_cons (ps_expr (pe_call (ok_shift T) (hr.mono (by decide)) rfl T.m_shift T.F_shift.kp T.b_shift .nil pass0 (pa_cons (pv 2) (pa_cons (pv 1) (pa_cons (pv 3) pa_nil)))))
      (pss_one (ps_set (i := 3) sc_rounded.nd rfl (Or.inl rfl) (pe_call (ok_ring T) (hr.mono (by decide)) rfl T.m_ring T.F_ring.kp T.b_ring .nil pass0 (pa_cons (pv 2) (pa_cons (pv 1) pa_nil)))))))
      (pss_one (ps_ret (pe_comp [4] rfl (blk_of rfl) (pi_range1 rfl T.n_range (pa_cons (pe_callB (len_Q K) (by rfl) T.n_len PySem.boot_len (pa_cons (pv 0) pa_nil)) pa_nil)) (fun _ => (pg_name (i := 4) sc_rounded.nd rfl (Or.inr rfl))) (fun _ => pts_nil) (fun _ => (pe_comp [5] rfl (blk_of rfl) (pi_range1 rfl T.n_range (pa_cons (pe_callB (len_Q K) (by rfl) T.n_len PySem.boot_len (pa_cons (pe_ix (ix_Q K) (pv 0) (pv 4) (fun _ _ => rfl)) pa_nil)) pa_nil)) (fun _ => (pg_name (i := 5) sc_rounded.nd rfl (Or.inl rfl))) (fun _ => pts_nil) (fun _ => (pe_op op_add (pe_op op_fdivF (pe_ix (ix_Q K) (pe_ix (ix_Q K) (pv 0) (pv 4) (fun _ _ => rfl)) (pv 5) (fun _ _ => rfl)) (pv 1)) (pe_op op_fdivF (pe_ix (ix_Q K) (pe_ix (ix_Q K) (pv 2) (pv 4) (fun _ _ => rfl)) (pv 5) (fun _ _ => rfl)) (pv 1)))))))))))), ?_⟩
  refine ⟨_, rfl, _, rfl, ?_⟩
  refine ⟨t, f, r, c, u, rfl, mt, r0, by omega, c0, by omega, u0, fun lp as H1 S1 nlp nas m1 lpas => ?_⟩
  have Rb := fun i j => ext_bd (T := f) (r := r) (c := c) u0 i j
  have Rw : ∀ x, x < (r + 1) + (c + 1) → u ∣ ls (r + 1) (c + 1) (ext f r c u) x := fun x hx => ext_ls hx
  let I : (Nat → Nat → Int) → St → Hp → Prop := fun g σ H2 => ∃ pth : Addr, σ = [some (.ref t), some (.int u), some (.ref lp), some (.ref pth), none, none] ∧ Same H H2 ∧ MatM H2 lp as (mkT g (r + 1) (c + 1)) ∧ (∀ i j, i < r + 1 → j < c + 1 → 0 ≤ g i j ∧ g i j ≤ u) ∧
    (∀ x, x < (r + 1) + (c + 1) → ls (r + 1) (c + 1) g x = ls (r + 1) (c + 1) (ext f r c u) x) ∧ (∀ i j, i < r + 1 → j < c + 1 → ext f r c u i j = 0 → g i j = 0) ∧
    ((H2 pth = some (.lst []) ∧ ∀ i j, i < r + 1 → j < c + 1 → ¬ fr u (g i j)) ∨ ∃ rr L, H2 pth = some (.lst (nds (L + 1) rr)) ∧ pth ∉ as ∧ Ring (r + 1) (c + 1) u g rr L ∧ L ≤ 200)
  have asome : ∀ {H2 : Hp} {g : Nat → Nat → Int}, MatM H2 lp as (mkT g (r + 1) (c + 1)) → ∀ a, a ∈ as → H2 a ≠ none := fun {H2 g} mm a ha z => by
    obtain ⟨k, hk, ek⟩ := List.getElem_of_mem ha
    have hk' : k < r + 1 := by have := mm.len; rw [mk_len] at this; omega
    have := mm.rows k a _ (by rw [List.getElem?_eq_getElem hk, ek]) (mk_get hk')
    rw [z] at this
    cases this
  have ringI : ∀ {H2 : Hp} {g : Nat → Nat → Int} {v3 : Option V} (D : St → Hp → Prop), Same H H2 → MatM H2 lp as (mkT g (r + 1) (c + 1)) → (∀ i j, i < r + 1 → j < c + 1 → 0 ≤ g i j ∧ g i j ≤ u) → (∀ x, x < (r + 1) + (c + 1) → ls (r + 1) (c + 1) g x = ls (r + 1) (c + 1) (ext f r c u) x) → (∀ i j, i < r + 1 → j < c + 1 → ext f r c u i j = 0 → g i j = 0) →
      (∀ H3, I g H3 |> fun _ => True) → (∀ σ H3, I g σ H3 → D σ H3) → spRing K [.ref lp, .int u] H2 (fun v H3 => D [some (.ref t), some (.int u), some (.ref lp), some v, none, none] H3) E0 := fun {H2 g v3} D S2 m2 bd ls2 z2 _ hD =>
    ⟨lp, g, r + 1, c + 1, u, rfl, m2.mat, by omega, by omega, by omega, by omega, bd, fun x hx => by rw [ls2 x hx]; exact Rw x hx,
      fun p H3 S3 np ep no => hD _ H3 ⟨p, rfl, S2.trans S3, m2.same S3, bd, ls2, z2, .inl ⟨ep, no⟩⟩,
      fun p H3 rr L S3 np ep R L1 => hD _ H3 ⟨p, rfl, S2.trans S3, m2.same S3, bd, ls2, z2, .inr ⟨rr, L, ep, fun hp => asome m2 p hp np, R, L1⟩⟩⟩
  refine ⟨fun σ H2 => I (ext f r c u) σ H2, ?_, ?_⟩
  · refine ⟨_, rfl, _, rfl, ?_⟩
    exact ringI (v3 := none) (fun σ H2 => I (ext f r c u) σ H2) S1 m1 (fun i j _ _ => ⟨(Rb i j).1, Int.le_of_lt (Rb i j).2⟩) (fun _ _ => rfl) (fun _ _ _ _ z => z) (fun _ => trivial) (fun σ H3 h => h)
  rintro σ H2 i2
  refine ⟨fun n σ H3 => ∃ g, n = (cnt (r + 1) (c + 1) u g).toNat ∧ I g σ H3, ⟨_, _, rfl, i2⟩, ?_⟩
  rintro n σ H3 ⟨g, rfl, pth, rfl, S3, m3, bd3, ls3, z3, hp⟩
  rcases hp with ⟨hp, no⟩ | ⟨rr, L, hp, pas, R, L1⟩
  · refine ⟨_, rfl, _, _, rfl, Or.inl (SqL.of (by assumption)), _, _, rfl, rfl, _, rfl, ?_⟩
    refine iteDF (by decide) ?_
    -- the answer
    have gv : ∀ i j, i < r + 1 → j < c + 1 → g i j = 0 ∨ g i j = u := fun i j hi hj => by
      have b := bd3 i j hi hj
      have nf := no i j hi hj
      unfold fr at nf
      omega
    obtain ⟨ts, ht, lt⟩ := (mt.same S3).top
    refine ⟨_, rfl, _, _, rfl, Or.inl (by assumption), ?_⟩
    rw [lt]
    refine ⟨_, rfl, by omega, by omega, ?_⟩
    rw [Int.toNat_natCast]
    refine comp_range (fun i ys H4 => Same H3 H4 ∧ ∃ bs : List Addr, ys = bs.map V.ref ∧ bs.length = i ∧ bs.Nodup ∧ (∀ a, a ∈ bs → H3 a = none) ∧ ∀ (k : Nat) (a : Addr), bs[k]? = some a → H4 a = some (.lst ((row c (fun j => f k j / u + g k j / u)).map V.int))) (Nat.le_trans r1 (by decide)) ⟨Same.refl _, [], rfl, rfl, List.nodup_nil, fun a h => (by cases h), fun k a e => (by simp at e)⟩ ?_ ?_
    · rintro i ys H4 hi ⟨S4, bs, rfl, lb, nd, nbs, hb⟩
      have S04 := S3.trans S4
      obtain ⟨as2, a2, sq2, at2, sr2, _⟩ := (mt.same S04).get hi
      obtain ⟨as3, a3, sq3, at3, sr3, _⟩ := (m3.same S4).mat.get (K := K) (show i < r + 1 by omega)
      have at2' : atI (as2.map V.ref) (0 + (i : Int)) = some (.ref a2) := by rw [Int.zero_add]; exact at2
      have at3' : atI (as3.map V.ref) (0 + (i : Int)) = some (.ref a3) := by rw [Int.zero_add]; exact at3
      refine yes ?_
      refine ⟨_, rfl, _, rfl, _, _, _, _, rfl, rfl, by assumption, by assumption, _, _, rfl, by assumption, ?_⟩
      rw [List.length_map, row_len]
      refine ⟨_, rfl, by omega, by omega, ?_⟩
      rw [Int.toNat_natCast]
      refine comp_mapR (fun j => .int (f i j / u + g i j / u)) (Nat.le_trans c1 (by decide)) (fun j Q' hj hQ => ?_) fun b H5 N5 => ?_
      · have atj : atI ((row c (f i)).map V.int) (0 + (j : Int)) = some (.int (f i j)) := by rw [Int.zero_add]; exact at_row hj
        have atk : atI ((row (c + 1) (g i)).map V.int) (0 + (j : Int)) = some (.int (g i j)) := by rw [Int.zero_add]; exact at_row (by omega)
        refine ⟨_, rfl, _, rfl, _, _, _, _, rfl, rfl, by assumption, by assumption, _, rfl, _, _, _, _, rfl, rfl, by assumption, by assumption, _, rfl, _, _, rfl, rfl, ⟨by omega, fits_of (by omega) (by omega)⟩, _, rfl, _, rfl, _, _, _, _, rfl, rfl, by assumption, by assumption, _, rfl, _, _, _, _, rfl, rfl, by assumption, by assumption, _, rfl, _, _, rfl, rfl, ⟨by omega, fits_of (by omega) (by omega)⟩, _, _, rfl, rfl, ?_⟩
        exact hQ
      have e5 : ((List.range c).map fun j => V.int (f i j / u + g i j / u)) = (row c (fun j => f i j / u + g i j / u)).map V.int := by unfold row; rw [List.map_map]; rfl
      rw [e5] at N5
      refine ⟨S4.trans N5.same, bs ++ [b], by simp, by simp [lb], ?_, fun a ha => ?_, fun k a e => ?_⟩
      · refine List.nodup_append.mpr ⟨nd, by simp, fun a ha b' hb' => ?_⟩
        have : b' = b := by simpa using hb'
        subst this
        rintro rfl
        obtain ⟨k, hk, ek⟩ := List.getElem_of_mem ha
        have := hb k a (by rw [List.getElem?_eq_getElem hk, ek])
        rw [N5.gone] at this
        cases this
      · rcases List.mem_append.mp ha with h | h
        · exact nbs a h
        · have : a = b := by simpa using h
          rw [this]
          exact S4.free N5.gone
      · by_cases hk : k < bs.length
        · rw [List.getElem?_append_left hk] at e
          exact N5.same _ _ (hb k a e)
        · rw [List.getElem?_append_right (by omega)] at e
          have hz : k - bs.length = 0 := by have := (List.getElem?_eq_some_iff.mp e).1; simp at this; omega
          rw [hz] at e
          have ea : a = b := by simpa using e.symm
          have ek : k = i := by omega
          rw [ea, ek]
          exact N5.at_
    · rintro ys H4 ⟨S4, bs, rfl, lb, nd, nbs, hb⟩ p H5 N5
      refine q p bs H5 _ (S3.trans (S4.trans N5.same)) (S3.free (S4.free N5.gone)) (fun a ha => S3.free (nbs a ha)) ⟨N5.at_, nd, by rw [mk_len]; exact lb, fun i a x e1 e2 => ?_⟩ (fun h => ?_) (near_of u0 f0 gv z3 ls3)
      · have hi : i < r := by have := (List.getElem?_eq_some_iff.mp e1).1; omega
        rw [mk_get hi] at e2
        rw [← Option.some.inj e2]
        exact N5.same _ _ (hb i a e1)
      · obtain ⟨k, hk, ek⟩ := List.getElem_of_mem h
        have := hb k p (by rw [List.getElem?_eq_getElem hk, ek])
        rw [N5.gone] at this
        cases this
  · refine ⟨_, rfl, _, _, rfl, Or.inl (SqL.of (by assumption)), _, _, rfl, rfl, _, rfl, ?_⟩
    rw [nds_len]
    refine iteDT (by omega) ⟨_, fun _ _ h => h, ?_⟩
    refine ⟨_, rfl, _, rfl, _, rfl, ?_⟩
    refine ⟨lp, as, g, r + 1, c + 1, u, pth, rr, L, rfl, m3, lpas, by omega, by omega, by omega, hp, pas, R, L1, bd3, fun H4 g' fr4 m4 ls4 bd4 z4 lt => ?_⟩
    have S4 : Same H H4 := fun b o e => fr4 b o (S3 _ _ e) fun hb => by rw [nas b hb] at e; cases e
    refine ⟨_, rfl, _, rfl, ?_⟩
    refine ringI (v3 := some (.ref pth)) (fun σ H5 => ∃ m', m' < (cnt (r + 1) (c + 1) u g).toNat ∧ ∃ g'', m' = (cnt (r + 1) (c + 1) u g'').toNat ∧ I g'' σ H5) S4 m4 bd4 (fun x hx => by rw [ls4 x hx]; exact ls3 x hx) (fun i j hi hj z => z4 i j hi hj (z3 i j hi hj z)) (fun _ => trivial) (fun σ H5 h => ⟨_, ?_, g', rfl, h⟩)
    have := cnt_nonneg (r + 1) (c + 1) u g'
    omega
end
end K9
namespace L2
open PySem SW
/-- the i-th of a table's rows -/
theorem rowAt {K : PySem.W.Frag} {H : Hp} {ts : List Addr} {f : Nat → Nat → Int} {r c : Nat} (lt : ts.length = r) (hrows : ∀ (i : Nat) (a : Addr) (x : List Int), ts[i]? = some a → (mkT f r c)[i]? = some x → SqL K H a (x.map V.int)) {i : Nat} {x : V} (hx : (ts.map V.ref)[i]? = some x) :
    ∃ b, x = .ref b ∧ ts[i]? = some b ∧ i < r ∧ SqL K H b ((row c (f i)).map V.int) := by
  rw [List.getElem?_map] at hx
  cases ea : ts[i]? with
  | none => rw [ea] at hx; cases hx
  | some b =>
    rw [ea] at hx
    have hi : i < r := by have := (List.getElem?_eq_some_iff.mp ea).1; omega
    exact ⟨b, (Option.some.inj hx).symm, rfl, hi, hrows i b _ ea (mk_get hi)⟩
theorem rowInt {c j : Nat} {f : Nat → Int} {x : V} (hx : ((row c f).map V.int)[j]? = some x) : j < c ∧ x = .int (f j) := by
  have hj : j < c := by have := (List.getElem?_eq_some_iff.mp hx).1; rw [List.length_map, row_len] at this; exact this
  rw [List.getElem?_map, row_get hj] at hx
  exact ⟨hj, (Option.some.inj hx).symm⟩
end L2
namespace K9
open PySem L2 SW
section
variable {P : Program} {w : World} {K : PySem.W.Frag} {mg : Str → Option Value} {base : Heap}
def spWholeT (K : PySem.W.Frag) : Sp := fun vs H Q _ => ∃ (p : Addr) (as : List Addr) (M : Nat → Nat → Int) (r c : Nat), vs = [.ref p, .int r, .int c] ∧ MatM H p as (mkT M r c) ∧ (∀ i j, i < r → j < c → 0 ≤ M i j) ∧ Q (.bl true) H
theorem ok_lwhole (T : Txt K mg) : FnOk P w K mg base CX0 1 T.a_lwhole T.fd_lwhole ["_law_told", "_law_rows", "_law_columns"] (spWholeT K) := by
  refine T.F_lwhole.ok sc_lwhole (fun vs H Q E h => ?_) (fun cdv A outer s H vs Q E hr h => ?_)
  · obtain ⟨p, ts, M, r, c, rfl, _⟩ := h
    rfl
  obtain ⟨p, ts, M, r, c, rfl, mt, nn, q⟩ := h
  refine ⟨_, (pss_cons (ps_if (PW.pt (pw_or (pt_not (pt_val (pe_isT K rfl T.n_isinstance rfl T.n_list PyProof.Rows.boot_list (pv 0)))) (pw_or1 (pt_cmpR op_neI (pe_callB (len_Q K) (by rfl) T.n_len PySem.boot_len (pa_cons (pv 0) pa_nil)) (pv 1) (nomark _)))))
      (pss_one (ps_ret pe_bl))
      pss_nil)
      (pss_cons (ps_for PassesOwn.never rfl (pi_listQ K (pv 0)) (pg_name (i := 3) sc_lwhole.nd rfl (Or.inl rfl))
      (pss_cons (ps_if (PW.pt (pw_or (pt_not (pt_val (pe_isT K rfl T.n_isinstance rfl T.n_list PyProof.Rows.boot_list (pv 3)))) (pw_or1 (pt_cmpR op_neI (pe_callB (len_Q K) (by rfl) T.n_len PySem.boot_len (pa_cons (pv 3) pa_nil)) (pv 2) (nomark _)))))
      (pss_one (ps_ret pe_bl))
      pss_nil)
      (pss_one (ps_for PassesOwn.never rfl (pi_listQ K (pv 3)) (pg_name (i := 4) sc_lwhole.nd rfl (Or.inl rfl))
      (pss_one (ps_if (PW.pt (pw_or (pt_not (pt_val (pe_isT K rfl T.n_isinstance rfl T.n_int PyProof.Rows.boot_int (pv 4)))) (pw_or (pt_val (pe_isT K rfl T.n_isinstance rfl T.n_bool PyProof.Rows.boot_bool (pv 4))) (pw_or1 (pt_cmpR op_lt (pv 4) pe_int (nomark _))))))
      (pss_one (ps_ret pe_bl))
      pss_nil))))))
      (pss_one (ps_ret pe_bl)))), ?_⟩
  obtain ⟨hp, _, lt, hp_rows⟩ := mt
  rw [mk_len] at lt
  refine ⟨_, rfl, _, _, _, rfl, .lst (by assumption), kit_list_list _, _, rfl, ?_⟩
  refine iteF ?_
  refine ⟨_, rfl, _, _, rfl, Or.inl (SqL.of (by assumption)), _, rfl, _, _, rfl, rfl, _, rfl, ?_⟩
  rw [List.length_map, lt]
  refine iteNT rfl ?_
  refine ⟨_, rfl, ?_⟩
  refine ⟨p, rfl, ⟨_, SqL.of hp⟩, ?_⟩
  refine for_list (xs := ts.map V.ref) (fun i σ H' => H' = H ∧ ∃ v3 v4, σ = [some (.ref p), some (.int r), some (.int c), v3, v4]) ⟨rfl, _, _, rfl⟩ (fun i σ H' _ h => by rw [h.1]; exact SqL.of hp) ?_ ?_
  · rintro i x σ H' hx ⟨rfl, v3, v4, rfl⟩
    obtain ⟨b, rfl, ea, hi, _⟩ := rowAt (K := K) (f := M) (c := c) lt (fun i a x e1 e2 => SqL.of (hp_rows i a x e1 e2)) hx
    have hb := hp_rows i b _ ea (mk_get hi)
    refine ⟨_, rfl, _, _, _, rfl, .lst (by assumption), kit_list_list _, _, rfl, ?_⟩
    refine iteF ?_
    refine ⟨_, rfl, _, _, rfl, Or.inl (SqL.of (by assumption)), _, rfl, _, _, rfl, rfl, _, rfl, ?_⟩
    rw [List.length_map, row_len]
    refine iteNT rfl ?_
    refine ⟨_, rfl, ?_⟩
    refine ⟨b, rfl, ⟨_, SqL.of hb⟩, ?_⟩
    refine for_list (xs := (row c (M i)).map V.int) (fun j σ H'' => H'' = H' ∧ ∃ v4, σ = [some (.ref p), some (.int r), some (.int c), some (.ref b), v4]) ⟨rfl, _, rfl⟩ (fun j σ H'' _ h => by rw [h.1]; exact SqL.of hb) ?_ ?_
    · rintro j x σ H'' hx ⟨rfl, v4, rfl⟩
      obtain ⟨hj, rfl⟩ := rowInt hx
      refine ⟨_, rfl, _, _, _, rfl, .int _, kit_int_int _, _, rfl, ?_⟩
      refine iteF ?_
      refine ⟨_, rfl, _, _, _, rfl, .int _, kit_int_bool _, _, rfl, ?_⟩
      refine iteF ?_
      refine ⟨_, rfl, _, _, rfl, rfl, _, rfl, ?_⟩
      refine iteDF (by have := nn i j hi hj; omega) ?_
      exact ⟨rfl, _, rfl⟩
    · rintro σ H'' ⟨rfl, v4, rfl⟩
      exact ⟨rfl, _, _, rfl⟩
  · rintro σ H' ⟨rfl, v3, v4, rfl⟩
    exact q
def spNear : Sp := fun vs H Q _ => ∃ m x u : Int, vs = [.int m, .int x, .int u] ∧ 0 ≤ m ∧ m ≤ 10 ^ 15 ∧ 0 < u ∧ u ≤ 10 ^ 7 ∧ x - u < m * u ∧ m * u < x + u ∧ Q (.bl true) H
theorem ok_lnear (T : Txt K mg) : FnOk P w K mg base CX0 1 T.a_lnear T.fd_lnear ["_law_made", "_law_whole_here", "_law_w"] spNear := by
  refine T.F_lnear.ok sc_lnear (fun vs H Q E h => ?_) (fun cdv A outer s H vs Q E hr h => ?_)
  · obtain ⟨m, x, u, rfl, _⟩ := h
    rfl
  obtain ⟨m, x, u, rfl, m0, m1, u0, u1, h1, h2, q⟩ := h
  refine ⟨_, (pss_one (ps_ret (pe_chain op_lt op_lt (pe_op op_sub (pv 1) (pv 2)) (pe_op op_mulF (pv 0) (pv 2)) (pe_op op_add (pv 1) (pv 2))))), ?_⟩
  unfold tChain
  refine ⟨_, rfl, _, rfl, _, _, rfl, rfl, _, rfl, _, rfl, _, _, rfl, rfl, .inr ⟨fits_of (by omega) (by omega), fits_of (by omega) (by omega)⟩, _, _, rfl, rfl, _, rfl, ?_⟩
  rw [decide_eq_true h1]
  refine iteT ?_
  refine ⟨_, rfl, _, rfl, _, _, rfl, rfl, _, _, rfl, rfl, ?_⟩
  show Q (.bl (decide (m * u < x + u))) H
  rw [decide_eq_true h2]
  exact q
def spNumber : Sp := fun vs H Q _ => ∃ c : Int, vs = [.int c] ∧ ∀ (v : Int) (H' : Hp), 0 ≤ v → v ≤ 1000000000 → Same H H' → Q (.int v) H'
theorem ok_lnumber (T : Txt K mg) : FnOk P w K mg base CX0 3 T.a_lnumber T.fd_lnumber ["_law_cell"] spNumber := by
  refine T.F_lnumber.ok sc_lnumber (fun vs H Q E h => ?_) (fun cdv A outer s H vs Q E hr h => ?_)
  · obtain ⟨c, rfl, _⟩ := h
    rfl
  obtain ⟨c, rfl, q⟩ := h
  refine ⟨_, (pss_cons (ps_set (i := 1) sc_lnumber.nd rfl (Or.inl rfl) (pe_call (ok_ldraw T) (hr.mono (by decide)) rfl T.m_ldraw T.F_ldraw.kp T.b_ldraw .nil pass0 (pa_cons (pv 0) (pa_cons pe_int (pa_cons pe_int pa_nil)))))
      (pss_cons (ps_if (pt_cmpR op_eqI (pv 1) pe_int (nomark _))
      (pss_one (ps_ret pe_int))
      pss_nil)
      (pss_cons (ps_if (pt_cmpR op_lt (pv 1) pe_int (nomark _))
      (pss_one (ps_ret (pe_call (ok_ldraw T) (hr.mono (by decide)) rfl T.m_ldraw T.F_ldraw.kp T.b_ldraw .nil pass0 (pa_cons (pv 0) (pa_cons pe_int (pa_cons pe_int pa_nil))))))
      pss_nil)
      (pss_one (ps_ret (pe_call (ok_lgreat T) (hr.mono (by decide)) rfl T.m_lgreat T.F_lgreat.kp T.b_lgreat .nil pass0 (pa_cons (pv 0) (pa_cons pe_int (pa_cons pe_int pa_nil))))))))), ?_⟩
  refine ⟨_, rfl, ?_⟩
  refine ⟨_, _, _, rfl, by decide, by decide, by decide, fun d H1 d0 d1 S1 => ?_⟩
  refine ⟨_, rfl, _, _, rfl, rfl, _, rfl, ?_⟩
  refine ite3 (fun _ => ?_) (fun _ => ?_)
  · skip
    exact q 0 H1 (by omega) (by omega) S1
  refine ⟨_, rfl, _, _, rfl, rfl, _, rfl, ?_⟩
  refine ite3 (fun _ => ?_) (fun _ => ?_)
  · refine ⟨_, rfl, ?_⟩
    exact ⟨_, _, _, rfl, by decide, by decide, by decide, fun d H2 d0 d1 S2 => q d H2 d0 (by omega) (S1.trans S2)⟩
  · refine ⟨_, rfl, ?_⟩
    exact ⟨_, _, _, rfl, by decide, by decide, by decide, fun d H2 d0 d1 S2 => q d H2 d0 (by omega) (S1.trans S2)⟩
def spSize : Sp := fun vs H Q _ => ∃ c k : Int, vs = [.int c, .int k] ∧ 0 ≤ k ∧ k < 900 ∧ ∀ (n : Nat) (H' : Hp), 0 < n → n ≤ 12 → Same H H' → Q (.int n) H'
theorem ok_lsize (T : Txt K mg) : FnOk P w K mg base CX0 2 T.a_lsize T.fd_lsize ["_law_cell", "_law_k"] spSize := by
  refine T.F_lsize.ok sc_lsize (fun vs H Q E h => ?_) (fun cdv A outer s H vs Q E hr h => ?_)
  · obtain ⟨c, k, rfl, _⟩ := h
    rfl
  obtain ⟨c, k, rfl, k0, k1, q⟩ := h
  refine ⟨_, (pss_one (ps_ret (pe_op op_add (pe_op op_add pe_int (pe_call (ok_ldraw T) (hr.mono (by decide)) rfl T.m_ldraw T.F_ldraw.kp T.b_ldraw .nil pass0 (pa_cons (pv 0) (pa_cons (pv 1) (pa_cons pe_int pa_nil))))) (pe_op op_mulF pe_int (pe_op op_fdivF (pe_call (ok_ldraw T) (hr.mono (by decide)) rfl T.m_ldraw T.F_ldraw.kp T.b_ldraw .nil pass0 (pa_cons (pv 0) (pa_cons (pe_op op_add (pv 1) pe_int) (pa_cons pe_int pa_nil)))) pe_int))))), ?_⟩
  refine ⟨_, rfl, _, rfl, ?_⟩
  refine ⟨_, _, _, rfl, k0, by omega, by decide, fun d H1 d0 d1 S1 => ?_⟩
  refine ⟨_, _, rfl, rfl, _, rfl, _, rfl, _, _, rfl, rfl, ?_⟩
  refine ⟨_, _, _, rfl, by omega, by omega, by decide, fun e H2 e0 e1 S2 => ?_⟩
  refine ⟨_, _, rfl, rfl, ⟨by omega, fits_of (by omega) (by omega)⟩, _, _, rfl, rfl, .inr ⟨fits_of (by omega) (by omega), fits_of (by omega) (by omega)⟩, _, _, rfl, rfl, ?_⟩
  have e2 : 0 ≤ e / 15 := Int.ediv_nonneg e0 (by decide)
  have e3 : e / 15 ≤ 1 := by omega
  show Q (.int (1 + d + 7 * (e / 15))) H2
  rw [show 1 + d + 7 * (e / 15) = (((1 + d + 7 * (e / 15)).toNat : Nat) : Int) by omega]
  exact q _ H2 (by omega) (by omega) (S1.trans S2)
end
end K9
namespace K9
open PySem L2 SW
section
variable {P : Program} {w : World} {K : PySem.W.Frag} {mg : Str → Option Value} {base : Heap}
def spDrawn (K : PySem.W.Frag) : Sp := fun vs H Q _ => ∃ (a : Addr) (ns : List Int) (k : Int), vs = [.ref a, .int k] ∧ SqL K H a (ns.map V.int) ∧ 0 ≤ k ∧ k ≤ 9 ∧
  ∀ (t p : Addr) (as : List Addr) (f : Nat → Nat → Int) (r c : Nat) (u : Int) H', Same H H' → H' t = some (.tup [.ref p, .int u]) → MatM H' p as (mkT f r c) → 0 < r → r ≤ 12 → 0 < c → c ≤ 12 → 0 < u → u ≤ 10 ^ 7 → (∀ i j, i < r → j < c → 0 ≤ f i j ∧ f i j ≤ 10 ^ 9) → Q (.ref t) H'
theorem ok_ldrawn (T : Txt K mg) : FnOk P w K mg base CX0 4 T.a_ldrawn T.fd_ldrawn ["_law_script", "_law_first"] (spDrawn K) := by
  refine T.F_ldrawn.ok sc_ldrawn (fun vs H Q E h => ?_) (fun cdv A outer s H vs Q E hr h => ?_)
  · obtain ⟨a, ns, k, rfl, _⟩ := h
    rfl
  obtain ⟨a, ns, k, rfl, hS, k0, k1, q⟩ := h
  refine ⟨_, (pss_cons (ps_set (i := 2) sc_ldrawn.nd rfl (Or.inl rfl) (pe_call (ok_lcell_at T) (hr.mono (by decide)) rfl T.m_lcell_at T.F_lcell_at.kp T.b_lcell_at .nil pass0 (pa_cons (pv 0) (pa_cons (pv 1) pa_nil))))
      (pss_cons (ps_par (i := 3) (j := 4) rfl sc_ldrawn.nd rfl rfl (by decide) rfl rfl (pa_cons (pe_call (ok_lsize T) (hr.mono (by decide)) rfl T.m_lsize T.F_lsize.kp T.b_lsize .nil pass0 (pa_cons (pv 2) (pa_cons pe_int pa_nil))) (pa_cons (pe_call (ok_lsize T) (hr.mono (by decide)) rfl T.m_lsize T.F_lsize.kp T.b_lsize .nil pass0 (pa_cons (pv 2) (pa_cons pe_int pa_nil))) pa_nil)) rfl)
      (pss_cons (ps_set (i := 5) sc_ldrawn.nd rfl (Or.inl rfl) (pe_lstA pa_nil))
      (pss_cons (ps_for PassesOwn.never rfl (pi_range1 rfl T.n_range (pa_cons (pv 3) pa_nil)) (pg_name (i := 6) sc_ldrawn.nd rfl (Or.inl rfl))
      (pss_cons (ps_set (i := 7) sc_ldrawn.nd rfl (Or.inl rfl) (pe_lstA pa_nil))
      (pss_cons (ps_for PassesOwn.never rfl (pi_range1 rfl T.n_range (pa_cons (pv 4) pa_nil)) (pg_name (i := 8) sc_ldrawn.nd rfl (Or.inl rfl))
      (pss_cons (ps_set (i := 9) sc_ldrawn.nd rfl (Or.inl rfl) (pe_op op_add (pe_op op_mulF (pv 6) (pv 4)) (pv 8)))
      (pss_one (ps_expr (pe_bm PySem.F.plainAttrs_list PySem.F.slot_list_append PySem.F.type_list_append mt_append (pv 7) (pa_cons (pe_call (ok_lnumber T) (hr.mono (by decide)) rfl T.m_lnumber T.F_lnumber.kp T.b_lnumber .nil pass0 (pa_cons (pe_op op_add (pe_op op_add (pe_call (ok_lcell_at T) (hr.mono (by decide)) rfl T.m_lcell_at T.F_lcell_at.kp T.b_lcell_at .nil pass0 (pa_cons (pv 0) (pa_cons (pe_op op_add pe_int (pe_op op_mod (pv 9) pe_int)) pa_nil))) (pe_op op_mulF pe_int (pv 9))) (pv 1)) pa_nil)) pa_nil))))))
      (pss_one (ps_expr (pe_bm PySem.F.plainAttrs_list PySem.F.slot_list_append PySem.F.type_list_append mt_append (pv 5) (pa_cons (pv 7) pa_nil)))))))
      (pss_cons (ps_set (i := 10) sc_ldrawn.nd rfl (Or.inl rfl) (pe_op op_add pe_int (pe_call (ok_ldraw T) (hr.mono (by decide)) rfl T.m_ldraw T.F_ldraw.kp T.b_ldraw .nil pass0 (pa_cons (pv 2) (pa_cons pe_int (pa_cons pe_int pa_nil))))))
      (pss_cons (ps_if (pt_cmpR op_eqI (pe_call (ok_ldraw T) (hr.mono (by decide)) rfl T.m_ldraw T.F_ldraw.kp T.b_ldraw .nil pass0 (pa_cons (pv 2) (pa_cons pe_int (pa_cons pe_int pa_nil)))) pe_int (nomark _))
      (pss_one (ps_set (i := 10) sc_ldrawn.nd rfl (Or.inl rfl) (pe_op op_add pe_int (pe_call (ok_ldraw T) (hr.mono (by decide)) rfl T.m_ldraw T.F_ldraw.kp T.b_ldraw .nil pass0 (pa_cons (pv 2) (pa_cons pe_int (pa_cons pe_int pa_nil)))))))
      pss_nil)
      (pss_one (ps_ret (pe_tupA (pa_cons (pv 5) (pa_cons (pv 10) pa_nil))))))))))), ?_⟩
  refine ⟨_, rfl, _, rfl, ?_⟩
  refine ⟨a, ns, _, rfl, hS, k0, fun cell => ?_⟩
  unfold tPar
  refine ⟨_, rfl, ?_⟩
  refine ⟨_, _, rfl, by decide, by decide, fun r H1 r0 r1 S1 => ?_⟩
  refine ⟨_, rfl, ?_⟩
  refine ⟨_, _, rfl, by decide, by decide, fun c H2 c0 c1 S2 => ?_⟩
  refine ⟨_, _, rfl, ?_⟩
  refine ⟨Nat.zero_le _, fun l H3 N3 => ?_⟩
  have S03 : Same H H3 := S1.trans (S2.trans N3.same)
  have nl : H l = none := S1.free (S2.free N3.gone)
  have hl3 := N3.at_
  refine ⟨_, rfl, ?_⟩
  refine ⟨_, rfl, by omega, by omega, ?_⟩
  rw [Int.toNat_natCast]
  refine for_range (fun i σ H' => ∃ (as : List Addr) (f : Nat → Nat → Int) (v6 v7 v8 v9 : Option V), σ = [some (.ref a), some (.int k), some (.int cell), some (.int r), some (.int c), some (.ref l), v6, v7, v8, v9, none] ∧ Same H H' ∧ H' l = some (.lst (as.map V.ref)) ∧ as.length = i ∧ as.Nodup ∧ l ∉ as ∧
    (∀ (k : Nat) (b : Addr), as[k]? = some b → H' b = some (.lst ((row c (f k)).map V.int))) ∧ ∀ i' j, i' < i → j < c → 0 ≤ f i' j ∧ f i' j ≤ 10 ^ 9) ⟨[], fun _ _ => 0, _, _, _, _, rfl, S03, hl3, rfl, List.nodup_nil, by simp, fun k b e => (by simp at e), fun i' j h => (by omega)⟩ ?_ ?_
  · rintro i σ H' hi ⟨as, f, v6, v7, v8, v9, rfl, S', hl, la, nd, las, rows, bd⟩
    refine ⟨Nat.zero_le _, fun b H4 N4 => ?_⟩
    have hb4 := N4.at_
    refine ⟨_, rfl, ?_⟩
    refine ⟨_, rfl, by omega, by omega, ?_⟩
    rw [Int.toNat_natCast]
    refine for_range (fun j σ H5 => ∃ (g : Nat → Int) (v8 v9 : Option V), σ = [some (.ref a), some (.int k), some (.int cell), some (.int r), some (.int c), some (.ref l), some (.int (0 + (i : Int))), some (.ref b), v8, v9, none] ∧ Same H' H5 ∧ H5 b = some (.lst ((row j g).map V.int)) ∧ ∀ j', j' < j → 0 ≤ g j' ∧ g j' ≤ 10 ^ 9) ⟨fun _ => 0, _, _, rfl, N4.same, hb4, fun j' h => (by omega)⟩ ?_ ?_
    · rintro j σ H5 hj ⟨g, v8, v9, rfl, S5, hb, gb⟩
      have hS5 := (S'.trans S5).seq hS
      have m0 : 0 ≤ (0 + (i : Int)) * (c : Int) := Int.mul_nonneg (by omega) (by omega)
      refine ⟨_, rfl, _, rfl, _, _, rfl, rfl, .inr ⟨fits_of (by omega) (by omega), fits_of (by omega) (by omega)⟩, _, rfl, _, _, rfl, rfl, _, rfl, ?_⟩
      refine ⟨.inl ⟨rfl, _, SqL.of hb⟩, ?_⟩
      refine ⟨_, rfl, _, rfl, _, _, rfl, rfl, by omega, _, _, rfl, rfl, ?_⟩
      refine ⟨a, ns, _, rfl, hS5, ?_, fun cv => ?_⟩
      · have := Int.emod_nonneg ((0 + (i : Int)) * (c : Int) + (0 + (j : Int))) (by decide : (40 : Int) ≠ 0)
        show (0 : Int) ≤ 2 + ((0 + (i : Int)) * (c : Int) + (0 + (j : Int))) % 40
        omega
      refine ⟨_, rfl, _, _, rfl, rfl, .inl (.inl ⟨by decide, by decide⟩), _, _, rfl, rfl, _, rfl, _, _, rfl, rfl, ?_⟩
      refine ⟨_, rfl, fun v H6 v0 v1 S6 => ?_⟩
      have hb6 := S6 _ _ hb
      refine ⟨b, _, _, rfl, rfl, hb6, ?_, ?_⟩
      · rw [List.length_map, row_len]
        exact Nat.lt_of_le_of_lt (show j ≤ 12 by omega) (by decide)
      have e : (row j g).map V.int ++ [V.int v] = (row (j + 1) (fun x => if x = j then v else g x)).map V.int := by
        rw [row_succ, List.map_append, if_pos rfl]
        rw [row_congr (g := g) fun x hx => if_neg (by omega)]
        rfl
      rw [e]
      refine ⟨fun x => if x = j then v else g x, _, _, rfl, (S5.trans S6).upd N4.gone, upd_same, fun j' hj' => ?_⟩
      show 0 ≤ (if j' = j then v else g j') ∧ (if j' = j then v else g j') ≤ 10 ^ 9
      split
      · exact ⟨v0, v1⟩
      · exact gb j' (by omega)
    · rintro σ H5 ⟨g, v8, v9, rfl, S5, hb, gb⟩
      have hl5 := S5 _ _ hl
      refine ⟨_, rfl, ?_⟩
      refine ⟨.inl ⟨rfl, _, SqL.of hl5⟩, ?_⟩
      refine ⟨_, rfl, ?_⟩
      refine ⟨l, _, _, rfl, rfl, hl5, ?_, ?_⟩
      · rw [List.length_map, la]
        exact Nat.lt_of_le_of_lt (show i ≤ 12 by omega) (by decide)
      have lb : l ≠ b := fun z => by rw [z, N4.gone] at hl; cases hl
      have bas : b ∉ as := fun h => by
        obtain ⟨n, hn, en⟩ := List.getElem_of_mem h
        have := rows n b (by rw [List.getElem?_eq_getElem hn, en])
        rw [N4.gone] at this
        cases this
      refine ⟨as ++ [b], fun x y => if x = i then g y else f x y, _, _, _, _, rfl, (S'.trans S5).upd nl, ?_, by simp [la], ?_, ?_, fun n d e => ?_, fun i' j hi' hj => ?_⟩
      · rw [upd_same, List.map_append]; rfl
      · refine List.nodup_append.mpr ⟨nd, by simp, fun x hx y hy => ?_⟩
        have : y = b := by simpa using hy
        subst this
        rintro rfl
        exact bas hx
      · intro h
        rcases List.mem_append.mp h with h | h
        · exact las h
        · exact lb (by simpa using h)
      · have dl : d ≠ l := fun z => by
          subst z
          have := List.mem_of_getElem? e
          rcases List.mem_append.mp this with h | h
          · exact las h
          · exact lb (by simpa using h)
        rw [upd_ne dl]
        by_cases hn : n < as.length
        · rw [List.getElem?_append_left hn] at e
          have : row c (fun y => if n = i then g y else f n y) = row c (f n) := row_congr fun y _ => if_neg (by omega)
          rw [this]
          exact S5 _ _ (rows n d e)
        · rw [List.getElem?_append_right (by omega)] at e
          have hz : n - as.length = 0 := by have := (List.getElem?_eq_some_iff.mp e).1; simp at this; omega
          rw [hz] at e
          have ed : d = b := by simpa using e.symm
          have en : n = i := by omega
          subst ed en
          have : row c (fun y => if n = n then g y else f n y) = row c g := row_congr fun y _ => if_pos rfl
          rw [this]
          exact hb
      · show 0 ≤ (if i' = i then g j else f i' j) ∧ (if i' = i then g j else f i' j) ≤ 10 ^ 9
        split
        · exact gb j hj
        · exact bd i' j (by omega) hj
  · rintro σ H4 ⟨as, f, v6, v7, v8, v9, rfl, S4, hl, la, nd, las, rows, bd⟩
    have fin : ∀ {H5 : Hp} (u : Int), Same H4 H5 → 0 < u → u ≤ 10 ^ 7 → ∀ t H6, New H5 H6 t (.tup [.ref l, .int u]) → Q (.ref t) H6 := fun {H5} u S5 u0 u1 t H6 N6 => by
      have S46 := S5.trans N6.same
      refine q t l as f r c u H6 (S4.trans S46) N6.at_ ⟨S46 _ _ hl, nd, by rw [mk_len]; exact la, fun i b x e1 e2 => ?_⟩ r0 r1 c0 c1 u0 u1 bd
      have hi : i < r := by have := (List.getElem?_eq_some_iff.mp e1).1; omega
      rw [mk_get hi] at e2
      rw [← Option.some.inj e2]
      exact S46 _ _ (rows i b e1)
    refine ⟨_, rfl, ?_⟩
    refine ⟨_, _, _, rfl, by decide, by decide, by decide, fun d H5 d0 d1 S5 => ?_⟩
    refine ⟨_, _, rfl, rfl, _, rfl, ?_⟩
    refine ⟨_, _, _, rfl, by decide, by decide, by decide, fun d2 H6 _ _ S6 => ?_⟩
    refine ⟨_, _, rfl, rfl, _, rfl, ?_⟩
    refine ite3 (fun _ => ?_) (fun _ => ?_)
    · refine ⟨_, rfl, ?_⟩
      refine ⟨_, _, _, rfl, by decide, by decide, by decide, fun d3 H7 d30 d31 S7 => ?_⟩
      refine ⟨_, _, rfl, rfl, _, rfl, _, rfl, ?_⟩
      exact ⟨(by show 2 ≤ sizeLine; decide), fun t H8 N8 => fin _ (S5.trans (S6.trans S7)) (by omega) (by omega) t H8 N8⟩
    · refine ⟨_, rfl, _, rfl, ?_⟩
      exact ⟨(by show 2 ≤ sizeLine; decide), fun t H8 N8 => fin _ (S5.trans S6) (by omega) (by omega) t H8 N8⟩
end
end K9
namespace L2
open PySem SW
theorem sumZ_bd {f : Nat → Int} {b : Int} : ∀ {n : Nat}, (∀ i, i < n → 0 ≤ f i ∧ f i ≤ b) → 0 ≤ sumZ n f ∧ sumZ n f ≤ n * b
  | 0, _ => ⟨Int.le_refl _, by unfold sumZ; simp⟩
  | n + 1, h => by
    have h1 := sumZ_bd (n := n) fun i hi => h i (by omega)
    have h2 := h n (by omega)
    have h3 : ((n + 1 : Nat) : Int) * b = n * b + b := by rw [Int.natCast_add, Int.add_mul]; simp
    unfold sumZ
    omega
theorem near_bd {S u X : Int} (S0 : 0 ≤ S) (u0 : 0 < u) (u1 : u ≤ 10 ^ 7) (h : S * u < X + u) (hX : X ≤ 10 ^ 14) : S ≤ 10 ^ 15 := by
  have := Int.mul_nonneg S0 (show 0 ≤ u - 1 by omega)
  rw [Int.mul_sub, Int.mul_one] at this
  omega
/-- a number for each of a table's rows -/
theorem comp_rows {K : PySem.W.Frag} {te : TE} {σ : St} {j : Nat} {R : List V → Hp → Prop} {H1 : Hp} {a : Addr} {ts : List Addr} {f : Nat → Nat → Int} {r c : Nat} (ht : SqL K H1 a (ts.map V.ref)) (lt : ts.length = r) (hz : r ≤ sizeLine)
    (hrows : ∀ (i : Nat) (a : Addr) (x : List Int), ts[i]? = some a → (mkT f r c)[i]? = some x → SqL K H1 a (x.map V.int)) (g : Nat → Int)
    (hs : ∀ (i : Nat) (b : Addr) (Q : VK), i < r → SqL K H1 b ((row c (f i)).map V.int) → Q (.int (g i)) H1 → te (σ.set j (some (.ref b))) H1 Q) (hd : R ((row r g).map V.int) H1) :
    CompW (Itl K a) (gName j) tYes te (wipe [j] σ) R H1 := by
  refine comp_list (xs := ts.map V.ref) (fun i ys H' => H' = H1 ∧ ys = (row i g).map V.int) (by rw [List.length_map, lt]; exact hz) ⟨rfl, rfl⟩ (fun i ys H' _ h => by rw [h.1]; exact ht) ?_ ?_
  · rintro i x ys H' hx ⟨rfl, rfl⟩
    obtain ⟨b, rfl, ea, hi, hb⟩ := rowAt lt hrows hx
    refine yes (hs i b _ hi hb ⟨rfl, ?_⟩)
    rw [row_succ, List.map_append]; rfl
  · rintro ys H' ⟨rfl, rfl⟩
    rw [List.length_map, lt]
    exact hd
theorem MatM.keep {H : Hp} {p b : Addr} {as : List Addr} {rs : List (List Int)} {o : HO} (m : MatM H p as rs) (pb : p ≠ b) (ba : b ∉ as) : MatM (upd H b o) p as rs :=
  ⟨by rw [upd_ne pb]; exact m.top, m.nd, m.len, fun i a r e1 e2 => by
    have ab : a ≠ b := fun z => by subst z; exact ba (List.mem_of_getElem? e1)
    rw [upd_ne ab]; exact m.rows i a r e1 e2⟩
end L2
namespace K9
open PySem L2 SW
section
variable {P : Program} {w : World} {K : PySem.W.Frag} {mg : Str → Option Value} {base : Heap}
def spRight (K : PySem.W.Frag) : Sp := fun vs H Q _ => ∃ (t p : Addr) (as : List Addr) (f M : Nat → Nat → Int) (r c : Nat) (u : Int), vs = [.ref t, .int u, .ref p] ∧ Mat K H t (mkT f r c) ∧ MatM H p as (mkT M r c) ∧ Near f M r c u ∧ 0 < r ∧ r ≤ 20 ∧ 0 < c ∧ c ≤ 20 ∧ 0 < u ∧ u ≤ 10 ^ 7 ∧ (∀ i j, i < r → j < c → 0 ≤ f i j ∧ f i j ≤ 10 ^ 10) ∧ ∀ H', Same H H' → Q (.bl true) H'
theorem ok_lright (T : Txt K mg) : FnOk P w K mg base CX0 2 T.a_lright T.fd_lright ["_law_table", "_law_w", "_law_made"] (spRight K) := by
  refine T.F_lright.ok sc_lright (fun vs H Q E h => ?_) (fun cdv A outer s H vs Q E hr h => ?_)
  · obtain ⟨t, p, as, f, M, r, c, u, rfl, _⟩ := h
    rfl
  obtain ⟨t, p, as, f, M, r, c, u, rfl, mt, mm, nr, r0, r1, c0, c1, u0, u1, fb, q⟩ := h
  refine ⟨_, (pss_cons (ps_if (pt_not (pt_val (pe_call (ok_lwhole T) (hr.mono (by decide)) rfl T.m_lwhole T.F_lwhole.kp T.b_lwhole .nil pass0 (pa_cons (pv 2) (pa_cons (pe_callB (len_Q K) (by rfl) T.n_len PySem.boot_len (pa_cons (pv 0) pa_nil)) (pa_cons (pe_callB (len_Q K) (by rfl) T.n_len PySem.boot_len (pa_cons (pe_ix (ix_Q K) (pv 0) pe_int (fun _ _ => rfl)) pa_nil)) pa_nil))))))
      (pss_one (ps_ret pe_bl))
      pss_nil)
      (pss_cons (ps_for PassesOwn.never rfl (pi_range1 rfl T.n_range (pa_cons (pe_callB (len_Q K) (by rfl) T.n_len PySem.boot_len (pa_cons (pv 0) pa_nil)) pa_nil)) (pg_name (i := 3) sc_lright.nd rfl (Or.inl rfl))
      (pss_cons (ps_for PassesOwn.never rfl (pi_range1 rfl T.n_range (pa_cons (pe_callB (len_Q K) (by rfl) T.n_len PySem.boot_len (pa_cons (pe_ix (ix_Q K) (pv 0) pe_int (fun _ _ => rfl)) pa_nil)) pa_nil)) (pg_name (i := 4) sc_lright.nd rfl (Or.inr rfl))
      (pss_one (ps_if (pt_not (pt_val (pe_call (ok_lnear T) (hr.mono (by decide)) rfl T.m_lnear T.F_lnear.kp T.b_lnear .nil pass0 (pa_cons (pe_ix (ix_Q K) (pe_ix (ix_Q K) (pv 2) (pv 3) (fun _ _ => rfl)) (pv 4) (fun _ _ => rfl)) (pa_cons (pe_ix (ix_Q K) (pe_ix (ix_Q K) (pv 0) (pv 3) (fun _ _ => rfl)) (pv 4) (fun _ _ => rfl)) (pa_cons (pv 1) pa_nil))))))
      (pss_one (ps_ret pe_bl))
      pss_nil)))
      (pss_one (ps_if (pt_not (pt_val (pe_call (ok_lnear T) (hr.mono (by decide)) rfl T.m_lnear T.F_lnear.kp T.b_lnear .nil pass0 (pa_cons (pe_callB (sum_Q K rfl) (by rfl) T.n_sum PyProof.Rows.boot_sum (pa_cons (pe_ix (ix_Q K) (pv 2) (pv 3) (fun _ _ => rfl)) pa_nil)) (pa_cons (pe_callB (sum_Q K rfl) (by rfl) T.n_sum PyProof.Rows.boot_sum (pa_cons (pe_ix (ix_Q K) (pv 0) (pv 3) (fun _ _ => rfl)) pa_nil)) (pa_cons (pv 1) pa_nil))))))
      (pss_one (ps_ret pe_bl))
      pss_nil))))
      (pss_cons (ps_for PassesOwn.never rfl (pi_range1 rfl T.n_range (pa_cons (pe_callB (len_Q K) (by rfl) T.n_len PySem.boot_len (pa_cons (pe_ix (ix_Q K) (pv 0) pe_int (fun _ _ => rfl)) pa_nil)) pa_nil)) (pg_name (i := 4) sc_lright.nd rfl (Or.inr rfl))
      (pss_one (ps_if (pt_not (pt_val (pe_call (ok_lnear T) (hr.mono (by decide)) rfl T.m_lnear T.F_lnear.kp T.b_lnear .nil pass0 (pa_cons (pe_callB (sum_Q K rfl) (by rfl) T.n_sum PyProof.Rows.boot_sum (pa_cons (pe_comp [5] rfl (blk_of rfl) (pi_listQ K (pv 2)) (fun _ => (pg_name (i := 5) sc_lright.nd rfl (Or.inl rfl))) (fun _ => pts_nil) (fun _ => (pe_ix (ix_Q K) (pv 5) (pv 4) (fun _ _ => rfl)))) pa_nil)) (pa_cons (pe_callB (sum_Q K rfl) (by rfl) T.n_sum PyProof.Rows.boot_sum (pa_cons (pe_comp [5] rfl (blk_of rfl) (pi_listQ K (pv 0)) (fun _ => (pg_name (i := 5) sc_lright.nd rfl (Or.inl rfl))) (fun _ => pts_nil) (fun _ => (pe_ix (ix_Q K) (pv 5) (pv 4) (fun _ _ => rfl)))) pa_nil)) (pa_cons (pv 1) pa_nil))))))
      (pss_one (ps_ret pe_bl))
      pss_nil)))
      (pss_one (ps_ret (pe_call (ok_lnear T) (hr.mono (by decide)) rfl T.m_lnear T.F_lnear.kp T.b_lnear .nil pass0 (pa_cons (pe_callB (sum_Q K rfl) (by rfl) T.n_sum PyProof.Rows.boot_sum (pa_cons (pe_comp [5] rfl (blk_of rfl) (pi_listQ K (pv 2)) (fun _ => (pg_name (i := 5) sc_lright.nd rfl (Or.inl rfl))) (fun _ => pts_nil) (fun _ => (pe_callB (sum_Q K rfl) (by rfl) T.n_sum PyProof.Rows.boot_sum (pa_cons (pv 5) pa_nil)))) pa_nil)) (pa_cons (pe_callB (sum_Q K rfl) (by rfl) T.n_sum PyProof.Rows.boot_sum (pa_cons (pe_comp [5] rfl (blk_of rfl) (pi_listQ K (pv 0)) (fun _ => (pg_name (i := 5) sc_lright.nd rfl (Or.inl rfl))) (fun _ => pts_nil) (fun _ => (pe_callB (sum_Q K rfl) (by rfl) T.n_sum PyProof.Rows.boot_sum (pa_cons (pv 5) pa_nil)))) pa_nil)) (pa_cons (pv 1) pa_nil))))))))), ?_⟩
  obtain ⟨ts, ht, lt, hrows⟩ := mt
  rw [mk_len] at lt
  have la : as.length = r := by have := mm.len; rw [mk_len] at this; exact this
  have mrows : ∀ (i : Nat) (a : Addr) (x : List Int), as[i]? = some a → (mkT M r c)[i]? = some x → SqL K H a (x.map V.int) := fun i a x e1 e2 => SqL.of (mm.rows i a x e1 e2)
  have hz : r ≤ sizeLine := Nat.le_trans r1 (by decide)
  have getT : ∀ {H' : Hp}, Same H H' → ∀ i : Nat, i < r → ∃ b, Sq K H' t (ts.map V.ref) ∧ atI (ts.map V.ref) (0 + (i : Int)) = some (.ref b) ∧ Sq K H' b ((row c (f i)).map V.int) ∧ SqL K H' b ((row c (f i)).map V.int) := fun S i hi => by
    obtain ⟨b, e1, e2⟩ := mat_row (as := ts) (T := f) (r := r) (c := c) (by rw [mk_len]; exact lt) hi
    exact ⟨b, .inl (S.seq ht), by rw [Int.zero_add]; exact e2, .inl (S.seq (hrows i b _ e1 (mk_get hi))), S.seq (hrows i b _ e1 (mk_get hi))⟩
  have getM : ∀ {H' : Hp}, Same H H' → ∀ i : Nat, i < r → ∃ b, Sq K H' p (as.map V.ref) ∧ atI (as.map V.ref) (0 + (i : Int)) = some (.ref b) ∧ Sq K H' b ((row c (M i)).map V.int) ∧ SqL K H' b ((row c (M i)).map V.int) := fun S i hi => by
    obtain ⟨b, e1, e2⟩ := mat_row (as := as) (T := M) (r := r) (c := c) (by rw [mk_len]; exact la) hi
    exact ⟨b, .inl (S.seq (SqL.of mm.top)), by rw [Int.zero_add]; exact e2, .inl (S.seq (mrows i b _ e1 (mk_get hi))), S.seq (mrows i b _ e1 (mk_get hi))⟩
  have fsum : ∀ i, i < r → 0 ≤ sumZ c (f i) ∧ sumZ c (f i) ≤ 20 * 10 ^ 10 := fun i hi => by
    have := sumZ_bd (n := c) fun j hj => fb i j hi hj
    omega
  obtain ⟨b0, tq0, ta0, tb0, tl0⟩ := getT (Same.refl H) 0 r0
  have ta0' : atI (ts.map V.ref) 0 = some (.ref b0) := ta0
  refine ⟨_, rfl, _, rfl, _, _, rfl, by assumption, _, rfl, _, _, _, _, rfl, rfl, by assumption, by assumption, _, _, rfl, by assumption, ?_⟩
  rw [List.length_map, lt, List.length_map, row_len]
  refine ⟨p, as, M, r, c, rfl, mm, nr.nn, ?_⟩
  refine ⟨_, rfl, ?_⟩
  refine iteF ?_
  refine ⟨_, rfl, _, _, rfl, by assumption, ?_⟩
  rw [List.length_map, lt]
  refine ⟨_, rfl, by omega, by omega, ?_⟩
  rw [Int.toNat_natCast]
  refine for_range (fun i σ H' => Same H H' ∧ ∃ v3 v4, σ = [some (.ref t), some (.int u), some (.ref p), v3, v4, none]) ⟨Same.refl _, _, _, rfl⟩ ?_ ?_
  · rintro i σ H' hi ⟨S', v3, v4, rfl⟩
    obtain ⟨bt, tq, ta, tb, tl⟩ := getT S' i hi
    obtain ⟨bm, mq, ma, mb, ml⟩ := getM S' i hi
    have tb0' := S'.sq tb0
    refine ⟨_, rfl, _, _, _, _, rfl, rfl, by assumption, by assumption, _, _, rfl, by assumption, ?_⟩
    rw [List.length_map, row_len]
    refine ⟨_, rfl, by omega, by omega, ?_⟩
    rw [Int.toNat_natCast]
    refine for_range (fun j σ H'' => H'' = H' ∧ ∃ v4, σ = [some (.ref t), some (.int u), some (.ref p), some (.int (0 + (i : Int))), v4, none]) ⟨rfl, _, rfl⟩ ?_ ?_
    · rintro j σ H'' hj ⟨rfl, v4, rfl⟩
      have atj : atI ((row c (f i)).map V.int) (0 + (j : Int)) = some (.int (f i j)) := by rw [Int.zero_add]; exact at_row hj
      have mtj : atI ((row c (M i)).map V.int) (0 + (j : Int)) = some (.int (M i j)) := by rw [Int.zero_add]; exact at_row hj
      refine ⟨_, rfl, _, rfl, _, _, _, _, rfl, rfl, by assumption, by assumption, _, rfl, _, _, _, _, rfl, rfl, by assumption, by assumption, _, rfl, _, rfl, _, _, _, _, rfl, rfl, by assumption, by assumption, _, rfl, _, _, _, _, rfl, rfl, by assumption, by assumption, _, rfl, ?_⟩
      have h1 := nr.cell i j hi hj
      have h2 := fb i j hi hj
      refine ⟨_, _, _, rfl, nr.nn i j hi hj, near_bd (nr.nn i j hi hj) u0 u1 h1.2 (by omega), u0, u1, h1.1, h1.2, ?_⟩
      refine ⟨_, rfl, ?_⟩
      refine iteF ?_
      exact ⟨rfl, _, rfl⟩
    · rintro σ H'' ⟨rfl, v4, rfl⟩
      refine ⟨_, rfl, _, rfl, _, _, _, _, rfl, rfl, by assumption, by assumption, _, _, rfl, by assumption, _, rfl, _, rfl, _, _, _, _, rfl, rfl, by assumption, by assumption, _, _, rfl, by assumption, _, rfl, ?_⟩
      rw [row_sum, row_sum]
      have h1 := nr.rowS i hi
      have h2 := fsum i hi
      have h3 : 0 ≤ sumZ c (M i) := by
        have := sumZ_le (n := c) (f := fun _ => 0) (g := M i) fun j hj => nr.nn i j hi hj
        rw [sumZ_zero] at this
        exact this
      refine ⟨_, _, _, rfl, h3, near_bd h3 u0 u1 h1.2 (by omega), u0, u1, h1.1, h1.2, ?_⟩
      refine ⟨_, rfl, ?_⟩
      refine iteF ?_
      exact ⟨S', _, _, rfl⟩
  rintro σ H1 ⟨S1, v3, v4, rfl⟩
  have tq1 := S1.sq tq0
  have tb1 := S1.sq tb0
  refine ⟨_, rfl, _, _, _, _, rfl, rfl, by assumption, by assumption, _, _, rfl, by assumption, ?_⟩
  rw [List.length_map, row_len]
  refine ⟨_, rfl, by omega, by omega, ?_⟩
  rw [Int.toNat_natCast]
  refine for_range (fun j σ H' => Same H H' ∧ ∃ v4, σ = [some (.ref t), some (.int u), some (.ref p), v3, v4, none]) ⟨S1, _, rfl⟩ ?_ ?_
  · rintro j σ H2 hj ⟨S2, v4, rfl⟩
    refine ⟨_, rfl, ?_⟩
    refine ⟨p, rfl, ⟨_, S2.seq (SqL.of mm.top)⟩, comp_rows (S2.seq (SqL.of mm.top)) la hz (fun i a x e1 e2 => S2.seq (mrows i a x e1 e2)) (fun i => M i j) (fun i b Q' hi hb hQ => ?_) fun l3 H3 N3 => ?_⟩
    · have atj : atI ((row c (M i)).map V.int) (0 + (j : Int)) = some (.int (M i j)) := by rw [Int.zero_add]; exact at_row hj
      refine ⟨_, rfl, _, rfl, _, _, _, _, rfl, rfl, Or.inl (by assumption), by assumption, ?_⟩
      exact hQ
    have S3 := S2.trans N3.same
    have h3 := N3.at_
    refine ⟨_, _, rfl, SqL.of (by assumption), _, rfl, ?_⟩
    refine ⟨t, rfl, ⟨_, S3.seq ht⟩, comp_rows (S3.seq ht) lt hz (fun i a x e1 e2 => S3.seq (hrows i a x e1 e2)) (fun i => f i j) (fun i b Q' hi hb hQ => ?_) fun l4 H4 N4 => ?_⟩
    · have atj : atI ((row c (f i)).map V.int) (0 + (j : Int)) = some (.int (f i j)) := by rw [Int.zero_add]; exact at_row hj
      refine ⟨_, rfl, _, rfl, _, _, _, _, rfl, rfl, Or.inl (by assumption), by assumption, ?_⟩
      exact hQ
    have S4 := S3.trans N4.same
    have h4 := N4.at_
    refine ⟨_, _, rfl, SqL.of (by assumption), _, rfl, ?_⟩
    rw [row_sum, row_sum]
    have h1 := nr.colS j hj
    have h2 := sumZ_bd (n := r) fun i hi => fb i j hi hj
    have h5 : 0 ≤ sumZ r (fun i => M i j) := by
      have := sumZ_le (n := r) (f := fun _ => 0) (g := fun i => M i j) fun i hi => nr.nn i j hi hj
      rw [sumZ_zero] at this
      exact this
    refine ⟨_, _, _, rfl, h5, near_bd h5 u0 u1 h1.2 (by omega), u0, u1, h1.1, h1.2, ?_⟩
    refine ⟨_, rfl, ?_⟩
    refine iteF ?_
    exact ⟨S4, _, rfl⟩
  rintro σ H2 ⟨S2, v4, rfl⟩
  refine ⟨_, rfl, ?_⟩
  refine ⟨p, rfl, ⟨_, S2.seq (SqL.of mm.top)⟩, comp_rows (S2.seq (SqL.of mm.top)) la hz (fun i a x e1 e2 => S2.seq (mrows i a x e1 e2)) (fun i => sumZ c (M i)) (fun i b Q' hi hb hQ => ?_) fun l3 H3 N3 => ?_⟩
  · refine ⟨_, rfl, _, _, rfl, by assumption, ?_⟩
    rw [row_sum]
    exact hQ
  have S3 := S2.trans N3.same
  have h3 := N3.at_
  refine ⟨_, _, rfl, SqL.of (by assumption), _, rfl, ?_⟩
  refine ⟨t, rfl, ⟨_, S3.seq ht⟩, comp_rows (S3.seq ht) lt hz (fun i a x e1 e2 => S3.seq (hrows i a x e1 e2)) (fun i => sumZ c (f i)) (fun i b Q' hi hb hQ => ?_) fun l4 H4 N4 => ?_⟩
  · refine ⟨_, rfl, _, _, rfl, by assumption, ?_⟩
    rw [row_sum]
    exact hQ
  have S4 := S3.trans N4.same
  have h4 := N4.at_
  refine ⟨_, _, rfl, SqL.of (by assumption), _, rfl, ?_⟩
  rw [row_sum, row_sum]
  have h1 := nr.all
  have h2 := sumZ_bd (n := r) fun i hi => fsum i hi
  have h5 : 0 ≤ sumZ r (fun i => sumZ c (M i)) := by
    have := sumZ_le (n := r) (f := fun _ => 0) (g := fun i => sumZ c (M i)) fun i hi => by
      have := sumZ_le (n := c) (f := fun _ => 0) (g := M i) fun j hj => nr.nn i j hi hj
      rw [sumZ_zero] at this
      exact this
    rw [sumZ_zero] at this
    exact this
  exact ⟨_, _, _, rfl, h5, near_bd h5 u0 u1 h1.2 (by omega), u0, u1, h1.1, h1.2, q _ S4⟩
end
end K9
namespace K9
open PySem L2 SW
section
variable {P : Program} {w : World} {K : PySem.W.Frag} {mg : Str → Option Value} {base : Heap}
theorem ok_law (T : Txt K mg) : FnOk P w K mg base CX0 5 T.a_law T.fd_law ["_law_script"] (spLaw K) := by
  refine T.F_law.ok sc_law (fun vs H Q E h => ?_) (fun cdv A outer s H vs Q E hr h => ?_)
  · obtain ⟨a, ns, rfl, _⟩ := h
    rfl
  obtain ⟨a, ns, rfl, hS, _, q⟩ := h
  refine ⟨_, (pss_cons (ps_for PassesOwn.never rfl (pi_range1 rfl T.n_range (pa_cons pe_int pa_nil)) (pg_name (i := 1) sc_law.nd rfl (Or.inl rfl))
      (pss_cons (ps_asg (pe_call (ok_ldrawn T) (hr.mono (by decide)) rfl T.m_ldrawn T.F_ldrawn.kp T.b_ldrawn .nil pass0 (pa_cons (pv 0) (pa_cons (pv 1) pa_nil))) (pg_tupQ K rfl (pgs_cons (pg_name (i := 2) sc_law.nd rfl (Or.inl rfl)) (pgs_cons (pg_name (i := 3) sc_law.nd rfl (Or.inl rfl)) pgs_nil))))
      (pss_cons (ps_setC (i := 4) [6] rfl (blk_of rfl) (pi_listQ K (pv 2)) (fun _ => (pg_name (i := 6) sc_law.nd rfl (Or.inl rfl))) (fun _ => pts_nil) (fun _ => (pe_callTy (list_Q K) (by rfl) T.n_list PyProof.Rows.boot_list (pa_cons (pv 6) pa_nil))) sc_law.nd rfl rfl)
      (pss_cons (ps_set (i := 5) sc_law.nd rfl (Or.inl rfl) (pe_call (ok_rounded T) (hr.mono (by decide)) rfl T.m_rounded T.F_rounded.kp T.b_rounded .nil pass0 (pa_cons (pv 4) (pa_cons (pv 3) pa_nil))))
      (pss_cons (ps_if (PW.pt (pw_or (pt_cmpR (neM_Q K hr.units) (pv 4) (pv 2) (nomark _)) (pw_or1 (pt_not (pt_val (pe_call (ok_lright T) (hr.mono (by decide)) rfl T.m_lright T.F_lright.kp T.b_lright .nil pass0 (pa_cons (pv 2) (pa_cons (pv 3) (pa_cons (pv 5) pa_nil)))))))))
      (pss_one (ps_ret pe_bl))
      pss_nil)
      (pss_cons (ps_augS (pe_ix (ix_Q K) (pv 4) pe_int (fun _ _ => rfl)) pe_int (getL_Q K) (pe_op op_mulF pe_int (pv 3)) ip_add set_list)
      (pss_cons (ps_if (pt_not (pt_val (pe_call (ok_lright T) (hr.mono (by decide)) rfl T.m_lright T.F_lright.kp T.b_lright .nil pass0 (pa_cons (pv 2) (pa_cons (pv 3) (pa_cons (pv 5) pa_nil))))))
      (pss_one (ps_ret pe_bl))
      pss_nil)
      (pss_cons (ps_expr (pe_bm PySem.F.plainAttrs_list PySem.F.slot_list_append PySem.F.type_list_append mt_append (pe_ix (ix_Q K) (pv 5) pe_int (fun _ _ => rfl)) (pa_cons pe_int pa_nil)))
      (pss_cons (ps_if (pt_not (pt_val (pe_call (ok_lright T) (hr.mono (by decide)) rfl T.m_lright T.F_lright.kp T.b_lright .nil pass0 (pa_cons (pv 2) (pa_cons (pv 3) (pa_cons (pe_call (ok_rounded T) (hr.mono (by decide)) rfl T.m_rounded T.F_rounded.kp T.b_rounded .nil pass0 (pa_cons (pv 2) (pa_cons (pv 3) pa_nil))) pa_nil))))))
      (pss_one (ps_ret pe_bl))
      pss_nil)
      (pss_one (ps_if (pt_not (pt_val (pe_call (ok_lright T) (hr.mono (by decide)) rfl T.m_lright T.F_lright.kp T.b_lright .nil pass0 (pa_cons (pv 4) (pa_cons (pv 3) (pa_cons (pe_call (ok_rounded T) (hr.mono (by decide)) rfl T.m_rounded T.F_rounded.kp T.b_rounded .nil pass0 (pa_cons (pv 4) (pa_cons (pv 3) pa_nil))) pa_nil))))))
      (pss_one (ps_ret pe_bl))
      pss_nil)))))))))))
      (pss_one (ps_ret pe_bl))), ?_⟩
  refine ⟨_, rfl, by omega, by omega, ?_⟩
  refine for_range (fun i σ H' => Same H H' ∧ ∃ v1 v2 v3 v4 v5, σ = [some (.ref a), v1, v2, v3, v4, v5, none]) ⟨Same.refl _, _, _, _, _, _, rfl⟩ ?_ ?_
  · rintro i σ H0 hi ⟨S0, v1, v2, v3, v4, v5, rfl⟩
    have hS0 := S0.seq hS
    refine ⟨_, rfl, _, rfl, ?_⟩
    refine ⟨a, ns, _, rfl, hS0, by omega, by omega, fun tt p as f r c u H1 S1 et mt r0 r1 c0 c1 u0 u1 fb => ?_⟩
    refine ⟨_, _, rfl, SqT.of (by assumption), rfl, _, _, rfl, _, _, rfl, rfl, _, rfl, ?_⟩
    refine ⟨p, rfl, ⟨_, SqL.of mt.top⟩, ?_⟩
    have la : as.length = r := by have := mt.len; rw [mk_len] at this; exact this
    have mrows : ∀ (i : Nat) (a : Addr) (x : List Int), as[i]? = some a → (mkT f r c)[i]? = some x → SqL K H1 a (x.map V.int) := fun i a x e1 e2 => SqL.of (mt.rows i a x e1 e2)
    refine comp_list (xs := as.map V.ref) (fun i ys H2 => Same H1 H2 ∧ ∃ bs : List Addr, ys = bs.map V.ref ∧ bs.length = i ∧ bs.Nodup ∧ (∀ b, b ∈ bs → H1 b = none) ∧ ∀ (k : Nat) (b : Addr), bs[k]? = some b → H2 b = some (.lst ((row c (f k)).map V.int))) (by rw [List.length_map, la]; exact Nat.le_trans r1 (by decide)) ⟨Same.refl _, [], rfl, rfl, List.nodup_nil, fun b h => (by cases h), fun k b e => (by simp at e)⟩ (fun i ys H2 _ h => h.1.seq (SqL.of mt.top)) ?_ ?_
    · rintro i x ys H2 hx ⟨S2, bs, rfl, lb, nd, nbs, hb⟩
      obtain ⟨b, rfl, ea, hi, hrow⟩ := rowAt la mrows hx
      refine yes ?_
      refine ⟨_, rfl, ?_⟩
      refine ⟨b, _, rfl, .inl (S2.seq hrow), fun l H3 N3 => ?_⟩
      refine ⟨S2.trans N3.same, bs ++ [l], by simp, by simp [lb], ?_, fun d hd => ?_, fun k d e => ?_⟩
      · refine List.nodup_append.mpr ⟨nd, by simp, fun x hx y hy => ?_⟩
        have : y = l := by simpa using hy
        subst this
        rintro rfl
        obtain ⟨n, hn, en⟩ := List.getElem_of_mem hx
        have := hb n x (by rw [List.getElem?_eq_getElem hn, en])
        rw [N3.gone] at this
        cases this
      · rcases List.mem_append.mp hd with h | h
        · exact nbs d h
        · have : d = l := by simpa using h
          rw [this]
          exact S2.free N3.gone
      · by_cases hk : k < bs.length
        · rw [List.getElem?_append_left hk] at e
          exact N3.same _ _ (hb k d e)
        · rw [List.getElem?_append_right (by omega)] at e
          have hz : k - bs.length = 0 := by have := (List.getElem?_eq_some_iff.mp e).1; simp at this; omega
          rw [hz] at e
          have ed : d = l := by simpa using e.symm
          have ek : k = i := by omega
          rw [ed, ek]
          exact N3.at_
    rintro ys H2 ⟨S2, bs, rfl, lb, nd, nbs, hb⟩ h H3 N3
    rw [List.length_map, la] at lb
    have mh : MatM H3 h bs (mkT f r c) := ⟨N3.at_, nd, by rw [mk_len]; exact lb, fun i b x e1 e2 => by
      have hi : i < r := by have := (List.getElem?_eq_some_iff.mp e1).1; omega
      rw [mk_get hi] at e2
      rw [← Option.some.inj e2]
      exact N3.same _ _ (hb i b e1)⟩
    have S13 : Same H1 H3 := S2.trans N3.same
    have nh : H1 h = none := S2.free N3.gone
    have hbs : h ∉ bs := fun z => by
      obtain ⟨n, hn, en⟩ := List.getElem_of_mem z
      have := hb n h (by rw [List.getElem?_eq_getElem hn, en])
      rw [N3.gone] at this
      cases this
    refine ⟨_, rfl, _, rfl, ?_⟩
    refine ⟨h, f, r, c, u, rfl, mh.mat, r0, by omega, c0, by omega, u0, u1, fun i j hi hj => (fb i j hi hj).1, fun pm cs H4 M S4 npm ncs mm pcs nr => ?_⟩
    have S14 := S13.trans S4
    have mh4 := mh.same S4
    have mt4 := mt.same S14
    have fb' : ∀ i j, i < r → j < c → 0 ≤ f i j ∧ f i j ≤ 10 ^ 10 := fun i j hi hj => by have := fb i j hi hj; omega
    refine ⟨_, rfl, _, rfl, ?_⟩
    refine ⟨h, p, _, _, rfl, rfl, mh4.mat, mt4.mat, ?_⟩
    refine ⟨_, rfl, ?_⟩
    rw [if_pos rfl, decide_eq_true rfl]
    refine iteF ?_
    refine ⟨_, rfl, _, rfl, _, rfl, ?_⟩
    refine ⟨p, pm, cs, f, M, r, c, u, rfl, mt4.mat, mm, nr, r0, by omega, c0, by omega, u0, u1, fb', fun H5 S5 => ?_⟩
    refine ⟨_, rfl, ?_⟩
    refine iteF ?_
    -- handed[0][0] += 7 * w
    have mh5 := mh4.same S5
    have S15 := S14.trans S5
    obtain ⟨b0, eb0, ab0⟩ := mat_row (as := bs) (T := f) (r := r) (c := c) (by rw [mk_len]; exact lb) r0
    have ab0' : atI (bs.map V.ref) 0 = some (.ref b0) := ab0
    have hb0 := mh5.rows 0 b0 _ eb0 (mk_get r0)
    have ac0 : atI ((row c (f 0)).map V.int) 0 = some (.int (f 0 0)) := at_row c0
    have ht5 := mh5.top
    have b0bs : b0 ∈ bs := List.mem_of_getElem? eb0
    have nb0 : H1 b0 = none := nbs b0 b0bs
    have sb0 : H3 b0 ≠ none := fun z => by have := mh.rows 0 b0 _ eb0 (mk_get r0); rw [z] at this; cases this
    refine ⟨_, rfl, _, _, _, _, rfl, rfl, Or.inl (SqL.of (by assumption)), by assumption, _, _, _, _, rfl, rfl, SqL.of (by assumption), by assumption, _, rfl, _, _, rfl, rfl, .inr ⟨fits_of (by omega) (by omega), fits_of (by omega) (by omega)⟩, _, _, rfl, rfl, ?_⟩
    refine ⟨b0, _, _, 0, rfl, rfl, hb0, ?_, ?_⟩
    · unfold ixN
      rw [if_pos (Int.le_refl _), if_pos (by rw [List.length_map, row_len]; omega)]
      rfl
    have mh6 := mh5.set (v := f 0 0 + 7 * u) eb0 r0 c0 (fun z => hbs (by rw [z]; exact b0bs))
    have mm6 : MatM (upd H5 b0 (.lst (((row c (f 0)).map V.int).set 0 (.int (f 0 0 + 7 * u))))) pm cs (mkT M r c) := (mm.same S5).keep (fun z => sb0 (by rw [← z]; exact npm)) (fun z => sb0 (ncs b0 z))
    have S16 : Same H1 (upd H5 b0 (.lst (((row c (f 0)).map V.int).set 0 (.int (f 0 0 + 7 * u))))) := S15.upd nb0
    generalize upd H5 b0 (.lst (((row c (f 0)).map V.int).set 0 (.int (f 0 0 + 7 * u)))) = H6 at *
    refine ⟨_, rfl, _, rfl, _, rfl, ?_⟩
    refine ⟨p, pm, cs, f, M, r, c, u, rfl, (mt.same S16).mat, mm6, nr, r0, by omega, c0, by omega, u0, u1, fb', fun H7 S7 => ?_⟩
    refine ⟨_, rfl, ?_⟩
    refine iteF ?_
    -- made[0].append(1)
    have mm7 := mm6.same S7
    have mh7 := mh6.same S7
    have lc : cs.length = r := by have := mm.len; rw [mk_len] at this; exact this
    obtain ⟨d0, ed0, ad0⟩ := mat_row (as := cs) (T := M) (r := r) (c := c) (by rw [mk_len]; exact lc) r0
    have ad0' : atI (cs.map V.ref) 0 = some (.ref d0) := ad0
    have hd0 := mm7.rows 0 d0 _ ed0 (mk_get r0)
    have ht7 := mm7.top
    have nd0 : H3 d0 = none := ncs d0 (List.mem_of_getElem? ed0)
    refine ⟨_, rfl, _, _, _, _, rfl, rfl, Or.inl (SqL.of (by assumption)), by assumption, ?_⟩
    refine ⟨.inl ⟨rfl, _, SqL.of hd0⟩, ?_⟩
    refine ⟨d0, _, _, rfl, rfl, hd0, ?_, ?_⟩
    · rw [List.length_map, row_len]
      exact Nat.lt_of_le_of_lt (show c ≤ 12 by omega) (by decide)
    have S18 : Same H1 (upd H7 d0 (.lst ((row c (M 0)).map V.int ++ [.int 1]))) := (S16.trans S7).upd (S13.free nd0)
    have mh8 : MatM (upd H7 d0 (.lst ((row c (M 0)).map V.int ++ [.int 1]))) h bs (mkT (upd2 f 0 0 (f 0 0 + 7 * u)) r c) := mh7.keep (fun z => by have := mh.top; rw [z, nd0] at this; cases this) (fun z => by
      obtain ⟨n, hn, en⟩ := List.getElem_of_mem z
      have := mh.rows n d0 _ (by rw [List.getElem?_eq_getElem hn, en]) (mk_get (by omega))
      rw [nd0] at this
      cases this)
    generalize upd H7 d0 (.lst ((row c (M 0)).map V.int ++ [.int 1])) = H8 at *
    refine ⟨_, rfl, _, rfl, _, rfl, _, rfl, ?_⟩
    refine ⟨p, f, r, c, u, rfl, (mt.same S18).mat, r0, by omega, c0, by omega, u0, u1, fun i j hi hj => (fb i j hi hj).1, fun pm2 cs2 H9 M2 S9 _ _ mm9 _ nr2 => ?_⟩
    refine ⟨p, pm2, cs2, f, M2, r, c, u, rfl, (mt.same (S18.trans S9)).mat, mm9, nr2, r0, by omega, c0, by omega, u0, u1, fb', fun H10 S10 => ?_⟩
    refine ⟨_, rfl, ?_⟩
    refine iteF ?_
    refine ⟨_, rfl, _, rfl, _, rfl, _, rfl, ?_⟩
    have fb2 : ∀ i j, i < r → j < c → 0 ≤ upd2 f 0 0 (f 0 0 + 7 * u) i j ∧ upd2 f 0 0 (f 0 0 + 7 * u) i j ≤ 10 ^ 10 := fun i j hi hj => by
      have h1 := fb i j hi hj
      have h2 := fb 0 0 r0 c0
      unfold upd2
      split <;> omega
    have mh10 := mh8.same (S9.trans S10)
    refine ⟨h, _, r, c, u, rfl, mh10.mat, r0, by omega, c0, by omega, u0, u1, fun i j hi hj => (fb2 i j hi hj).1, fun pm3 cs3 H11 M3 S11 _ _ mm11 _ nr3 => ?_⟩
    refine ⟨h, pm3, cs3, _, M3, r, c, u, rfl, (mh10.same S11).mat, mm11, nr3, r0, by omega, c0, by omega, u0, u1, fb2, fun H12 S12 => ?_⟩
    refine ⟨_, rfl, ?_⟩
    refine iteF ?_
    exact ⟨S0.trans (S1.trans (S18.trans (S9.trans (S10.trans (S11.trans S12))))), _, _, _, _, _, rfl⟩
  · rintro σ H0 ⟨S0, v1, v2, v3, v4, v5, rfl⟩
    exact q _
end
end K9
namespace K9
open PySem L2 SW
theorem txt_mk {K : PySem.W.Frag} {h : Heap} {mg : Str → Option Value} (X : K.In h) (G : h.Ns mainGlobals mg)
    {f_cell_between f_filled_parts f_filled f_next_node f_ring f_shift f_rounded f_lcell_at f_ldraw f_lgreat f_lwhole f_lnear f_lnumber f_lsize f_ldrawn f_lright f_law : Addr}
    {od_cell_between an_cell_between od_filled_parts an_filled_parts od_filled an_filled od_next_node an_next_node od_ring an_ring od_shift an_shift od_rounded an_rounded od_lcell_at an_lcell_at od_ldraw an_ldraw od_lgreat an_lgreat od_lwhole an_lwhole od_lnear an_lnear od_lnumber an_lnumber od_lsize an_lsize od_ldrawn an_ldrawn od_lright an_lright od_law an_law : Option Addr}
    {sl_cell_between sl_filled_parts sl_filled sl_next_node sl_ring sl_shift sl_rounded sl_lcell_at sl_ldraw sl_lgreat sl_lwhole sl_lnear sl_lnumber sl_lsize sl_ldrawn sl_lright sl_law : Array (Option Value)}
    {oc_cell_between kV_cell_between dc_cell_between pm_cell_between cd_cell_between ct_cell_between oc_filled_parts kV_filled_parts dc_filled_parts pm_filled_parts cd_filled_parts ct_filled_parts oc_filled kV_filled dc_filled pm_filled cd_filled ct_filled oc_next_node kV_next_node dc_next_node pm_next_node cd_next_node ct_next_node oc_ring kV_ring dc_ring pm_ring cd_ring ct_ring oc_shift kV_shift dc_shift pm_shift cd_shift ct_shift oc_rounded kV_rounded dc_rounded pm_rounded cd_rounded ct_rounded oc_lcell_at kV_lcell_at dc_lcell_at pm_lcell_at cd_lcell_at ct_lcell_at oc_ldraw kV_ldraw dc_ldraw pm_ldraw cd_ldraw ct_ldraw oc_lgreat kV_lgreat dc_lgreat pm_lgreat cd_lgreat ct_lgreat oc_lwhole kV_lwhole dc_lwhole pm_lwhole cd_lwhole ct_lwhole oc_lnear kV_lnear dc_lnear pm_lnear cd_lnear ct_lnear oc_lnumber kV_lnumber dc_lnumber pm_lnumber cd_lnumber ct_lnumber oc_lsize kV_lsize dc_lsize pm_lsize cd_lsize ct_lsize oc_ldrawn kV_ldrawn dc_ldrawn pm_ldrawn cd_ldrawn ct_ldrawn oc_lright kV_lright dc_lright pm_lright cd_lright ct_lright oc_law kV_law dc_law pm_law cd_law ct_law : Value}
    (a_cell_between : PySem.W.nsIn K mainGlobals "cell_between" = some (some (.ref f_cell_between)))
    (l_cell_between : K.lookup f_cell_between = some ⟨oc_cell_between, od_cell_between, .func (PySem.W.fnOf "cell_between" "cell_between" (defArgs s_cell_between) (defBody s_cell_between) (defScope s_cell_between) .none kV_cell_between dc_cell_between pm_cell_between an_cell_between cd_cell_between ct_cell_between), sl_cell_between⟩)
    (c_cell_between' : PySem.W.codeIn K cd_cell_between "cell_between" = true)
    (k_cell_between' : PySem.W.keepIn K (.ref f_cell_between) = true)
    (a_filled_parts : PySem.W.nsIn K mainGlobals "filled_parts" = some (some (.ref f_filled_parts)))
    (l_filled_parts : K.lookup f_filled_parts = some ⟨oc_filled_parts, od_filled_parts, .func (PySem.W.fnOf "filled_parts" "filled_parts" (defArgs s_filled_parts) (defBody s_filled_parts) (defScope s_filled_parts) .none kV_filled_parts dc_filled_parts pm_filled_parts an_filled_parts cd_filled_parts ct_filled_parts), sl_filled_parts⟩)
    (c_filled_parts' : PySem.W.codeIn K cd_filled_parts "filled_parts" = true)
    (k_filled_parts' : PySem.W.keepIn K (.ref f_filled_parts) = true)
    (a_filled : PySem.W.nsIn K mainGlobals "filled" = some (some (.ref f_filled)))
    (l_filled : K.lookup f_filled = some ⟨oc_filled, od_filled, .func (PySem.W.fnOf "filled" "filled" (defArgs s_filled) (defBody s_filled) (defScope s_filled) .none kV_filled dc_filled pm_filled an_filled cd_filled ct_filled), sl_filled⟩)
    (c_filled' : PySem.W.codeIn K cd_filled "filled" = true)
    (k_filled' : PySem.W.keepIn K (.ref f_filled) = true)
    (a_next_node : PySem.W.nsIn K mainGlobals "next_node" = some (some (.ref f_next_node)))
    (l_next_node : K.lookup f_next_node = some ⟨oc_next_node, od_next_node, .func (PySem.W.fnOf "next_node" "next_node" (defArgs s_next_node) (defBody s_next_node) (defScope s_next_node) .none kV_next_node dc_next_node pm_next_node an_next_node cd_next_node ct_next_node), sl_next_node⟩)
    (c_next_node' : PySem.W.codeIn K cd_next_node "next_node" = true)
    (k_next_node' : PySem.W.keepIn K (.ref f_next_node) = true)
    (a_ring : PySem.W.nsIn K mainGlobals "ring" = some (some (.ref f_ring)))
    (l_ring : K.lookup f_ring = some ⟨oc_ring, od_ring, .func (PySem.W.fnOf "ring" "ring" (defArgs s_ring) (defBody s_ring) (defScope s_ring) .none kV_ring dc_ring pm_ring an_ring cd_ring ct_ring), sl_ring⟩)
    (c_ring' : PySem.W.codeIn K cd_ring "ring" = true)
    (k_ring' : PySem.W.keepIn K (.ref f_ring) = true)
    (a_shift : PySem.W.nsIn K mainGlobals "shift" = some (some (.ref f_shift)))
    (l_shift : K.lookup f_shift = some ⟨oc_shift, od_shift, .func (PySem.W.fnOf "shift" "shift" (defArgs s_shift) (defBody s_shift) (defScope s_shift) .none kV_shift dc_shift pm_shift an_shift cd_shift ct_shift), sl_shift⟩)
    (c_shift' : PySem.W.codeIn K cd_shift "shift" = true)
    (k_shift' : PySem.W.keepIn K (.ref f_shift) = true)
    (a_rounded : PySem.W.nsIn K mainGlobals "rounded" = some (some (.ref f_rounded)))
    (l_rounded : K.lookup f_rounded = some ⟨oc_rounded, od_rounded, .func (PySem.W.fnOf "rounded" "rounded" (defArgs s_rounded) (defBody s_rounded) (defScope s_rounded) .none kV_rounded dc_rounded pm_rounded an_rounded cd_rounded ct_rounded), sl_rounded⟩)
    (c_rounded' : PySem.W.codeIn K cd_rounded "rounded" = true)
    (k_rounded' : PySem.W.keepIn K (.ref f_rounded) = true)
    (a_lcell_at : PySem.W.nsIn K mainGlobals "_law_cell_at" = some (some (.ref f_lcell_at)))
    (l_lcell_at : K.lookup f_lcell_at = some ⟨oc_lcell_at, od_lcell_at, .func (PySem.W.fnOf "_law_cell_at" "_law_cell_at" (defArgs s_lcell_at) (defBody s_lcell_at) (defScope s_lcell_at) .none kV_lcell_at dc_lcell_at pm_lcell_at an_lcell_at cd_lcell_at ct_lcell_at), sl_lcell_at⟩)
    (c_lcell_at' : PySem.W.codeIn K cd_lcell_at "_law_cell_at" = true)
    (k_lcell_at' : PySem.W.keepIn K (.ref f_lcell_at) = true)
    (a_ldraw : PySem.W.nsIn K mainGlobals "_law_draw" = some (some (.ref f_ldraw)))
    (l_ldraw : K.lookup f_ldraw = some ⟨oc_ldraw, od_ldraw, .func (PySem.W.fnOf "_law_draw" "_law_draw" (defArgs s_ldraw) (defBody s_ldraw) (defScope s_ldraw) .none kV_ldraw dc_ldraw pm_ldraw an_ldraw cd_ldraw ct_ldraw), sl_ldraw⟩)
    (c_ldraw' : PySem.W.codeIn K cd_ldraw "_law_draw" = true)
    (k_ldraw' : PySem.W.keepIn K (.ref f_ldraw) = true)
    (a_lgreat : PySem.W.nsIn K mainGlobals "_law_great" = some (some (.ref f_lgreat)))
    (l_lgreat : K.lookup f_lgreat = some ⟨oc_lgreat, od_lgreat, .func (PySem.W.fnOf "_law_great" "_law_great" (defArgs s_lgreat) (defBody s_lgreat) (defScope s_lgreat) .none kV_lgreat dc_lgreat pm_lgreat an_lgreat cd_lgreat ct_lgreat), sl_lgreat⟩)
    (c_lgreat' : PySem.W.codeIn K cd_lgreat "_law_great" = true)
    (k_lgreat' : PySem.W.keepIn K (.ref f_lgreat) = true)
    (a_lwhole : PySem.W.nsIn K mainGlobals "_law_whole" = some (some (.ref f_lwhole)))
    (l_lwhole : K.lookup f_lwhole = some ⟨oc_lwhole, od_lwhole, .func (PySem.W.fnOf "_law_whole" "_law_whole" (defArgs s_lwhole) (defBody s_lwhole) (defScope s_lwhole) .none kV_lwhole dc_lwhole pm_lwhole an_lwhole cd_lwhole ct_lwhole), sl_lwhole⟩)
    (c_lwhole' : PySem.W.codeIn K cd_lwhole "_law_whole" = true)
    (k_lwhole' : PySem.W.keepIn K (.ref f_lwhole) = true)
    (a_lnear : PySem.W.nsIn K mainGlobals "_law_near" = some (some (.ref f_lnear)))
    (l_lnear : K.lookup f_lnear = some ⟨oc_lnear, od_lnear, .func (PySem.W.fnOf "_law_near" "_law_near" (defArgs s_lnear) (defBody s_lnear) (defScope s_lnear) .none kV_lnear dc_lnear pm_lnear an_lnear cd_lnear ct_lnear), sl_lnear⟩)
    (c_lnear' : PySem.W.codeIn K cd_lnear "_law_near" = true)
    (k_lnear' : PySem.W.keepIn K (.ref f_lnear) = true)
    (a_lnumber : PySem.W.nsIn K mainGlobals "_law_number" = some (some (.ref f_lnumber)))
    (l_lnumber : K.lookup f_lnumber = some ⟨oc_lnumber, od_lnumber, .func (PySem.W.fnOf "_law_number" "_law_number" (defArgs s_lnumber) (defBody s_lnumber) (defScope s_lnumber) .none kV_lnumber dc_lnumber pm_lnumber an_lnumber cd_lnumber ct_lnumber), sl_lnumber⟩)
    (c_lnumber' : PySem.W.codeIn K cd_lnumber "_law_number" = true)
    (k_lnumber' : PySem.W.keepIn K (.ref f_lnumber) = true)
    (a_lsize : PySem.W.nsIn K mainGlobals "_law_size" = some (some (.ref f_lsize)))
    (l_lsize : K.lookup f_lsize = some ⟨oc_lsize, od_lsize, .func (PySem.W.fnOf "_law_size" "_law_size" (defArgs s_lsize) (defBody s_lsize) (defScope s_lsize) .none kV_lsize dc_lsize pm_lsize an_lsize cd_lsize ct_lsize), sl_lsize⟩)
    (c_lsize' : PySem.W.codeIn K cd_lsize "_law_size" = true)
    (k_lsize' : PySem.W.keepIn K (.ref f_lsize) = true)
    (a_ldrawn : PySem.W.nsIn K mainGlobals "_law_drawn" = some (some (.ref f_ldrawn)))
    (l_ldrawn : K.lookup f_ldrawn = some ⟨oc_ldrawn, od_ldrawn, .func (PySem.W.fnOf "_law_drawn" "_law_drawn" (defArgs s_ldrawn) (defBody s_ldrawn) (defScope s_ldrawn) .none kV_ldrawn dc_ldrawn pm_ldrawn an_ldrawn cd_ldrawn ct_ldrawn), sl_ldrawn⟩)
    (c_ldrawn' : PySem.W.codeIn K cd_ldrawn "_law_drawn" = true)
    (k_ldrawn' : PySem.W.keepIn K (.ref f_ldrawn) = true)
    (a_lright : PySem.W.nsIn K mainGlobals "_law_right" = some (some (.ref f_lright)))
    (l_lright : K.lookup f_lright = some ⟨oc_lright, od_lright, .func (PySem.W.fnOf "_law_right" "_law_right" (defArgs s_lright) (defBody s_lright) (defScope s_lright) .none kV_lright dc_lright pm_lright an_lright cd_lright ct_lright), sl_lright⟩)
    (c_lright' : PySem.W.codeIn K cd_lright "_law_right" = true)
    (k_lright' : PySem.W.keepIn K (.ref f_lright) = true)
    (a_law : PySem.W.nsIn K mainGlobals "law" = some (some (.ref f_law)))
    (l_law : K.lookup f_law = some ⟨oc_law, od_law, .func (PySem.W.fnOf "law" "law" (defArgs s_law) (defBody s_law) (defScope s_law) .none kV_law dc_law pm_law an_law cd_law ct_law), sl_law⟩)
    (c_law' : PySem.W.codeIn K cd_law "law" = true)
    (k_law' : PySem.W.keepIn K (.ref f_law) = true)
    (z_isinstance : PySem.W.nsIn K mainGlobals "isinstance" = some none)
    (z_int : PySem.W.nsIn K mainGlobals "int" = some none)
    (z_bool : PySem.W.nsIn K mainGlobals "bool" = some none)
    (z_list : PySem.W.nsIn K mainGlobals "list" = some none)
    (z_len : PySem.W.nsIn K mainGlobals "len" = some none)
    (z_min : PySem.W.nsIn K mainGlobals "min" = some none)
    (z_max : PySem.W.nsIn K mainGlobals "max" = some none)
    (z_range : PySem.W.nsIn K mainGlobals "range" = some none)
    (z_sum : PySem.W.nsIn K mainGlobals "sum" = some none)
    : ∃ T : Txt K mg, mg "law" = some (.ref T.a_law) ∧ ∀ (s : Shared) (v : Value), BindsTo s T.fd_law ⟨[v], []⟩ [("_law_script", v)] := by
  have F_cell_between := fun_mk (st := s_cell_between) l_cell_between c_cell_between' k_cell_between'
  have b_cell_between := F_cell_between.binds (ps := ["one", "other", "height"]) fun _ _ _ _ _ _ us hl => match us, hl with | [_, _, _], _ => rfl
  have F_filled_parts := fun_mk (st := s_filled_parts) l_filled_parts c_filled_parts' k_filled_parts'
  have b_filled_parts := F_filled_parts.binds (ps := ["table", "w"]) fun _ _ _ _ _ _ us hl => match us, hl with | [_, _], _ => rfl
  have F_filled := fun_mk (st := s_filled) l_filled c_filled' k_filled'
  have b_filled := F_filled.binds (ps := ["row", "w"]) fun _ _ _ _ _ _ us hl => match us, hl with | [_, _], _ => rfl
  have F_next_node := fun_mk (st := s_next_node) l_next_node c_next_node' k_next_node'
  have b_next_node := F_next_node.binds (ps := ["parts", "w", "node", "past"]) fun _ _ _ _ _ _ us hl => match us, hl with | [_, _, _, _], _ => rfl
  have F_ring := fun_mk (st := s_ring) l_ring c_ring' k_ring'
  have b_ring := F_ring.binds (ps := ["parts", "w"]) fun _ _ _ _ _ _ us hl => match us, hl with | [_, _], _ => rfl
  have F_shift := fun_mk (st := s_shift) l_shift c_shift' k_shift'
  have b_shift := F_shift.binds (ps := ["parts", "w", "path"]) fun _ _ _ _ _ _ us hl => match us, hl with | [_, _, _], _ => rfl
  have F_rounded := fun_mk (st := s_rounded) l_rounded c_rounded' k_rounded'
  have b_rounded := F_rounded.binds (ps := ["table", "w"]) fun _ _ _ _ _ _ us hl => match us, hl with | [_, _], _ => rfl
  have F_lcell_at := fun_mk (st := s_lcell_at) l_lcell_at c_lcell_at' k_lcell_at'
  have b_lcell_at := F_lcell_at.binds (ps := ["_law_script", "_law_k"]) fun _ _ _ _ _ _ us hl => match us, hl with | [_, _], _ => rfl
  have F_ldraw := fun_mk (st := s_ldraw) l_ldraw c_ldraw' k_ldraw'
  have b_ldraw := F_ldraw.binds (ps := ["_law_cell", "_law_k", "_law_many"]) fun _ _ _ _ _ _ us hl => match us, hl with | [_, _, _], _ => rfl
  have F_lgreat := fun_mk (st := s_lgreat) l_lgreat c_lgreat' k_lgreat'
  have b_lgreat := F_lgreat.binds (ps := ["_law_cell", "_law_k", "_law_most"]) fun _ _ _ _ _ _ us hl => match us, hl with | [_, _, _], _ => rfl
  have F_lwhole := fun_mk (st := s_lwhole) l_lwhole c_lwhole' k_lwhole'
  have b_lwhole := F_lwhole.binds (ps := ["_law_told", "_law_rows", "_law_columns"]) fun _ _ _ _ _ _ us hl => match us, hl with | [_, _, _], _ => rfl
  have F_lnear := fun_mk (st := s_lnear) l_lnear c_lnear' k_lnear'
  have b_lnear := F_lnear.binds (ps := ["_law_made", "_law_whole_here", "_law_w"]) fun _ _ _ _ _ _ us hl => match us, hl with | [_, _, _], _ => rfl
  have F_lnumber := fun_mk (st := s_lnumber) l_lnumber c_lnumber' k_lnumber'
  have b_lnumber := F_lnumber.binds (ps := ["_law_cell"]) fun _ _ _ _ _ _ us hl => match us, hl with | [_], _ => rfl
  have F_lsize := fun_mk (st := s_lsize) l_lsize c_lsize' k_lsize'
  have b_lsize := F_lsize.binds (ps := ["_law_cell", "_law_k"]) fun _ _ _ _ _ _ us hl => match us, hl with | [_, _], _ => rfl
  have F_ldrawn := fun_mk (st := s_ldrawn) l_ldrawn c_ldrawn' k_ldrawn'
  have b_ldrawn := F_ldrawn.binds (ps := ["_law_script", "_law_first"]) fun _ _ _ _ _ _ us hl => match us, hl with | [_, _], _ => rfl
  have F_lright := fun_mk (st := s_lright) l_lright c_lright' k_lright'
  have b_lright := F_lright.binds (ps := ["_law_table", "_law_w", "_law_made"]) fun _ _ _ _ _ _ us hl => match us, hl with | [_, _, _], _ => rfl
  have F_law := fun_mk (st := s_law) l_law c_law' k_law'
  exact ⟨{ a_cell_between := f_cell_between, fd_cell_between := _, F_cell_between := F_cell_between, b_cell_between := b_cell_between, m_cell_between := PySem.W.mg_of X G a_cell_between, a_filled_parts := f_filled_parts, fd_filled_parts := _, F_filled_parts := F_filled_parts, b_filled_parts := b_filled_parts, m_filled_parts := PySem.W.mg_of X G a_filled_parts, a_filled := f_filled, fd_filled := _, F_filled := F_filled, b_filled := b_filled, m_filled := PySem.W.mg_of X G a_filled, a_next_node := f_next_node, fd_next_node := _, F_next_node := F_next_node, b_next_node := b_next_node, m_next_node := PySem.W.mg_of X G a_next_node, a_ring := f_ring, fd_ring := _, F_ring := F_ring, b_ring := b_ring, m_ring := PySem.W.mg_of X G a_ring, a_shift := f_shift, fd_shift := _, F_shift := F_shift, b_shift := b_shift, m_shift := PySem.W.mg_of X G a_shift, a_rounded := f_rounded, fd_rounded := _, F_rounded := F_rounded, b_rounded := b_rounded, m_rounded := PySem.W.mg_of X G a_rounded, a_lcell_at := f_lcell_at, fd_lcell_at := _, F_lcell_at := F_lcell_at, b_lcell_at := b_lcell_at, m_lcell_at := PySem.W.mg_of X G a_lcell_at, a_ldraw := f_ldraw, fd_ldraw := _, F_ldraw := F_ldraw, b_ldraw := b_ldraw, m_ldraw := PySem.W.mg_of X G a_ldraw, a_lgreat := f_lgreat, fd_lgreat := _, F_lgreat := F_lgreat, b_lgreat := b_lgreat, m_lgreat := PySem.W.mg_of X G a_lgreat, a_lwhole := f_lwhole, fd_lwhole := _, F_lwhole := F_lwhole, b_lwhole := b_lwhole, m_lwhole := PySem.W.mg_of X G a_lwhole, a_lnear := f_lnear, fd_lnear := _, F_lnear := F_lnear, b_lnear := b_lnear, m_lnear := PySem.W.mg_of X G a_lnear, a_lnumber := f_lnumber, fd_lnumber := _, F_lnumber := F_lnumber, b_lnumber := b_lnumber, m_lnumber := PySem.W.mg_of X G a_lnumber, a_lsize := f_lsize, fd_lsize := _, F_lsize := F_lsize, b_lsize := b_lsize, m_lsize := PySem.W.mg_of X G a_lsize, a_ldrawn := f_ldrawn, fd_ldrawn := _, F_ldrawn := F_ldrawn, b_ldrawn := b_ldrawn, m_ldrawn := PySem.W.mg_of X G a_ldrawn, a_lright := f_lright, fd_lright := _, F_lright := F_lright, b_lright := b_lright, m_lright := PySem.W.mg_of X G a_lright, a_law := f_law, fd_law := _, F_law := F_law, n_isinstance := PySem.W.mg_none_of X G z_isinstance, n_int := PySem.W.mg_none_of X G z_int, n_bool := PySem.W.mg_none_of X G z_bool, n_list := PySem.W.mg_none_of X G z_list, n_len := PySem.W.mg_none_of X G z_len, n_min := PySem.W.mg_none_of X G z_min, n_max := PySem.W.mg_none_of X G z_max, n_range := PySem.W.mg_none_of X G z_range, n_sum := PySem.W.mg_none_of X G z_sum }, PySem.W.mg_of X G a_law, fun s v => .of_eq rfl⟩
end K9
open PySem PySem.W PyProof.Rows
set_option maxRecDepth 100000 in
set_option maxHeartbeats 0 in
theorem PySem.Challenge.cw_seatweave_k09_whole_rounded_holds : PySem.Challenge.rw_seatweave_k09_whole_rounded.Holds := by
  w_on; o_law; k_head; (case hw => w_witness2)
  k_fill
  refine L2.walk_ofK (l := PySem.Challenge.rw_seatweave_k09_whole_rounded) (n := 63) (k := 5) (x := "_law_script") (CX := L2.CX0) (sp := SW.spLaw) rfl (by decide) rfl ⟨rfl, by decide, by decide⟩ (fun w h Y => PySem.W.kIn_of Y) ?F (fun K H a ns hl _ hS => ⟨a, ns, rfl, hS, hl, fun _ => rfl⟩) fun _ _ _ _ z => z
  case F =>
    intro w mg fa h KX G hmg
    have T : ∃ T : K9.Txt (L2.KOf KX) mg, mg "law" = some (.ref T.a_law) ∧ ∀ (s : Shared) (v : Value), BindsTo s T.fd_law ⟨[v], []⟩ [("_law_script", v)] := by
      dsimp only [L2.KOf]
      refine' K9.txt_mk KX G ?a_cell_between ?l_cell_between ?c_cell_between' ?k_cell_between' ?a_filled_parts ?l_filled_parts ?c_filled_parts' ?k_filled_parts' ?a_filled ?l_filled ?c_filled' ?k_filled' ?a_next_node ?l_next_node ?c_next_node' ?k_next_node' ?a_ring ?l_ring ?c_ring' ?k_ring' ?a_shift ?l_shift ?c_shift' ?k_shift' ?a_rounded ?l_rounded ?c_rounded' ?k_rounded' ?a_lcell_at ?l_lcell_at ?c_lcell_at' ?k_lcell_at' ?a_ldraw ?l_ldraw ?c_ldraw' ?k_ldraw' ?a_lgreat ?l_lgreat ?c_lgreat' ?k_lgreat' ?a_lwhole ?l_lwhole ?c_lwhole' ?k_lwhole' ?a_lnear ?l_lnear ?c_lnear' ?k_lnear' ?a_lnumber ?l_lnumber ?c_lnumber' ?k_lnumber' ?a_lsize ?l_lsize ?c_lsize' ?k_lsize' ?a_ldrawn ?l_ldrawn ?c_ldrawn' ?k_ldrawn' ?a_lright ?l_lright ?c_lright' ?k_lright' ?a_law ?l_law ?c_law' ?k_law' ?z_isinstance ?z_int ?z_bool ?z_list ?z_len ?z_min ?z_max ?z_range ?z_sum
      (case a_cell_between => first | k_is | kit_is | kts_exm | k_exc)
      (case l_cell_between => first | k_is | kit_is | kts_exm | k_exc)
      (case c_cell_between' => first | k_is | kit_is | kts_exm | k_exc)
      (case k_cell_between' => first | k_is | kit_is | kts_exm | k_exc)
      (case a_filled_parts => first | k_is | kit_is | kts_exm | k_exc)
      (case l_filled_parts => first | k_is | kit_is | kts_exm | k_exc)
      (case c_filled_parts' => first | k_is | kit_is | kts_exm | k_exc)
      (case k_filled_parts' => first | k_is | kit_is | kts_exm | k_exc)
      (case a_filled => first | k_is | kit_is | kts_exm | k_exc)
      (case l_filled => first | k_is | kit_is | kts_exm | k_exc)
      (case c_filled' => first | k_is | kit_is | kts_exm | k_exc)
      (case k_filled' => first | k_is | kit_is | kts_exm | k_exc)
      (case a_next_node => first | k_is | kit_is | kts_exm | k_exc)
      (case l_next_node => first | k_is | kit_is | kts_exm | k_exc)
      (case c_next_node' => first | k_is | kit_is | kts_exm | k_exc)
      (case k_next_node' => first | k_is | kit_is | kts_exm | k_exc)
      (case a_ring => first | k_is | kit_is | kts_exm | k_exc)
      (case l_ring => first | k_is | kit_is | kts_exm | k_exc)
      (case c_ring' => first | k_is | kit_is | kts_exm | k_exc)
      (case k_ring' => first | k_is | kit_is | kts_exm | k_exc)
      (case a_shift => first | k_is | kit_is | kts_exm | k_exc)
      (case l_shift => first | k_is | kit_is | kts_exm | k_exc)
      (case c_shift' => first | k_is | kit_is | kts_exm | k_exc)
      (case k_shift' => first | k_is | kit_is | kts_exm | k_exc)
      (case a_rounded => first | k_is | kit_is | kts_exm | k_exc)
      (case l_rounded => first | k_is | kit_is | kts_exm | k_exc)
      (case c_rounded' => first | k_is | kit_is | kts_exm | k_exc)
      (case k_rounded' => first | k_is | kit_is | kts_exm | k_exc)
      (case a_lcell_at => first | k_is | kit_is | kts_exm | k_exc)
      (case l_lcell_at => first | k_is | kit_is | kts_exm | k_exc)
      (case c_lcell_at' => first | k_is | kit_is | kts_exm | k_exc)
      (case k_lcell_at' => first | k_is | kit_is | kts_exm | k_exc)
      (case a_ldraw => first | k_is | kit_is | kts_exm | k_exc)
      (case l_ldraw => first | k_is | kit_is | kts_exm | k_exc)
      (case c_ldraw' => first | k_is | kit_is | kts_exm | k_exc)
      (case k_ldraw' => first | k_is | kit_is | kts_exm | k_exc)
      (case a_lgreat => first | k_is | kit_is | kts_exm | k_exc)
      (case l_lgreat => first | k_is | kit_is | kts_exm | k_exc)
      (case c_lgreat' => first | k_is | kit_is | kts_exm | k_exc)
      (case k_lgreat' => first | k_is | kit_is | kts_exm | k_exc)
      (case a_lwhole => first | k_is | kit_is | kts_exm | k_exc)
      (case l_lwhole => first | k_is | kit_is | kts_exm | k_exc)
      (case c_lwhole' => first | k_is | kit_is | kts_exm | k_exc)
      (case k_lwhole' => first | k_is | kit_is | kts_exm | k_exc)
      (case a_lnear => first | k_is | kit_is | kts_exm | k_exc)
      (case l_lnear => first | k_is | kit_is | kts_exm | k_exc)
      (case c_lnear' => first | k_is | kit_is | kts_exm | k_exc)
      (case k_lnear' => first | k_is | kit_is | kts_exm | k_exc)
      (case a_lnumber => first | k_is | kit_is | kts_exm | k_exc)
      (case l_lnumber => first | k_is | kit_is | kts_exm | k_exc)
      (case c_lnumber' => first | k_is | kit_is | kts_exm | k_exc)
      (case k_lnumber' => first | k_is | kit_is | kts_exm | k_exc)
      (case a_lsize => first | k_is | kit_is | kts_exm | k_exc)
      (case l_lsize => first | k_is | kit_is | kts_exm | k_exc)
      (case c_lsize' => first | k_is | kit_is | kts_exm | k_exc)
      (case k_lsize' => first | k_is | kit_is | kts_exm | k_exc)
      (case a_ldrawn => first | k_is | kit_is | kts_exm | k_exc)
      (case l_ldrawn => first | k_is | kit_is | kts_exm | k_exc)
      (case c_ldrawn' => first | k_is | kit_is | kts_exm | k_exc)
      (case k_ldrawn' => first | k_is | kit_is | kts_exm | k_exc)
      (case a_lright => first | k_is | kit_is | kts_exm | k_exc)
      (case l_lright => first | k_is | kit_is | kts_exm | k_exc)
      (case c_lright' => first | k_is | kit_is | kts_exm | k_exc)
      (case k_lright' => first | k_is | kit_is | kts_exm | k_exc)
      (case a_law => first | k_is | kit_is | kts_exm | k_exc)
      (case l_law => first | k_is | kit_is | kts_exm | k_exc)
      (case c_law' => first | k_is | kit_is | kts_exm | k_exc)
      (case k_law' => first | k_is | kit_is | kts_exm | k_exc)
      (case z_isinstance => first | k_is | kit_is | kts_exm | k_exc)
      (case z_int => first | k_is | kit_is | kts_exm | k_exc)
      (case z_bool => first | k_is | kit_is | kts_exm | k_exc)
      (case z_list => first | k_is | kit_is | kts_exm | k_exc)
      (case z_len => first | k_is | kit_is | kts_exm | k_exc)
      (case z_min => first | k_is | kit_is | kts_exm | k_exc)
      (case z_max => first | k_is | kit_is | kts_exm | k_exc)
      (case z_range => first | k_is | kit_is | kts_exm | k_exc)
      (case z_sum => first | k_is | kit_is | kts_exm | k_exc)
    obtain ⟨T, e1, hb⟩ := T
    have e := hmg.symm.trans e1
    cases e
    exact ⟨T.fd_law, hb, fun base _ _ => K9.ok_law T⟩
#print axioms PySem.Challenge.cw_seatweave_k09_whole_rounded_holds
